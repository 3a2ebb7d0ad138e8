import PyProof.Rows.All
import Wide.All
import OpenK.AllK
import Wide.FinOn
import Lean
import PyProof.EqAt
import PyProof.EqKinds
import PyProof.TupleCall
import PyProof.FitsReplace
import PyProof.StrLawsChain
import PyProof.IsiH_list
import KE.KDictOf
import PyProof.Rows.Exc
import PyProof.RulesTry
import PyProof.ForAppend
import PyProof.Rows.Tup
import PyProof.CollectWalk
import PyProof.Rows.DictListVals
import PyProof.AutoSeq1
import PyProof.FactsAll.list_3
import KE.KDictSum
import PyProof.Rows.SortStr
import PyProof.Rows.SortWalk
import PyProof.SetKind
import PyProof.Rows.SetObj
import PyProof.DictKinds
import PyProof.DictIter
import PyProof.MakeMany
import PyProof.WalksS
import PyProof.Walks
import PyProof.Seq
import PyProof.TupleIter
import PyProof.FactsAll.set_1
import PyProof.ForAny
import PyProof.Rows.SetFrom
import PyProof.Rows.StrMeet
import PyProof.NeKinds
import PyProof.ZipIter
import PyProof.EnumMake
import PyProof.EnumFor
import PyProof.Rows.EnumRows
import PyProof.Rows.Range3
import KE.KDictList
import PyProof.DictWalks
import PyProof.AutoListH
import PyProof.FactsAll.list_2
import PyProof.CallType
import PyProof.ListNew
import PyProof.Conv_int_bool
import PyProof.ConsumeWalk
import OpenK.KOwn
import OpenK.KRaise
import PyProof.ExcClass3
import PyProof.RulesAs
import PyProof.NsDelKeeps
import PyProof.StationsW
import PyProof.Rows.Catch
import PyProof.ExcArgs
import KE.KIsAll
import KE.KIsNot
import PyProof.FString
import PyProof.ExcBaseAll.ValueError
import PySem.Challenge.RW_clashbook_k43_first_open_reading
namespace PySem.W.Fast
def tw6302088768365813063:=0
def tw3544622836779113604:=0
def tw12100331358750523400:=0
def tw6355438556374491612:=0
def tw11786616031801272341:=0
def tw2167959043321293602:=0
def tw5432357888220471068:=0
def tw785433207693369834:=0
def tw292992153889803095:=0
def tw2213995524732875085:=0
def tw3827554333796555468:=0
end PySem.W.Fast
set_option Elab.async false
set_option linter.all false
set_option maxRecDepth 100000
namespace L2
open PySem PySem.Spec PyProof.Rows
abbrev Key := Sum Int Str
def keyIs : Key -> Value -> Bool
 | .inl k, v => Value.isInt k v
 | .inr x, v => Value.isStrOf x v
def keyH (w : World) : Key -> Int
 | .inl k => hashInt k
 | .inr x => hashStr w x
theorem keyIs_shape : ∀ {k : Key} {v : Value}, keyIs k v = true -> (∃ i t, k = Sum.inl i /\ v = Value.int i t) \/ (∃ x t, k = Sum.inr x /\ v = Value.str x t)
 | .inl i, v, h => by
   obtain ⟨t, e⟩ := Value.isInt_shape (k := i) (v := v) h
   exact .inl ⟨i, t, rfl, e⟩
 | .inr x, v, h => by
   obtain ⟨t, e⟩ := Value.isStrOf_shape (x := x) (v := v) h
   exact .inr ⟨x, t, rfl, e⟩
theorem keyIs_int (i : Int) (t : Tok) : keyIs (.inl i) (.int i t) = true := by simp [keyIs, Value.isInt]
theorem keyIs_str (x : Str) (t : Tok) : keyIs (.inr x) (.str x t) = true := by simp [keyIs, Value.isStrOf]
theorem key_ll (a b : Int) : decide ((Sum.inl a : Key) = Sum.inl b) = (a == b) := by
 by_cases e : a = b
 · subst e; simp
 · have h : ¬ (Sum.inl a : Key) = Sum.inl b := fun q => e (Sum.inl.inj q)
   rw [decide_eq_false h]
   exact (beq_eq_false_iff_ne.mpr e).symm
theorem key_rr (a b : Str) : decide ((Sum.inr a : Key) = Sum.inr b) = decide (a = b) := by
 by_cases e : a = b
 · subst e; simp
 · have h : ¬ (Sum.inr a : Key) = Sum.inr b := fun q => e (Sum.inr.inj q)
   rw [decide_eq_false h, decide_eq_false e]
theorem key_lr (a : Int) (b : Str) : decide ((Sum.inl a : Key) = Sum.inr b) = false := decide_eq_false (fun q => nomatch q)
theorem key_rl (a : Str) (b : Int) : decide ((Sum.inr a : Key) = Sum.inl b) = false := decide_eq_false (fun q => nomatch q)
def yF (prog : Program) (w : World) : PySem.KeyKind prog w Key where
 is := keyIs
 hash := keyH w
 inj := fun v a b ha hb => by
   rcases keyIs_shape ha with ⟨i, t, rfl, rfl⟩ | ⟨x, t, rfl, rfl⟩
   · rcases keyIs_shape hb with ⟨j, u, rfl, e⟩ | ⟨y, u, rfl, e⟩
     · injection e with e1 _; rw [e1]
     · exact nomatch e
   · rcases keyIs_shape hb with ⟨j, u, rfl, e⟩ | ⟨y, u, rfl, e⟩
     · exact nomatch e
     · injection e with e1 _; rw [e1]
 byValue := fun k v h => by
   rcases keyIs_shape h with ⟨i, t, rfl, rfl⟩ | ⟨x, t, rfl, rfl⟩ <;> rfl
 pyHash := fun hv h => by
   rcases keyIs_shape hv with ⟨i, t, rfl, rfl⟩ | ⟨x, t, rfl, rfl⟩
   · exact wpAny_pyHash_int h
   · exact wpAny_pyHash_str h
 eqBool := fun hu hv h => by
   rcases keyIs_shape hu with ⟨i, t, rfl, rfl⟩ | ⟨x, t, rfl, rfl⟩
   · rcases keyIs_shape hv with ⟨j, u, rfl, rfl⟩ | ⟨y, u, rfl, rfl⟩
     · rw [key_ll] at h; exact wpAny_eqBool_int h
     · rw [key_lr] at h; exact SeqAt.EqAt.int_str i t y u _ _ _ _ h
   · rcases keyIs_shape hv with ⟨j, u, rfl, rfl⟩ | ⟨y, u, rfl, rfl⟩
     · rw [key_rl] at h; exact SeqAt.EqAt.str_int x t j u _ _ _ _ h
     · rw [key_rr] at h; exact wpAny_eqBool_str h
 «strs» := fun k x t v h => by
   rcases keyIs_shape h with ⟨i, u, rfl, e⟩ | ⟨y, u, rfl, e⟩
   · exact nomatch e
   · injection e with e1 _
     subst e1
     cases v <;> rfl
theorem mixKind_int (prog : Program) (w : World) (i : Int) (t : Tok) : (yF prog w).is (.inl i) (.int i t) = true := keyIs_int i t
theorem jZ (prog : Program) (w : World) (x : Str) (t : Tok) : (yF prog w).is (.inr x) (.str x t) = true := keyIs_str x t
inductive V where
 | non | bl (b : Bool) | int (i : Int) | str (x : Str) | byt (b : Array UInt8) | flt (b : UInt64) | ref (a : Addr) | ty (n : String)
 deriving DecidableEq
def RelV : V -> Value -> Prop
 | .non, u => u = Value.none
 | .bl b, u => u = Value.bool b
 | .int i, u => ∃ t, u = Value.int i t
 | .str x, u => ∃ t, u = Value.str x t
 | .byt b, u => ∃ t, u = Value.bytes b t
 | .flt b, u => ∃ t, u = Value.float b t
 | .ref a, u => u = Value.ref a
 | .ty n, u => u = Value.type n
abbrev Vals : List V -> List Value -> Prop := Paired RelV
theorem Vals.length {xs : List V} {us : List Value} (r : Vals xs us) : xs.length = us.length := Paired.length r
theorem Vals.get : ∀ {xs : List V} {us : List Value} {i : Nat} {x : V}, Vals xs us -> xs[i]? = some x -> ∃ u, us[i]? = some u /\ RelV x u
 | _, _, _, _, .nil, e => by simp at e
 | _, _, 0, _, .cons r _, e => by simp at e; subst e; exact ⟨_, rfl, r⟩
 | _, _, i + 1, x, .cons _ t, e => by
   obtain ⟨u, h1, h2⟩ := Vals.get (i := i) (x := x) t (by simpa using e)
   exact ⟨u, by simpa using h1, h2⟩
theorem Vals.set {x : V} {u : Value} (r : RelV x u) : ∀ {xs : List V} {us : List Value} (i : Nat), Vals xs us -> Vals (xs.set i x) (us.set i u)
 | _, _, _, .nil => .nil
 | _, _, 0, .cons _ t => .cons r t
 | _, _, i + 1, .cons q t => .cons q (Vals.set r i t)
theorem Vals.append : ∀ {xs ys : List V} {us ws : List Value}, Vals xs us -> Vals ys ws -> Vals (xs ++ ys) (us ++ ws)
 | _, _, _, _, .nil, s => s
 | _, _, _, _, .cons r t, s => .cons r (Vals.append t s)
theorem Vals.take : ∀ {xs : List V} {us : List Value} (n : Nat), Vals xs us -> Vals (xs.take n) (us.take n)
 | _, _, 0, _ => .nil
 | _, _, _ + 1, .nil => .nil
 | _, _, n + 1, .cons r t => .cons r (Vals.take n t)
theorem Vals.drop : ∀ {xs : List V} {us : List Value} (n : Nat), Vals xs us -> Vals (xs.drop n) (us.drop n)
 | _, _, 0, r => r
 | _, _, _ + 1, .nil => .nil
 | _, _, n + 1, .cons _ t => Vals.drop n t
def RelO : Option V -> Option Value -> Prop
 | some v, some u => RelV v u
 | none, none => True
 | _, _ => False
def KV {κ : Type} : List (κ × V) -> List (κ × Value) -> Prop := Paired fun (p : κ × V) (q : κ × Value) => p.1 = q.1 /\ RelV p.2 q.2
def kV : Key -> V
 | .inl i => .int i
 | .inr x => .str x
inductive HO where
 | lst (xs : List V)
 | tup (xs : List V)
 | dK (kvs : List (Key × V)) | dT (kvs : List (List Key × V))
 | set (S : Int -> Bool) (n : Nat)
 | ins (C dx : Addr) (fs : List (Str × V))
 | own (x : Addr)
 | xd (fs : List (Str × V))
 | met (f x : Addr)
 | rng (lo hi : Int)
 | frz (o : Obj) (u : HO)
 | tbl (ps : Array Value)
 | ext (φ : Heap -> Prop)
abbrev Hp := Addr -> Option HO
def upd (H : Hp) (a : Addr) (o : HO) : Hp := fun b => if b = a then some o else H b
theorem zC {H : Hp} {a : Addr} {o : HO} : upd H a o a = some o := by unfold upd; rw [if_pos rfl]
theorem zU {H : Hp} {a b : Addr} {o : HO} (h : b ≠ a) : upd H a o b = H b := by unfold upd; rw [if_neg h]
theorem upd_upd {H : Hp} {a : Addr} {o u : HO} : upd (upd H a o) a u = upd H a u := by
 funext b; unfold upd; split <;> rfl
theorem ne_of {H : Hp} {a b : Addr} {o u : HO} (h : H a = some o) (h' : H b = some u) (d : o ≠ u) : a ≠ b := by
 intro e; subst e; rw [h] at h'; exact d (Option.some.inj h')
theorem yH {H : Hp} {a b : Addr} {o : HO} (h : H a = some o) (h' : H b = none) : a ≠ b := by
 intro e; subst e; rw [h] at h'; cases h'
section
variable (P : Program) (w : World)
def ObjOk (H : Hp) (h : Heap) (a : Addr) : HO -> Prop
 | .lst xs => xs.length <= sizeLine /\ ∃ (its : List Value) (n : Nat), Vals xs its /\ h.get? a = some { cls := .type "list", data := .seq its.toArray n }
 | .tup xs => xs.length <= sizeLine /\ ∃ its : List Value, Vals xs its /\ IsTup h a its.toArray
 | .dK kvs => kvs.length <= sizeLine /\ (a == sysModules) = false /\ ∃ vs, KV kvs vs /\ h.DictOf (yF P w) a vs
 | .dT kvs => kvs.length <= sizeLine /\ (a == sysModules) = false /\ ∃ xs : List (List Key × Addr × Value),
     Paired (fun (p : List Key × V) (q : List Key × Addr × Value) => p.1 = q.1 /\ H q.2.1 = some (.tup (p.1.map kV)) /\ RelV p.2 q.2.2) kvs xs /\
     ∃ o es ep, h.get? a = some o /\ o.ExactDict /\ o.data = .dict es ep /\ es.toList = xs.map (entryOfKey (tupleKind (yF P w))) /\ (xs.map (·.1)).Nodup
 | .set S n => h.SetOf (intKind P w) a S n
 | .ins C dx fs => H dx = some (.own a) /\ fs.length <= 1000 /\ dx ≠ a /\ h.get? a = some (PySem.W.instObj C dx) /\
     ∃ mA, h.Ns1 dx mA /\ (∀ f, RelO (fs.lookup f) (mA f)) /\ PySem.Within mA (fs.map (·.1))
 | .own _ => ∃ o, h.get? a = some o
 | .xd fs => ∃ mA, h.Ns1 a mA /\ ∀ f, RelO (fs.lookup f) (mA f)
 | .rng lo hi => ∃ t u v, h.get? a = some { cls := .type "range", data := .fields #[.int lo t, .int hi u, .int 1 v] }
 | .frz o u => h.get? a = some o /\ ObjOk H h a u
 | .tbl ps => h.get? a = some { cls := .none, data := .fields ps }
 | .met f x => h.get? a = some (PySem.W.methodObj (.ref f) (.ref x))
 | .ext φ => φ h /\ (∃ o, h.get? a = some o) /\ ∀ h1 h2 : Heap, φ h1 -> (∀ o, h1.get? a = some o -> h2.get? a = some o) -> φ h2
def HOk (H : Hp) (h : Heap) : Prop := ∀ a o, H a = some o -> ObjOk P w H h a o
end
section
variable {P : Program} {w : World} {H H' : Hp} {h h' : Heap} {a : Addr} {o : HO}
theorem ObjOk.lt (x : ObjOk P w H h a o) : a < h.objs.size := by
 cases o with
 | lst xs => obtain ⟨_, _, _, _, e⟩ := x; exact Heap.lt_size e
 | tup xs => obtain ⟨_, _, _, p⟩ := x; exact p.lt
 | dK kvs => obtain ⟨_, _, _, _, o, _, _, e, _⟩ := x; exact Heap.lt_size e
 | dT kvs => obtain ⟨_, _, _, _, o, _, _, e, _⟩ := x; exact Heap.lt_size e
 | set S n => obtain ⟨o, _, _, _, e, _⟩ := x; exact Heap.lt_size e
 | ins C dx fs => obtain ⟨_, _, _, e, _⟩ := x; exact Heap.lt_size e
 | own y => obtain ⟨_, e⟩ := x; exact Heap.lt_size e
 | xd fs => obtain ⟨_, ⟨_, _, _, e, _⟩, _⟩ := x; exact Heap.lt_size e
 | rng lo hi => obtain ⟨_, _, _, e⟩ := x; exact Heap.lt_size e
 | frz ob u => obtain ⟨e, _⟩ := x; exact Heap.lt_size e
 | tbl ps => exact Heap.lt_size (show h.get? a = some _ from x)
 | met f y => exact Heap.lt_size (show h.get? a = some _ from x)
 | ext φ => obtain ⟨_, ⟨_, e⟩, _⟩ := x; exact Heap.lt_size e
theorem Paired.mapP {α β : Type} {F G : α -> β -> Prop} : ∀ {l₁ : List α} {l₂ : List β}, Paired F l₁ l₂ -> (∀ a b, F a b -> G a b) -> Paired G l₁ l₂
 | _, _, .nil, _ => .nil
 | _, _, .cons r t, f => .cons (f _ _ r) (Paired.mapP t f)
theorem ObjOk.stay (x : ObjOk P w H h a o) (k : ∀ b u, (b = a \/ H b = some (.own a)) -> h.get? b = some u -> h'.get? b = some u)
   (ho : ∀ b, H b = some (.own a) -> H' b = some (.own a)) (ht : ∀ b xs, H b = some (.tup xs) -> H' b = some (.tup xs)) : ObjOk P w H' h' a o := by
 induction o with
 | lst xs => obtain ⟨z, its, n, r, e⟩ := x; exact ⟨z, its, n, r, k _ _ (.inl rfl) e⟩
 | tup xs => obtain ⟨z, its, r, ob, e, c⟩ := x; exact ⟨z, its, r, ob, k _ _ (.inl rfl) e, c⟩
 | dK kvs => obtain ⟨z, y, vs, r, ob, es, ep, e, c⟩ := x; exact ⟨z, y, vs, r, ob, es, ep, k _ _ (.inl rfl) e, c⟩
 | dT kvs =>
   obtain ⟨z, y, xs, r, ob, es, ep, e, c⟩ := x
   exact ⟨z, y, xs, Paired.mapP r fun p q z => ⟨z.1, ht _ _ z.2.1, z.2.2⟩, ob, es, ep, k _ _ (.inl rfl) e, c⟩
 | set S n => obtain ⟨ob, es, ep, t, e, c⟩ := x; exact ⟨ob, es, ep, t, k _ _ (.inl rfl) e, c⟩
 | ins C dx fs =>
   obtain ⟨d, z, ne, e, mA, ⟨od, es, ep, e2, c⟩, r⟩ := x
   exact ⟨ho _ d, z, ne, k _ _ (.inl rfl) e, mA, ⟨od, es, ep, k _ _ (.inr d) e2, c⟩, r⟩
 | own y => obtain ⟨ob, e⟩ := x; exact ⟨ob, k _ _ (.inl rfl) e⟩
 | xd fs => obtain ⟨mA, ⟨od, es, ep, e, c⟩, r⟩ := x; exact ⟨mA, ⟨od, es, ep, k _ _ (.inl rfl) e, c⟩, r⟩
 | rng lo hi => obtain ⟨t, u, v, e⟩ := x; exact ⟨t, u, v, k _ _ (.inl rfl) e⟩
 | frz ob u ih => obtain ⟨e, q⟩ := x; exact ⟨k _ _ (.inl rfl) e, ih q⟩
 | tbl ps =>
   have e : h.get? a = some { cls := .none, data := .fields ps } := x
   show h'.get? a = some { cls := .none, data := .fields ps }
   exact k a _ (.inl rfl) e
 | met f y =>
   have e : h.get? a = some (PySem.W.methodObj (.ref f) (.ref y)) := x
   show h'.get? a = some (PySem.W.methodObj (.ref f) (.ref y))
   exact k a _ (.inl rfl) e
 | ext φ => obtain ⟨p, ⟨o, e⟩, st⟩ := x; exact ⟨st _ _ p fun o q => k _ _ (.inl rfl) q, ⟨o, k _ _ (.inl rfl) e⟩, st⟩
theorem HOk.lt (x : HOk P w H h) (e : H a = some o) : a < h.objs.size := (x a o e).lt
theorem HOk.fresh (x : HOk P w H h) (e : h.objs.size <= a) : H a = none := by
 cases q : H a with
 | none => rfl
 | some u => exact absurd (Nat.lt_of_lt_of_le (x.lt q) e) (Nat.lt_irrefl _)
theorem HOk.kept (x : HOk P w H h) (k : ∀ b u, h.get? b = some u -> h'.get? b = some u) : HOk P w H h' := fun a o e =>
 (x a o e).stay (fun b u _ q => k b u q) (fun _ q => q) fun _ _ q => q
theorem HOk.laid (x : HOk P w H h) (k : ∀ b u, h.get? b = some u -> h'.get? b = some u) (hp : h.objs.size <= a) (new : ObjOk P w (upd H a o) h' a o) : HOk P w (upd H a o) h' := fun b u e => by
 have hn := x.fresh hp
 by_cases hb : b = a
 · subst hb; rw [zC] at e; cases e; exact new
 · rw [zU hb] at e
   exact (x b u e).stay (fun c v _ q => k c v q) (fun c q => by rw [zU (yH q hn)]; exact q) fun c xs q => by rw [zU (yH q hn)]; exact q
end
def Rd (H : Hp) (a : Addr) (u : HO) : Prop := H a = some u \/ ∃ o, H a = some (.frz o u)
theorem Rd.ok {P : Program} {w : World} {H : Hp} {h : Heap} {a : Addr} {u : HO} (r : Rd H a u) (x : HOk P w H h) : ObjOk P w H h a u := by
 rcases r with r | ⟨o, r⟩
 · exact x a u r
 · obtain ⟨_, q⟩ := x a _ r
   exact q
def Mut : Option HO -> Prop
 | some (.lst _) => True
 | some (.dK _) => True
 | some (.dT _) => True
 | some (.set _ _) => True
 | some (.ins _ _ _) => True
 | some (.ext _) => True
 | _ => False
section
variable {P : Program} {w : World} {H : Hp} {h h' : Heap} {x e : Addr} {o' : HO}
theorem HOk.write (ok : HOk P w H h) (mu : Mut (H x)) (he : e = x \/ H e = some (.own x)) (k : ∀ b u, b ≠ e -> h.get? b = some u -> h'.get? b = some u) (heo : ∃ u, h'.get? e = some u)
   (new : ObjOk P w (upd H x o') h' x o') : HOk P w (upd H x o') h' := fun b u q => by
 have nown : ∀ c y, H c = some (.own y) -> c ≠ x := fun c y r z => by subst z; rw [r] at mu; exact mu
 have ntup : ∀ c xs, H c = some (.tup xs) -> c ≠ x := fun c xs r z => by subst z; rw [r] at mu; exact mu
 by_cases hb : b = x
 · subst hb; rw [zC] at q; cases q; exact new
 · rw [zU hb] at q
   by_cases hbe : b = e
   · have q' : H b = some (.own x) := by
       rcases he with z | z
       · exact absurd (hbe.trans z) hb
       · rw [hbe]; exact z
     rw [q] at q'; cases q'
     obtain ⟨v, hv⟩ := heo
     exact ⟨v, by rw [hbe]; exact hv⟩
   · refine (ok b u q).stay (fun c v hc r => k c v ?_ r) (fun c r => by rw [zU (nown c b r)]; exact r) fun c xs r => by rw [zU (ntup c xs r)]; exact r
     rcases hc with rfl | hc
     · exact hbe
     · rintro rfl
       rcases he with z | z
       · exact nown c b hc z
       · rw [hc] at z; cases z; exact hb rfl
end
structure Un (fs ex : List Addr) (H H' : Hp) (h h' : Heap) : Prop where
 keep : ∀ b o, h.get? b = some o -> H b = none -> b ∉ fs -> b ∉ ex -> h'.get? b = some o
 slot : ∀ b o, h.get? b = some o -> H b = none -> b ∈ fs -> b ∉ ex -> ∃ sl, h'.get? b = some { o with slots := sl }
 free : ∀ b o, h.get? b = some o -> H b = none -> b ∉ ex -> H' b = none
 there : ∀ b o, h.get? b = some o -> b ∉ ex -> ∃ o', h'.get? b = some o'
 tups : ∀ b xs, H b = some (.tup xs) -> H' b = some (.tup xs)
 frzs : ∀ b o u, H b = some (.frz o u) -> H' b = some (.frz o u)
 tbls : ∀ b ps, H b = some (.tbl ps) -> ∃ more, H' b = some (.tbl (ps ++ more))
section
variable {fs fs' ex ex' : List Addr} {H H1 H2 : Hp} {h h1 h2 h' : Heap} {a x e : Addr} {o : HO}
theorem Un.any (u : Un fs ex H H1 h h1) {b : Addr} {ob : Obj} (q : h.get? b = some ob) (n : H b = none) (hx : b ∉ ex) : ∃ sl, h1.get? b = some { ob with slots := sl } := by
 by_cases hb : b ∈ fs
 · exact u.slot b ob q n hb hx
 · exact ⟨ob.slots, u.keep b ob q n hb hx⟩
theorem Un.trans (a : Un fs ex H H1 h h1) (b : Un fs ex H1 H2 h1 h2) : Un fs ex H H2 h h2 where
 keep := fun c ob q n hc hx => b.keep c ob (a.keep c ob q n hc hx) (a.free c ob q n hx) hc hx
 slot := fun c ob q n hc hx => by
   obtain ⟨sl, e1⟩ := a.slot c ob q n hc hx
   obtain ⟨sl', e2⟩ := b.slot c _ e1 (a.free c ob q n hx) hc hx
   exact ⟨sl', e2⟩
 free := fun c ob q n hx => by
   obtain ⟨o', e1⟩ := a.there c ob q hx
   exact b.free c o' e1 (a.free c ob q n hx) hx
 there := fun c ob q hx => by
   obtain ⟨o', e1⟩ := a.there c ob q hx
   exact b.there c o' e1 hx
 tups := fun c xs q => b.tups c xs (a.tups c xs q)
 frzs := fun c ob xs q => b.frzs c ob xs (a.frzs c ob xs q)
 tbls := fun c ps q => by
   obtain ⟨m1, e1⟩ := a.tbls c ps q
   obtain ⟨m2, e2⟩ := b.tbls c _ e1
   exact ⟨m1 ++ m2, by rw [e2, Array.append_assoc]⟩
theorem Un.kept (k : ∀ b u, h.get? b = some u -> h'.get? b = some u) : Un fs ex H H h h' :=
 ⟨fun b ob q _ _ _ => k b ob q, fun b ob q _ _ _ => ⟨ob.slots, k b ob q⟩, fun _ _ _ n _ => n, fun b ob q _ => ⟨ob, k b ob q⟩, fun _ _ q => q, fun _ _ _ q => q, fun _ ps q => ⟨#[], by rw [q]; simp⟩⟩
theorem Un.refl : Un fs ex H H h h := Un.kept fun _ _ q => q
theorem Un.laid (k : ∀ b u, h.get? b = some u -> h'.get? b = some u) (hp : h.objs.size <= a) (hn : H a = none) : Un fs ex H (upd H a o) h h' where
 keep := fun b u q _ _ _ => k b u q
 slot := fun b u q _ _ _ => ⟨u.slots, k b u q⟩
 free := fun b u q n _ => by rw [zU (Nat.ne_of_lt (Nat.lt_of_lt_of_le (Heap.lt_size q) hp))]; exact n
 there := fun b u q _ => ⟨u, k b u q⟩
 tups := fun b xs q => by rw [zU (yH q hn)]; exact q
 frzs := fun b u xs q => by rw [zU (yH q hn)]; exact q
 tbls := fun b ps q => ⟨#[], by rw [zU (yH q hn), q]; simp⟩
theorem Un.write (mu : Mut (H x)) (he : e = x \/ H e = some (.own x)) (k : ∀ b u, b ≠ e -> h.get? b = some u -> h'.get? b = some u) (heo : ∃ u, h'.get? e = some u) : Un fs ex H (upd H x o) h h' := by
 have hx : ∀ b, H b = none -> b ≠ x := fun b n z => by subst z; rw [n] at mu; exact mu
 have hb : ∀ b, H b = none -> b ≠ e := fun b n z => by
   subst z
   rcases he with r | r
   · exact hx b n r
   · rw [n] at r; cases r
 have hm : ∀ b u, H b = some u -> ¬ Mut (some u) -> b ≠ x := fun b u q nm z => by subst z; rw [q] at mu; exact nm mu
 refine ⟨fun b u q n _ _ => k b u (hb b n) q, fun b u q n _ _ => ⟨u.slots, k b u (hb b n) q⟩, fun b u q n _ => by rw [zU (hx b n)]; exact n, fun b u q _ => ?_,
   fun b xs q => by rw [zU (hm b _ q fun z => z)]; exact q, fun b u xs q => by rw [zU (hm b _ q fun z => z)]; exact q, fun b ps q => ⟨#[], by rw [zU (hm b _ q fun z => z), q]; simp⟩⟩
 by_cases hbe : b = e
 · subst hbe; exact heo
 · exact ⟨u, k b u hbe q⟩
end
def trk (h : Heap) (H : Hp) : List Addr := (List.range h.objs.size).filter fun a => (H a).isSome
def vS (h : Heap) (H : Hp) : Heap := PySem.W.hideAll h (trk h H)
theorem hidT_size (h : Heap) (H : Hp) : (vS h H).objs.size = h.objs.size := PySem.W.hideAll_size _ _
theorem hidT_get {h : Heap} {H : Hp} {b : Addr} {o : Obj} (e : h.get? b = some o) (n : H b = none) : (vS h H).get? b = some o :=
 PySem.W.hideAll_get _ e fun hm => by
   have q : (H b).isSome = true := (List.mem_filter.mp hm).2
   rw [n] at q; simp at q
theorem of_hidT {h : Heap} {H : Hp} {b : Addr} {o : Obj} (e : (vS h H).get? b = some o) : h.get? b = some o /\ H b = none := by
 have e' : h.get? b = some o := PySem.W.of_hideAll (trk h H) e
 refine ⟨e', ?_⟩
 cases q : H b with
 | none => rfl
 | some x =>
   have hm : b ∈ trk h H := List.mem_filter.mpr ⟨List.mem_range.mpr (Heap.lt_size e'), by simp [q]⟩
   have z : (vS h H).get? b = none := PySem.W.hideAll_none (trk h H) hm
   rw [z] at e; cases e
def allNews (g h : Heap) (L : Addr) : List (Addr × Obj) := (List.range h.objs.size).filterMap fun a => if a = L \/ (g.get? a).isSome = true then none else (h.get? a).map fun o => (a, o)
def rest (g h : Heap) (L d : Addr) : List (Addr × Obj) := (allNews g h L).filter fun p => decide (p.1 ≠ d)
structure Mod (K : PySem.W.Frag) (mg : Str -> Option Value) (base : Heap) : Prop where
 kin : K.In base
 glob : base.Ns mainGlobals mg
 blt : ∃ mb, base.Ns builtinsNs mb /\ ∀ x : Str, x ≠ "__name__" -> mb x = bootBuiltins x
 nolimit : base.NoLimit
structure Cx where
 prog : Program
 w : World
 K : PySem.W.Frag
 mg : Str -> Option Value
 base : Heap
 A : Around
 N : List Str
 s₀ : Shared
 H₀ : Hp
 env : Env
 outer : List Env
 stack : List Env
 ex : List Addr
 fn : Str -> Bool
 calm : Bool
 pn : List (Addr × Obj)
 xe : Value -> Shared -> Prop
def frs (l : List Env) : List Addr := l.filterMap (·.frame)
abbrev Cx.fs (X : Cx) : List Addr := frs X.outer
def Vis (sc : Scope) (x : Str) : Prop := sc.names.lookup x = some .local \/ sc.names.lookup x = some .cell \/ sc.names.lookup x = some .free
def Loc (sc : Scope) (x : Str) : Prop := sc.names.lookup x = some .local \/ sc.names.lookup x = some .cell
def Look (env : Env) (h : Heap) (m : Str -> Option Value) (x : Str) (u : Value) : Prop :=
 (env.kindOf x = some .local /\ m x = some u) \/ ((env.kindOf x = some .cell \/ env.kindOf x = some .free) /\ ∃ c, env.cells.lookup x = some c /\ h.IsCell c (some u))
structure Cx.Ok (X : Cx) : Prop where
 mod : Mod X.K X.mg X.base
 kind : X.env.scope.kind = .function
 glob : X.env.globals = mainGlobals
 blt : X.env.builtins = builtinsNs
 above : X.s₀.heap.objs.size <= X.env.locals
 inj : ∀ x y c, X.env.cells.lookup x = some c -> X.env.cells.lookup y = some c -> x = y
 has : ∀ x, (X.env.kindOf x = some .cell \/ X.env.kindOf x = some .free) -> ∃ c, X.env.cells.lookup x = some c
 cab : ∀ x c, X.fn x = true -> X.env.cells.lookup x = some c -> X.s₀.heap.objs.size <= c
 hd : X.calm = true -> X.A.handled = none
 frames : X.A.frames = some X.stack
 stk : X.stack = X.outer \/ (X.stack = X.env :: X.outer /\ X.env.frame = some X.env.locals)
 exf : ∀ b ∈ X.ex, b ≠ X.env.locals /\ ∀ x c, X.env.cells.lookup x = some c -> c ≠ b
 bs : ∀ b o, X.base.get? b = some o -> X.s₀.heap.get? b = some o /\ X.H₀ b = none
 bsz : X.base.objs.size <= X.s₀.heap.objs.size
 noex : ∀ b o, X.base.get? b = some o -> b ∉ X.ex
 exfs : ∀ b ∈ X.ex, b ∉ X.fs
 funs : X.s₀.heap.FunFrames X.base X.outer
 frf : ∀ b ∈ X.fs, X.H₀ b = none
structure Inv (X : Cx) (pins : List (Addr × Obj)) (σ : List (Option V)) (H : Hp) (s : Shared) : Prop where
 ok : X.Ok
 os : s.os = X.s₀.os
 bare : AllBare s.gens
 base : Un X.fs X.ex X.H₀ H X.s₀.heap s.heap
 loc : ∃ m, s.heap.Ns X.env.locals m /\ ∀ (i : Nat) (x : Str) (v : V), X.N[i]? = some x -> σ[i]? = some (some v) -> Vis X.env.scope x -> ∃ u, RelV v u /\ Look X.env s.heap m x u
 cell : ∀ x c, X.env.cells.lookup x = some c -> ∃ v, s.heap.IsCell c v
 free : H X.env.locals = none
 freeC : ∀ x c, X.env.cells.lookup x = some c -> H c = none
 pin : ∀ p ∈ X.pn ++ pins, s.heap.get? p.1 = some p.2 /\ H p.1 = none /\ p.1 ≠ X.env.locals /\ p.1 ∉ X.fs /\ ∀ v, p.2.data ≠ .cell v
 hok : HOk X.prog X.w H s.heap
 len : σ.length = X.N.length
section
variable {X : Cx} {pins : List (Addr × Obj)} {σ : List (Option V)} {H H' : Hp} {s : Shared} {h' : Heap}
theorem Cx.Ok.nofr (ok : X.Ok) {b : Addr} {o : Obj} (e : X.base.get? b = some o) : b ∉ X.fs := fun hb => by
 have := (ok.funs.mem hb).1
 rw [e] at this; cases this
theorem Inv.bs (I : Inv X pins σ H s) : ∀ b o, X.base.get? b = some o -> s.heap.get? b = some o /\ H b = none := fun b o e =>
 ⟨I.base.keep b o (I.ok.bs b o e).1 (I.ok.bs b o e).2 (I.ok.nofr e) (I.ok.noex b o e), I.base.free b o (I.ok.bs b o e).1 (I.ok.bs b o e).2 (I.ok.noex b o e)⟩
theorem Inv.bk (I : Inv X pins σ H s) : ∀ b o, X.base.get? b = some o -> s.heap.get? b = some o := fun b o e => (I.bs b o e).1
theorem Inv.mod (I : Inv X pins σ H s) : Mod X.K X.mg X.base := I.ok.mod
theorem Inv.kIn (I : Inv X pins σ H s) : X.K.In s.heap := I.ok.mod.kin.keeps I.bk
theorem Inv.lt (I : Inv X pins σ H s) : X.env.locals < s.heap.objs.size := let ⟨_, hn, _⟩ := I.loc; hn.lt
theorem Inv.sz (I : Inv X pins σ H s) : X.s₀.heap.objs.size <= s.heap.objs.size := Nat.le_trans I.ok.above (Nat.le_of_lt I.lt)
theorem Inv.nofs (I : Inv X pins σ H s) {a : Addr} (h : s.heap.objs.size <= a) : a ∉ X.fs := fun hb => by
 obtain ⟨_, o, ho, _⟩ := I.ok.funs.mem hb
 exact absurd (Nat.lt_of_lt_of_le (Heap.lt_size ho) (Nat.le_trans I.sz h)) (Nat.lt_irrefl _)
theorem Inv.cne (I : Inv X pins σ H s) : ∀ x c, X.env.cells.lookup x = some c -> c ≠ X.env.locals := fun x c e z => by
 obtain ⟨v, o, ho, hd⟩ := I.cell x c e
 obtain ⟨m, ⟨o', es, ep, ho', hd', _⟩, _⟩ := I.loc
 rw [z, ho'] at ho; cases ho; rw [hd'] at hd; cases hd
theorem Inv.funs (I : Inv X pins σ H s) : s.heap.FunFrames X.base X.outer := by
 have all : ∀ (l : List Env), (∀ b ∈ frs l, b ∈ X.fs) -> X.s₀.heap.FunFrames X.base l -> s.heap.FunFrames X.base l := by
   intro l
   induction l with
   | nil => intro _ _; trivial
   | cons env r ih =>
     intro hs hl
     obtain ⟨hk, ⟨L, o, hf, hn, ho, hd⟩, hr⟩ := hl
     have hL : L ∈ X.fs := hs L (by unfold frs; rw [List.filterMap_cons, hf]; exact List.mem_cons_self)
     obtain ⟨sl, e⟩ := I.base.slot L o ho (I.ok.frf L hL) hL fun z => I.ok.exfs L z hL
     exact ⟨hk, ⟨L, _, hf, hn, e, hd⟩, ih (fun b hb => hs b (by unfold frs; rw [List.filterMap_cons, hf]; exact List.mem_cons_of_mem _ hb)) hr⟩
 exact all X.outer (fun _ hb => hb) I.ok.funs
theorem Inv.stack (I : Inv X pins σ H s) : s.heap.FunFrames X.base X.stack := by
 rcases I.ok.stk with e | ⟨e, hf⟩
 · rw [e]; exact I.funs
 · rw [e]
   obtain ⟨m, hn, _⟩ := I.loc
   refine .cons (by rw [I.ok.kind]; decide) hf hn ?_ I.funs
   exact Heap.get?_none_of_le (Nat.le_trans I.ok.bsz I.ok.above)
theorem Inv.stkSub (I : Inv X pins σ H s) : ∀ b ∈ frs X.stack, b ∈ X.env.locals :: X.fs := fun b hb => by
 rcases I.ok.stk with e | ⟨e, hf⟩
 · rw [e] at hb; exact List.mem_cons_of_mem _ hb
 · rw [e] at hb
   unfold frs at hb
   rw [List.filterMap_cons, hf] at hb
   exact hb
theorem Inv.stkFree (I : Inv X pins σ H s) : ∀ b ∈ frs X.stack, H b = none := fun b hb => by
 rcases List.mem_cons.mp (I.stkSub b hb) with e | hb
 · rw [e]; exact I.free
 · obtain ⟨_, o, ho, _⟩ := I.ok.funs.mem hb
   exact I.base.free b o ho (I.ok.frf b hb) fun z => I.ok.exfs b z hb
theorem Inv.step {g' : Array GenState} {t' : Nat} {d' : Drawn} {ch : List Addr} (I : Inv X pins σ H s)
   (hch : ∀ b ∈ ch, (b ∈ X.ex \/ X.s₀.heap.objs.size <= b) /\ b ≠ X.env.locals /\ (∀ x c, X.env.cells.lookup x = some c -> c ≠ b) /\ ∀ p ∈ X.pn ++ pins, p.1 ≠ b)
   (keep : ∀ b o, b ≠ X.env.locals -> b ∉ X.fs -> b ∉ ch -> s.heap.get? b = some o -> H b = none -> h'.get? b = some o)
   (slot : ∀ b o, b ≠ X.env.locals -> b ∈ X.fs -> b ∉ ch -> s.heap.get? b = some o -> H b = none -> ∃ sl, h'.get? b = some { o with slots := sl }) (free : ∀ b o, b ∉ ch -> s.heap.get? b = some o -> H b = none -> H' b = none)
   (there : ∀ b o, b ∉ ch -> s.heap.get? b = some o -> ∃ o', h'.get? b = some o')
   (tups : ∀ b xs, H b = some (.tup xs) -> H' b = some (.tup xs)) (frzs : ∀ b o u, H b = some (.frz o u) -> H' b = some (.frz o u)) (tbls : ∀ b ps, H b = some (.tbl ps) -> ∃ more, H' b = some (.tbl (ps ++ more)))
   (ns : ∀ m, s.heap.Ns X.env.locals m -> h'.Ns X.env.locals m) (hok : HOk X.prog X.w H' h') (hg : AllBare g') :
   Inv X pins σ H' { s with heap := h', gens := g', drawn := d', toks := t' } := by
 have neL : ∀ b o, X.s₀.heap.get? b = some o -> b ≠ X.env.locals := fun b o e => Nat.ne_of_lt (Nat.lt_of_lt_of_le (Heap.lt_size e) I.ok.above)
 have neC : ∀ b o, X.s₀.heap.get? b = some o -> b ∉ X.ex -> b ∉ ch := fun b o e hx hb => by
   rcases (hch b hb).1 with z | z
   · exact hx z
   · exact absurd (Nat.lt_of_lt_of_le (Heap.lt_size e) z) (Nat.lt_irrefl _)
 have cellK : ∀ x c, X.env.cells.lookup x = some c -> ∀ v, s.heap.IsCell c v -> h'.IsCell c v := fun x c e v ⟨o, ho, hd⟩ => by
   have nch : c ∉ ch := fun z => (hch c z).2.2.1 x c e rfl
   by_cases hc : c ∈ X.fs
   · obtain ⟨sl, q⟩ := slot c o (I.cne x c e) hc nch ho (I.freeC x c e)
     exact ⟨_, q, hd⟩
   · exact ⟨o, keep c o (I.cne x c e) hc nch ho (I.freeC x c e), hd⟩
 refine ⟨I.ok, I.os, hg, ⟨fun b o e n hb hx => ?_, fun b o e n hb hx => ?_, fun b o e n hx => ?_, fun b o e hx => ?_, fun b xs e => tups b xs (I.base.tups b xs e), fun b o xs e => frzs b o xs (I.base.frzs b o xs e), fun b ps e => ?_⟩, ?_, fun x c e => ?_, ?_, fun x c e => ?_, fun p hp => ?_, hok, I.len⟩
 · exact keep b o (neL b o e) hb (neC b o e hx) (I.base.keep b o e n hb hx) (I.base.free b o e n hx)
 · obtain ⟨sl, e1⟩ := I.base.slot b o e n hb hx
   obtain ⟨sl', e2⟩ := slot b _ (neL b o e) hb (neC b o e hx) e1 (I.base.free b o e n hx)
   exact ⟨sl', e2⟩
 · obtain ⟨o', e1⟩ := I.base.there b o e hx
   exact free b o' (neC b o e hx) e1 (I.base.free b o e n hx)
 · obtain ⟨o', e1⟩ := I.base.there b o e hx
   exact there b o' (neC b o e hx) e1
 · obtain ⟨m1, e1⟩ := I.base.tbls b ps e
   obtain ⟨m2, e2⟩ := tbls b _ e1
   exact ⟨m1 ++ m2, by rw [e2, Array.append_assoc]⟩
 · obtain ⟨m, hn, hl⟩ := I.loc
   refine ⟨m, ns m hn, fun i x v e1 e2 e3 => ?_⟩
   obtain ⟨u, r, l⟩ := hl i x v e1 e2 e3
   refine ⟨u, r, ?_⟩
   rcases l with l | ⟨k, c, e, z⟩
   · exact .inl l
   · exact .inr ⟨k, c, e, cellK x c e _ z⟩
 · obtain ⟨v, z⟩ := I.cell x c e
   exact ⟨v, cellK x c e v z⟩
 · obtain ⟨m, ⟨o, _, _, ho, _⟩, _⟩ := I.loc
   exact free _ o (fun z => (hch _ z).2.1 rfl) ho I.free
 · obtain ⟨v, o, ho, hd⟩ := I.cell x c e
   exact free c o (fun z => (hch c z).2.2.1 x c e rfl) ho (I.freeC x c e)
 · obtain ⟨e, n, ne, nf, d⟩ := I.pin p hp
   have nch : p.1 ∉ ch := fun z => (hch p.1 z).2.2.2 p hp rfl
   exact ⟨keep p.1 p.2 ne nf nch e n, free p.1 p.2 nch e n, ne, nf, d⟩
theorem Inv.un {t' : Nat} (I : Inv X pins σ H s) (u : Un X.fs [] H H' s.heap h') (hok : HOk X.prog X.w H' h') : Inv X pins σ H' { s with heap := h', toks := t' } := by
 obtain ⟨m, ⟨o, es, ep, ho, r⟩, _⟩ := id I.loc
 obtain ⟨sl, hL⟩ := u.any ho I.free (by simp)
 exact I.step (g' := s.gens) (d' := s.drawn) (ch := []) (fun _ z => nomatch z) (fun b o _ hb _ e n => u.keep b o e n hb (by simp)) (fun b o _ hb _ e n => u.slot b o e n hb (by simp)) (fun b o _ e n => u.free b o e n (by simp)) (fun b o _ e => u.there b o e (by simp)) u.tups u.frzs u.tbls (fun m' hm => by
   obtain ⟨o', es', ep', ho', r'⟩ := hm
   rw [ho] at ho'; cases ho'
   exact ⟨_, es', ep', hL, r'⟩) hok I.bare
theorem Inv.call {g' : Array GenState} {t' : Nat} {d' : Drawn} {ch : List Addr} (I : Inv X pins σ H s) (u : Un (frs X.stack) ch H H' s.heap h') (hok : HOk X.prog X.w H' h') (hg : AllBare g')
   (hch : ∀ b ∈ ch, (b ∈ X.ex \/ X.s₀.heap.objs.size <= b) /\ b ≠ X.env.locals /\ (∀ x c, X.env.cells.lookup x = some c -> c ≠ b) /\ ∀ p ∈ X.pn ++ pins, p.1 ≠ b) :
   Inv X pins σ H' { s with heap := h', gens := g', drawn := d', toks := t' } := by
 obtain ⟨m, ⟨o, es, ep, ho, r⟩, _⟩ := id I.loc
 obtain ⟨sl, hL⟩ := u.any ho I.free fun z => (hch _ z).2.1 rfl
 exact I.step (ch := ch) hch (fun b o hL hb hc e n => u.keep b o e n (fun z => (List.mem_cons.mp (I.stkSub b z)).elim hL hb) hc) (fun b o _ _ hc e n => u.any e n hc) (fun b o hc e n => u.free b o e n hc) (fun b o hc e => u.there b o e hc) u.tups u.frzs u.tbls (fun m' hm => by
   obtain ⟨o', es', ep', ho', r'⟩ := hm
   rw [ho] at ho'; cases ho'
   exact ⟨_, es', ep', hL, r'⟩) hok hg
theorem Inv.turned {t' : Nat} {it : Addr} (I : Inv X pins σ H s) (k : ∀ b o, b ≠ it -> s.heap.get? b = some o -> h'.get? b = some o) (hn : H it = none) (hL : it ≠ X.env.locals)
   (h1 : it ∈ X.ex \/ X.s₀.heap.objs.size <= it) (h2 : ∀ x c, X.env.cells.lookup x = some c -> c ≠ it) (h3 : ∀ p ∈ X.pn ++ pins, p.1 ≠ it) : Inv X pins σ H { s with heap := h', toks := t' } := by
 have nit : ∀ b u, H b = some u -> b ≠ it := fun b u e z => by rw [z, hn] at e; cases e
 refine I.step (g' := s.gens) (d' := s.drawn) (ch := [it]) (fun b hb => ?_) (fun b o _ _ hc e _ => k b o (fun z => hc (by simp [z])) e) (fun b o _ _ hc e _ => ⟨o.slots, k b o (fun z => hc (by simp [z])) e⟩) (fun _ _ _ _ n => n)
   (fun b o hc e => ⟨o, k b o (fun z => hc (by simp [z])) e⟩) (fun _ _ e => e) (fun _ _ _ e => e) (fun b ps e => ⟨#[], by rw [e]; simp⟩) (fun m hm => ?_) (fun b u e => ?_) I.bare
 · have e : b = it := by simpa using hb
   subst e
   exact ⟨h1, hL, h2, h3⟩
 · obtain ⟨o, es, ep, ho, r⟩ := hm
   exact ⟨o, es, ep, k _ o (Ne.symm hL) ho, r⟩
 · refine (I.hok b u e).stay (fun c v hc q => k c v ?_ q) (fun _ q => q) fun _ _ q => q
   rcases hc with z | z
   · rw [z]; exact nit b u e
   · exact nit c _ z
theorem Inv.tok (I : Inv X pins σ H s) (t : Nat) : Inv X pins σ H { s with toks := t } := I.un (h' := s.heap) (t' := t) Un.refl I.hok
theorem Inv.kept {t' : Nat} (I : Inv X pins σ H s) (k : ∀ b u, s.heap.get? b = some u -> h'.get? b = some u) : Inv X pins σ H { s with heap := h', toks := t' } := I.un (Un.kept k) (I.hok.kept k)
theorem Inv.laid {a : Addr} {o : HO} {t' : Nat} (I : Inv X pins σ H s) (k : ∀ b u, s.heap.get? b = some u -> h'.get? b = some u) (hp : s.heap.objs.size <= a) (new : ObjOk X.prog X.w (upd H a o) h' a o) :
   Inv X pins σ (upd H a o) { s with heap := h', toks := t' } := I.un (Un.laid k hp (I.hok.fresh hp)) (I.hok.laid k hp new)
theorem Inv.write {x e : Addr} {o : HO} {t' : Nat} (I : Inv X pins σ H s) (mu : Mut (H x)) (he : e = x \/ H e = some (.own x)) (k : ∀ b u, b ≠ e -> s.heap.get? b = some u -> h'.get? b = some u) (heo : ∃ u, h'.get? e = some u)
   (new : ObjOk X.prog X.w (upd H x o) h' x o) : Inv X pins σ (upd H x o) { s with heap := h', toks := t' } := I.un (Un.write mu he k heo) (I.hok.write mu he k heo new)
theorem Inv.pins_of {pins' : List (Addr × Obj)} (I : Inv X pins σ H s) (h : ∀ p ∈ pins', s.heap.get? p.1 = some p.2 /\ H p.1 = none /\ p.1 ≠ X.env.locals /\ p.1 ∉ X.fs /\ ∀ v, p.2.data ≠ .cell v) : Inv X pins' σ H s :=
 ⟨I.ok, I.os, I.bare, I.base, I.loc, I.cell, I.free, I.freeC, fun p hp => (List.mem_append.mp hp).elim (fun z => I.pin p (List.mem_append_left _ z)) (h p), I.hok, I.len⟩
theorem qU {N : List Str} (hN : N.Nodup) {i j : Nat} {x : Str} (a : N[i]? = some x) (b : N[j]? = some x) : i = j := by
 obtain ⟨h1, e1⟩ := List.getElem?_eq_some_iff.mp a
 obtain ⟨h2, e2⟩ := List.getElem?_eq_some_iff.mp b
 exact (List.getElem_inj hN).mp (e1.trans e2.symm)
theorem uQ {M : Model} {A : Around} {E : Value -> Shared -> Prop} {i : Nat} {x : Str} {v : V} {u : Value} {Q : Unit -> Shared -> Prop} (I : Inv X pins σ H s) (hN : X.N.Nodup) (hi : X.N[i]? = some x) (hx : Loc X.env.scope x) (r : RelV v u)
   (h : ∀ s', Inv X pins (σ.set i (some v)) H s' -> (∃ a, Heap.SameBut a s.heap s'.heap /\ (a = X.env.locals \/ X.env.cells.lookup x = some a)) -> Q () s') (hf : X.fn x = true \/ X.env.scope.names.lookup x = some .local := by first | exact .inl rfl | exact .inr rfl | assumption) : wpAny M A (storeName X.env x u) Q E s := by
 obtain ⟨m, hn, hl⟩ := id I.loc
 have hcls : (X.env.scope.kind == .class || (X.env.scope.kind == .module && X.env.locals != X.env.globals)) = false := by rw [I.ok.kind]; rfl
 have hiσ : i < σ.length := by rw [I.len]; exact (List.getElem?_eq_some_iff.mp hi).1
 have cne := I.cne
 have tracked : ∀ {a : Addr} {h' : Heap}, (∃ o, s.heap.get? a = some o /\ H a = none) -> Heap.SameBut a s.heap h' -> HOk X.prog X.w H h' := fun {a h'} ha hs b ob e => by
   obtain ⟨_, _, hfree⟩ := ha
   refine (I.hok b ob e).stay (fun c w' hc q => (hs.2 c ?_).trans q) (fun _ q => q) fun _ _ q => q
   rintro rfl
   rcases hc with rfl | hc
   · rw [hfree] at e; cases e
   · rw [hfree] at hc; cases hc
 rcases hx with hk | hk
 · refine wpAny_storeName_local hk hn (fun h' hn' hs => ?_) hcls
   obtain ⟨oL, _, _, hoL, _⟩ := id hn
   refine h _ ⟨I.ok, I.os, I.bare, ⟨fun b o e n hb hx => ?_, fun b o e n hb hx => ?_, I.base.free, fun b o e hx => ?_, I.base.tups, I.base.frzs, I.base.tbls⟩, ⟨_, hn', fun j y v' e1 e2 e3 => ?_⟩, fun y c e => ?_, I.free, I.freeC, fun p hp => ?_, tracked ⟨oL, hoL, I.free⟩ hs, by simpa using I.len⟩ ⟨_, hs, .inl rfl⟩
   · exact (hs.2 b (Nat.ne_of_lt (Nat.lt_of_lt_of_le (Heap.lt_size e) I.ok.above))).trans (I.base.keep b o e n hb hx)
   · obtain ⟨sl, e1⟩ := I.base.slot b o e n hb hx
     exact ⟨sl, (hs.2 b (Nat.ne_of_lt (Nat.lt_of_lt_of_le (Heap.lt_size e) I.ok.above))).trans e1⟩
   · obtain ⟨o', e1⟩ := I.base.there b o e hx
     exact ⟨o', (hs.2 b (Nat.ne_of_lt (Nat.lt_of_lt_of_le (Heap.lt_size e) I.ok.above))).trans e1⟩
   · by_cases hj : j = i
     · subst hj
       rw [hi] at e1; cases e1
       rw [List.getElem?_set_self hiσ] at e2
       cases e2
       exact ⟨u, r, .inl ⟨hk, by simp⟩⟩
     · rw [List.getElem?_set_ne (Ne.symm hj)] at e2
       obtain ⟨u', r', q⟩ := hl j y v' e1 e2 e3
       refine ⟨u', r', ?_⟩
       rcases q with ⟨k, e⟩ | ⟨k, c, e, z⟩
       · refine .inl ⟨k, ?_⟩
         have : y ≠ x := fun e => hj (qU hN e1 (e ▸ hi))
         simp [this, e]
       · exact .inr ⟨k, c, e, z.sameBut hs (cne y c e)⟩
   · obtain ⟨w', z⟩ := I.cell y c e
     exact ⟨w', z.sameBut hs (cne y c e)⟩
   · obtain ⟨e, n, ne, nf, d⟩ := I.pin p hp
     exact ⟨(hs.2 p.1 ne).trans e, n, ne, nf, d⟩
 · have hfn : X.fn x = true := by
     rcases hf with z | z
     · exact z
     · rw [z] at hk; cases hk
   obtain ⟨c, hc⟩ := I.ok.has x (.inl hk)
   obtain ⟨w', z⟩ := I.cell x c hc
   refine wpAny_storeName_cell I.ok.kind hk hc z (fun h' hc' hs => ?_)
   obtain ⟨oc, hoc, hocd⟩ := id z
   refine h { s with heap := h' } ⟨I.ok, I.os, I.bare, ⟨fun b o e n hb hx => ?_, fun b o e n hb hx => ?_, I.base.free, fun b o e hx => ?_, I.base.tups, I.base.frzs, I.base.tbls⟩, ⟨m, hn.sameBut hs (Ne.symm (cne x c hc)), fun j y v' e1 e2 e3 => ?_⟩, fun y c' e => ?_, I.free, I.freeC, fun p hp => ?_, tracked ⟨oc, hoc, I.freeC x c hc⟩ hs, by simpa using I.len⟩ ⟨c, hs, .inr hc⟩
   · exact (hs.2 b (Nat.ne_of_lt (Nat.lt_of_lt_of_le (Heap.lt_size e) (I.ok.cab x c hfn hc)))).trans (I.base.keep b o e n hb hx)
   · obtain ⟨sl, e1⟩ := I.base.slot b o e n hb hx
     exact ⟨sl, (hs.2 b (Nat.ne_of_lt (Nat.lt_of_lt_of_le (Heap.lt_size e) (I.ok.cab x c hfn hc)))).trans e1⟩
   · obtain ⟨o', e1⟩ := I.base.there b o e hx
     exact ⟨o', (hs.2 b (Nat.ne_of_lt (Nat.lt_of_lt_of_le (Heap.lt_size e) (I.ok.cab x c hfn hc)))).trans e1⟩
   · by_cases hj : j = i
     · subst hj
       rw [hi] at e1; cases e1
       rw [List.getElem?_set_self hiσ] at e2
       cases e2
       exact ⟨u, r, .inr ⟨.inl hk, c, hc, hc'⟩⟩
     · rw [List.getElem?_set_ne (Ne.symm hj)] at e2
       obtain ⟨u', r', q⟩ := hl j y v' e1 e2 e3
       refine ⟨u', r', ?_⟩
       rcases q with q | ⟨k, c', e, z'⟩
       · exact .inl q
       · refine .inr ⟨k, c', e, z'.sameBut hs ?_⟩
         rintro rfl
         exact hj (qU hN e1 (I.ok.inj _ _ _ e hc ▸ hi))
   · by_cases hcc : c' = c
     · subst hcc; exact ⟨_, hc'⟩
     · obtain ⟨w2, z2⟩ := I.cell y c' e
       exact ⟨w2, z2.sameBut hs hcc⟩
   · obtain ⟨e, n, ne, nf, d⟩ := I.pin p hp
     refine ⟨(hs.2 p.1 ?_).trans e, n, ne, nf, d⟩
     intro q
     rw [q, hoc] at e
     have q' : oc = p.2 := Option.some.inj e
     exact d w' (by rw [← q']; exact hocd)
theorem jG {M : Model} {A : Around} {E : Value -> Shared -> Prop} {i : Nat} {x : Str} {v : V} {u : Value} {Q : Unit -> Shared -> Prop} (I : Inv X pins σ H s) (hN : X.N.Nodup) (hi : X.N[i]? = some x) (hx : Loc X.env.scope x) (r : RelV v u)
   (h : ∀ s', Inv X pins (σ.set i (some v)) H s' -> Q () s') (hf : X.fn x = true \/ X.env.scope.names.lookup x = some .local := by first | exact .inl rfl | exact .inr rfl | assumption) : wpAny M A (storeName X.env x u) Q E s :=
 uQ I hN hi hx r (fun s' I' _ => h s' I') hf
theorem Inv.call' {s' : Shared} {ch : List Addr} (I : Inv X pins σ H s) (ho : s'.os = s.os) (u : Un (frs X.stack) ch H H' s.heap s'.heap) (hok : HOk X.prog X.w H' s'.heap) (hg : AllBare s'.gens)
   (hch : ∀ b ∈ ch, (b ∈ X.ex \/ X.s₀.heap.objs.size <= b) /\ b ≠ X.env.locals /\ (∀ x c, X.env.cells.lookup x = some c -> c ≠ b) /\ ∀ p ∈ X.pn ++ pins, p.1 ≠ b) : Inv X pins σ H' s' := by
 obtain ⟨h', g', d', t', o'⟩ := s'
 have e : o' = s.os := ho
 subst e
 exact I.call (g' := g') (t' := t') (d' := d') u hok hg hch
end
abbrev XK := Value -> Option Addr -> Hp -> Prop
abbrev St := List (Option V)
abbrev VK := V -> Hp -> Prop
abbrev TE := St -> Hp -> VK -> Prop
abbrev TT := St -> Hp -> (Bool -> Hp -> Prop) -> Prop
abbrev TA := St -> Hp -> (List V -> Hp -> Prop) -> Prop
structure Ends where
 nx : St -> Hp -> Prop
 rt : VK
 bk : St -> Hp -> Prop := fun _ _ => False
 ct : St -> Hp -> Prop := fun _ _ => False
abbrev TS := Ends -> St -> Hp -> Prop
def EP (X : Cx) (pins : List (Addr × Obj)) (σ : St) (Q : VK) (u : Value) (s' : Shared) : Prop := ∃ v H', Inv X pins σ H' s' /\ RelV v u /\ Q v H'
def TP (X : Cx) (pins : List (Addr × Obj)) (σ : St) (Q : Bool -> Hp -> Prop) (b : Bool) (s' : Shared) : Prop := ∃ H', Inv X pins σ H' s' /\ Q b H'
def AP (X : Cx) (pins : List (Addr × Obj)) (σ : St) (Q : List V -> Hp -> Prop) (us : List Value) (s' : Shared) : Prop := ∃ vs H', Inv X pins σ H' s' /\ Vals vs us /\ Q vs H'
def SP (X : Cx) (pins : List (Addr × Obj)) (D : Ends) (f : Flow) (s' : Shared) : Prop :=
 match f with
 | .next => ∃ σ' H', Inv X pins σ' H' s' /\ D.nx σ' H'
 | .brk => ∃ σ' H', Inv X pins σ' H' s' /\ D.bk σ' H'
 | .cont => ∃ σ' H', Inv X pins σ' H' s' /\ D.ct σ' H'
 | .ret u => ∃ v σ' H', Inv X pins σ' H' s' /\ RelV v u /\ D.rt v H'
def PE (X : Cx) (e : Expr) (t : TE) : Prop :=
 ∀ (pins : List (Addr × Obj)) (s : Shared) (σ : St) (H : Hp) (Q : VK), Inv X pins σ H s -> t σ H Q -> wpAny (model X.prog X.w) X.A (eval e X.env) (EP X pins σ Q) X.xe s
def PT (X : Cx) (e : Expr) (t : TT) : Prop :=
 ∀ (pins : List (Addr × Obj)) (s : Shared) (σ : St) (H : Hp) (Q : Bool -> Hp -> Prop), Inv X pins σ H s -> t σ H Q -> wpAny (model X.prog X.w) X.A (isTrue e X.env (eval e X.env)) (TP X pins σ Q) X.xe s
def PW (X : Cx) (e : Expr) (t : TT) : Prop :=
 ∀ (whole : Sem Value) (pins : List (Addr × Obj)) (s : Shared) (σ : St) (H : Hp) (Q : Bool -> Hp -> Prop), Inv X pins σ H s -> t σ H Q -> wpAny (model X.prog X.w) X.A (isTrue e X.env whole) (TP X pins σ Q) X.xe s
theorem PW.pt {X : Cx} {e : Expr} {t : TT} (h : PW X e t) : PT X e t := h _
def PA (X : Cx) (es : List Expr) (t : TA) : Prop :=
 ∀ (pos : Pos) (pins : List (Addr × Obj)) (s : Shared) (σ : St) (H : Hp) (Q : List V -> Hp -> Prop), Inv X pins σ H s -> t σ H Q -> wpAny (model X.prog X.w) X.A (spliced (backTo pos (starEach es X.env))) (AP X pins σ Q) X.xe s
def PS (X : Cx) (st : Stmt) (t : TS) : Prop :=
 ∀ (pins : List (Addr × Obj)) (s : Shared) (σ : St) (H : Hp) (D : Ends), Inv X pins σ H s -> t D σ H -> wpAny (model X.prog X.w) X.A (exec st X.env) (SP X pins D) X.xe s
def PSs (X : Cx) (st : List Stmt) (t : TS) : Prop :=
 ∀ (pins : List (Addr × Obj)) (s : Shared) (σ : St) (H : Hp) (D : Ends), Inv X pins σ H s -> t D σ H -> wpAny (model X.prog X.w) X.A (execs st X.env) (SP X pins D) X.xe s
theorem thn {α : Type} {t : Sem α} {Q Q' : α -> Shared -> Prop} {M : Model} {A : Around} {E : Value -> Shared -> Prop} {s : Shared} (h : wpAny M A t Q E s) (hQ : ∀ a s, Q a s -> Q' a s) : wpAny M A t Q' E s := wpAny_mono h hQ fun _ _ x => x
section
variable {X : Cx}
def tVar (i : Nat) : TE := fun σ H Q => ∃ v, σ[i]? = some (some v) /\ Q v H
def tC (v : V) : TE := fun _ H Q => Q v H
theorem pe_var {i : Nat} {x : Str} {pos : Pos} (hN : X.N[i]? = some x) (hv : Vis X.env.scope x) (hd : (x == ("__debug__" : Str)) = false := by decide) (hcd : (x == ("__classdict__" : Str)) = false := by decide) : PE X (.Name x pos) (tVar i) := by
 intro pins s σ H Q I h
 obtain ⟨v, e, h⟩ := h
 obtain ⟨m, hn, hl⟩ := I.loc
 obtain ⟨u, r, l⟩ := hl i x v hN e hv
 have fin : EP X pins σ Q u s := ⟨v, H, I, r, h⟩
 rcases l with ⟨hk, hm⟩ | ⟨hk, c, hc, hcell⟩
 · exact wpAny_Name (wpAny_loadName_local I.ok.kind hk hn hm fin) hd
 · rcases hk with hk | hk
   · exact wpAny_Name (wpAny_loadName_cell I.ok.kind hk hc hcell fin) hd
   · exact wpAny_Name (wpAny_loadName_free I.ok.kind hk hc hcell fin hcd) hd
theorem zE {i j pos} : PE X (.Constant (.int i) j pos) (tC (.int i)) := fun _ _ _ H _ I h => wpAny_Constant_int ⟨.int i, H, I.tok _, ⟨_, rfl⟩, h⟩
theorem yY {b j pos} : PE X (.Constant (.bool b) j pos) (tC (.bl b)) := fun _ _ _ H _ I h => Constant_bool ⟨.bl b, H, I, rfl, h⟩
theorem qR {j pos} : PE X (.Constant .none j pos) (tC .non) := fun _ _ _ H _ I h => Constant_none ⟨.non, H, I, rfl, h⟩
theorem zV {x j pos} : PE X (.Constant (.str x) j pos) (tC (.str x)) := fun _ _ _ H _ I h => Calls.Constant_str ⟨.str x, H, I.tok _, ⟨_, rfl⟩, h⟩
def Gl (X : Cx) (x : Str) : Prop := X.env.kindOf x = some .globalImplicit
theorem jM {E : Value -> Shared -> Prop} {pins : List (Addr × Obj)} {s : Shared} {σ : St} {H : Hp} {x : Str} {u : Value} {pos : Pos} {Q : Value -> Shared -> Prop} (I : Inv X pins σ H s) (hg : Gl X x) (hm : X.mg x = some u) (h : Q u s)
   (hd : (x == ("__debug__" : Str)) = false := by decide) : wpAny (model X.prog X.w) X.A (eval (.Name x pos) X.env) Q E s :=
 Calls.Name_function_global I.ok.kind hg (Calls.loadGlobal_global (by rw [I.ok.glob]; exact I.mod.glob.keeps I.bk) hm h) hd
theorem jW {E : Value -> Shared -> Prop} {pins : List (Addr × Obj)} {s : Shared} {σ : St} {H : Hp} {x : Str} {u : Value} {pos : Pos} {Q : Value -> Shared -> Prop} (I : Inv X pins σ H s) (hg : Gl X x) (hm : X.mg x = none) (hv : bootBuiltins x = some u) (h : Q u s)
   (hn : x ≠ "__name__" := by decide) (hd : (x == ("__debug__" : Str)) = false := by decide) : wpAny (model X.prog X.w) X.A (eval (.Name x pos) X.env) Q E s := by
 obtain ⟨mb, h1, h2⟩ := I.mod.blt
 exact Calls.Name_function_global I.ok.kind hg (Calls.loadGlobal_builtin (by rw [I.ok.glob]; exact I.mod.glob.keeps I.bk) hm (by rw [I.ok.blt]; exact h1.keeps I.bk) ((h2 x hn).trans hv) h) hd
theorem pe_glob {x : Str} {v : V} {u : Value} {pos : Pos} (hg : Gl X x) (hm : X.mg x = some u) (r : RelV v u) (hd : (x == ("__debug__" : Str)) = false := by decide) : PE X (.Name x pos) (tC v) :=
 fun _ _ _ H _ I h => jM I hg hm ⟨v, H, I, r, h⟩ hd
theorem pe_bltn {x : Str} {v : V} {u : Value} {pos : Pos} (hg : Gl X x) (hm : X.mg x = none) (hv : bootBuiltins x = some u) (r : RelV v u) (hn : x ≠ "__name__" := by decide) (hd : (x == ("__debug__" : Str)) = false := by decide) : PE X (.Name x pos) (tC v) :=
 fun _ _ _ H _ I h => jW I hg hm hv ⟨v, H, I, r, h⟩ hn hd
variable {a b : Expr} {ta tb : TE} {pos : Pos}
def tB (t : TE) : TT := fun σ H Q => t σ H fun x H1 => ∃ c, x = .bl c /\ Q c H1
theorem jT {e : Expr} {t : TE} (h : PE X e t) (he : ∀ whole, isTrue e X.env whole = (do let v ← whole; standAt e.pos; holding [v] (truthy v)) := by intro _; rfl) : PT X e (tB t) := by
 intro pins s σ H Q I hw
 refine isTrue_plain (thn (h pins s σ H _ I hw) fun v s1 ⟨x, H1, I1, r1, q1⟩ => ?_) (he _)
 obtain ⟨d, rfl, q⟩ := q1
 cases r1
 exact wpAny_truthy_bool ⟨H1, I1, q⟩
variable {tA tB' : TT} {rest : List Expr}
def tAnd (t u : TT) : TT := fun σ H Q => t σ H fun c H1 => if c = true then u σ H1 Q else Q false H1
def tOr (t u : TT) : TT := fun σ H Q => t σ H fun c H1 => if c = true then Q true H1 else u σ H1 Q
def tNot (t : TT) : TT := fun σ H Q => t σ H fun c H1 => Q (!c) H1
theorem qH (ha : PT X a tA) : PW X (.BoolOp .And [a] pos) tA := by
 intro wh pins s σ H Q I h
 refine isTrue_and (thn (ha pins s σ H Q I h) fun c s1 e => ?_)
 cases c with
 | true => exact isTrue_and_nil e
 | false => exact e
theorem vJ (ha : PT X a tA) : PW X (.BoolOp .Or [a] pos) tA := by
 intro wh pins s σ H Q I h
 refine isTrue_or (thn (ha pins s σ H Q I h) fun c s1 e => ?_)
 cases c with
 | false => exact isTrue_or_nil e
 | true => exact e
theorem vK (ha : PT X a tA) (hb : PW X (.BoolOp .And (b :: rest) pos) tB') : PW X (.BoolOp .And (a :: b :: rest) pos) (tAnd tA tB') := by
 intro wh pins s σ H Q I h
 refine isTrue_and (thn (ha pins s σ H _ I h) fun c s1 ⟨H1, I1, q1⟩ => ?_)
 cases c with
 | true => exact hb wh pins s1 σ H1 Q I1 q1
 | false => exact ⟨H1, I1, q1⟩
theorem pw_or (ha : PT X a tA) (hb : PW X (.BoolOp .Or (b :: rest) pos) tB') : PW X (.BoolOp .Or (a :: b :: rest) pos) (tOr tA tB') := by
 intro wh pins s σ H Q I h
 refine isTrue_or (thn (ha pins s σ H _ I h) fun c s1 ⟨H1, I1, q1⟩ => ?_)
 cases c with
 | true => exact ⟨H1, I1, q1⟩
 | false => exact hb wh pins s1 σ H1 Q I1 q1
theorem pt_not (ha : PT X a tA) : PT X (.UnaryOp .Not a pos) (tNot tA) := by
 intro pins s σ H Q I h
 exact isTrue_not (ha pins s σ H (fun c H1 => Q (!c) H1) I h)
def tAndV (ta tb : TE) : TE := fun σ H Q => ta σ H fun x H1 => ∃ c, x = .bl c /\ if c = true then tb σ H1 Q else Q (.bl false) H1
def tOrV (ta tb : TE) : TE := fun σ H Q => ta σ H fun x H1 => ∃ c, x = .bl c /\ if c = true then Q (.bl true) H1 else tb σ H1 Q
def tNotV (ta : TE) : TE := fun σ H Q => ta σ H fun x H1 => ∃ c, x = .bl c /\ Q (.bl (!c)) H1
theorem jU {op} {t : TE} (h : PE X a t) : PE X (.BoolOp op [a] pos) t := fun pins s σ H Q I hw => BoolOp_one (h pins s σ H Q I hw)
theorem pe_and (ha : PE X a ta) (hb : PE X (.BoolOp .And (b :: rest) pos) tb) : PE X (.BoolOp .And (a :: b :: rest) pos) (tAndV ta tb) := by
 intro pins s σ H Q I h
 refine BoolOp_and (thn (ha pins s σ H _ I h) fun v s1 ⟨x, H1, I1, r1, q1⟩ => ?_)
 obtain ⟨c, rfl, q1⟩ := q1
 cases r1
 refine wpAny_truthy_bool ?_
 cases c with
 | true => exact hb pins s1 σ H1 Q I1 q1
 | false => exact ⟨.bl false, H1, I1, rfl, q1⟩
theorem pe_or (ha : PE X a ta) (hb : PE X (.BoolOp .Or (b :: rest) pos) tb) : PE X (.BoolOp .Or (a :: b :: rest) pos) (tOrV ta tb) := by
 intro pins s σ H Q I h
 refine BoolOp_or (thn (ha pins s σ H _ I h) fun v s1 ⟨x, H1, I1, r1, q1⟩ => ?_)
 obtain ⟨c, rfl, q1⟩ := q1
 cases r1
 refine wpAny_truthy_bool ?_
 cases c with
 | false => exact hb pins s1 σ H1 Q I1 q1
 | true => exact ⟨.bl true, H1, I1, rfl, q1⟩
theorem jA (ha : PE X a ta) : PE X (.UnaryOp .Not a pos) (tNotV ta) := by
 intro pins s σ H Q I h
 refine UnaryOp_ (thn (ha pins s σ H _ I h) fun v s1 ⟨x, H1, I1, r1, q1⟩ => ?_)
 obtain ⟨c, rfl, q1⟩ := q1
 cases r1
 exact not_of (wpAny_truthy_bool ⟨.bl (!c), H1, I1, rfl, q1⟩)
def tIf (t : TT) (ta tb : TE) : TE := fun σ H Q => t σ H fun c H1 => if c = true then ta σ H1 Q else tb σ H1 Q
theorem pe_ifExp {c : Expr} (hc : PT X c tA) (ha : PE X a ta) (hb : PE X b tb) : PE X (.IfExp c a b pos) (tIf tA ta tb) := by
 intro pins s σ H Q I h
 refine wpAny_IfExp (thn (hc pins s σ H _ I h) fun d s1 ⟨H1, I1, q1⟩ => ?_)
 cases d with
 | true => exact ha pins s1 σ H1 Q I1 q1
 | false => exact hb pins s1 σ H1 Q I1 q1
end
def SqL (K : PySem.W.Frag) (H : Hp) (a : Addr) (xs : List V) : Prop :=
 Rd H a (.lst xs) \/
   ∃ (o : Obj) (its : Array Value) (n : Nat), K.lookup a = some o /\ o.cls = .type "list" /\ o.dict = none /\ o.data = .seq its n /\ its.size <= sizeLine /\ Vals xs its.toList
def SqT (K : PySem.W.Frag) (H : Hp) (a : Addr) (xs : List V) : Prop :=
 Rd H a (.tup xs) \/
   ∃ (o : Obj) (its : Array Value) (n : Nat), K.lookup a = some o /\ o.cls = .type "tuple" /\ o.data = .seq its n /\ its.size <= sizeLine /\ Vals xs its.toList
def absV : Value -> Option V
 | .none => some .non
 | .bool b => some (.bl b)
 | .int i _ => some (.int i)
 | .str x _ => some (.str x)
 | .bytes b _ => some (.byt b)
 | .float b _ => some (.flt b)
 | .ref a => some (.ref a)
 | .type n => some (.ty n)
 | _ => none
theorem RelV.abs {x : V} {u : Value} (r : RelV x u) : absV u = some x := by
 cases x with
 | non => cases r; rfl
 | bl _ => cases r; rfl
 | int _ => obtain ⟨t, rfl⟩ := r; rfl
 | str _ => obtain ⟨t, rfl⟩ := r; rfl
 | byt _ => obtain ⟨t, rfl⟩ := r; rfl
 | flt _ => obtain ⟨t, rfl⟩ := r; rfl
 | ref _ => cases r; rfl
 | ty _ => cases r; rfl
theorem RelV.inj {x y : V} {u : Value} (r : RelV x u) (q : RelV y u) : x = y := Option.some.inj (r.abs.symm.trans q.abs)
theorem Vals.inj : ∀ {xs ys : List V} {us : List Value}, Vals xs us -> Vals ys us -> xs = ys
 | _, _, _, .nil, .nil => rfl
 | _, _, _, .cons r t, .cons r' t' => by rw [r.inj r', Vals.inj t t']
section
variable {X : Cx} {pins : List (Addr × Obj)} {σ : St} {H : Hp} {s : Shared} {a : Addr} {xs ys : List V}
theorem SqL.of {K : PySem.W.Frag} (h : H a = some (.lst xs)) : SqL K H a xs := .inl (.inl h)
theorem SqT.of {K : PySem.W.Frag} (h : H a = some (.tup xs)) : SqT K H a xs := .inl (.inl h)
theorem Inv.list (I : Inv X pins σ H s) (h : SqL X.K H a xs) : ∃ its : List Value, Vals xs its /\ PlainL s.heap a its.toArray /\ xs.length <= sizeLine := by
 rcases h with h | ⟨o, its, n, hk, hc, hd, hs, hz, r⟩
 · obtain ⟨z, its, n, r, e⟩ := h.ok I.hok
   exact ⟨its, r, ⟨_, n, e, rfl, rfl, rfl⟩, z⟩
 · refine ⟨its.toList, r, ⟨o, n, I.kIn a o hk, hc, hd, by simpa using hs⟩, ?_⟩
   have e := r.length
   simp only [Array.length_toList] at e
   omega
theorem Inv.tuple (I : Inv X pins σ H s) (h : SqT X.K H a xs) : ∃ its : List Value, Vals xs its /\ IsTup s.heap a its.toArray /\ xs.length <= sizeLine := by
 rcases h with h | ⟨o, its, n, hk, hc, hs, hz, r⟩
 · obtain ⟨z, its, r, p⟩ := h.ok I.hok
   exact ⟨its, r, p, z⟩
 · refine ⟨its.toList, r, ⟨o, I.kIn a o hk, hc, n, by simpa using hs⟩, ?_⟩
   have e := r.length
   simp only [Array.length_toList] at e
   omega
theorem Inv.list_inj (I : Inv X pins σ H s) (h : SqL X.K H a xs) (h' : SqL X.K H a ys) : xs = ys := by
 obtain ⟨its, r, ⟨o, n, e, _, _, d⟩, _⟩ := I.list h
 obtain ⟨its', r', ⟨o', n', e', _, _, d'⟩, _⟩ := I.list h'
 rw [e] at e'; cases e'
 rw [d] at d'
 injection d' with d1 _
 have : its = its' := by simpa using congrArg Array.toList d1
 subst this
 exact r.inj r'
theorem Inv.tuple_inj (I : Inv X pins σ H s) (h : SqT X.K H a xs) (h' : SqT X.K H a ys) : xs = ys := by
 obtain ⟨its, r, ⟨o, e, _, n, d⟩, _⟩ := I.tuple h
 obtain ⟨its', r', ⟨o', e', _, n', d'⟩, _⟩ := I.tuple h'
 rw [e] at e'; cases e'
 rw [d] at d'
 injection d' with d1 _
 have : its = its' := by simpa using congrArg Array.toList d1
 subst this
 exact r.inj r'
end
abbrev Cx.wish (X : Cx) (E : Value -> Shared -> Prop) : Cx := { X with xe := E }
abbrev Cx.nox (X : Cx) : Cx := X.wish fun _ _ => False
theorem Cx.Ok.wish {X : Cx} (ok : X.Ok) (E : Value -> Shared -> Prop) : (X.wish E).Ok :=
 ⟨ok.mod, ok.kind, ok.glob, ok.blt, ok.above, ok.inj, ok.has, ok.cab, ok.hd, ok.frames, ok.stk, ok.exf, ok.bs, ok.bsz, ok.noex, ok.exfs, ok.funs, ok.frf⟩
theorem Cx.Ok.unwish {X : Cx} {E : Value -> Shared -> Prop} (ok : (X.wish E).Ok) : X.Ok :=
 ⟨ok.mod, ok.kind, ok.glob, ok.blt, ok.above, ok.inj, ok.has, ok.cab, ok.hd, ok.frames, ok.stk, ok.exf, ok.bs, ok.bsz, ok.noex, ok.exfs, ok.funs, ok.frf⟩
section
variable {X : Cx} {pins : List (Addr × Obj)} {σ : St} {H : Hp} {s : Shared} {E : Value -> Shared -> Prop}
theorem Inv.wish (I : Inv X pins σ H s) (E : Value -> Shared -> Prop) : Inv (X.wish E) pins σ H s := ⟨I.ok.wish E, I.os, I.bare, I.base, I.loc, I.cell, I.free, I.freeC, I.pin, I.hok, I.len⟩
theorem Inv.unwish (I : Inv (X.wish E) pins σ H s) : Inv X pins σ H s := ⟨I.ok.unwish, I.os, I.bare, I.base, I.loc, I.cell, I.free, I.freeC, I.pin, I.hok, I.len⟩
theorem SP.unwish {D : Ends} {f : Flow} {s' : Shared} (h : SP (X.wish E) pins D f s') : SP X pins D f s' := by
 cases f with
 | next => obtain ⟨σ', H', I, q⟩ := h; exact ⟨σ', H', I.unwish, q⟩
 | brk => obtain ⟨σ', H', I, q⟩ := h; exact ⟨σ', H', I.unwish, q⟩
 | cont => obtain ⟨σ', H', I, q⟩ := h; exact ⟨σ', H', I.unwish, q⟩
 | ret u => obtain ⟨v, σ', H', I, r, q⟩ := h; exact ⟨v, σ', H', I.unwish, r, q⟩
theorem PSs.nox {st : List Stmt} {t : TS} (h : PSs X.nox st t) : PSs X st t := fun pins s σ H D I hw =>
 wpAny_mono (h pins s σ H D (I.wish _) hw) (fun _ _ q => q.unwish) fun _ _ z => False.elim z
end
section
variable {X : Cx} {st : Stmt} {rest : List Stmt} {t u : TS} {e : Expr} {te : TE} {pos : Pos}
def tNext : TS := fun D σ H => D.nx σ H
def tSeq (t u : TS) : TS := fun D σ H => t { D with nx := u D } σ H
theorem pss_nil : PSs X [] tNext := fun _ _ σ H _ I h => wpAny_execs_nil ⟨σ, H, I, h⟩
theorem zD (h1 : PS X st t) (h2 : PSs X rest u) : PSs X (st :: rest) (tSeq t u) := by
 intro pins s σ H D I h
 refine wpAny_execs_cons (thn (h1 pins s σ H { D with nx := u D } I h) fun f s1 q => ?_)
 cases f with
 | next =>
   obtain ⟨σ', H', I', q⟩ := q
   exact h2 pins s1 σ' H' D I' q
 | ret v => exact q
 | brk => exact q
 | cont => exact q
theorem zF (h1 : PS X st t) : PSs X [st] t := by
 intro pins s σ H D I h
 refine wpAny_execs_cons (thn (h1 pins s σ H D I h) fun f s1 q => ?_)
 cases f with
 | next => exact wpAny_execs_nil q
 | ret v => exact q
 | brk => exact q
 | cont => exact q
theorem Inv.quiet {pins : List (Addr × Obj)} {σ : St} {H : Hp} {s : Shared} (I : Inv X pins σ H s) : interactive X.env = false := by simp [interactive, I.ok.kind]
def tDrop (te : TE) : TS := fun D σ H => te σ H fun _ H1 => D.nx σ H1
theorem yW (he : PE X e te) (hs : swapsWith e none pos.line X.env = pure false := by rfl) : PS X (.Expr e pos) (tDrop te) := by
 intro pins s σ H D I h
 exact wpAny_Expr_any (thn (he pins s σ H _ I h) fun v s1 ⟨x, H1, I1, r1, q1⟩ => ⟨σ, H1, I1, q1⟩) I.quiet hs
def tRet (te : TE) : TS := fun D σ H => te σ H D.rt
theorem zL (he : PE X e te) : PS X (.Return (some e) pos) (tRet te) := by
 intro pins s σ H D I h
 exact wpAny_Return_some (thn (he pins s σ H _ I h) fun v s1 ⟨x, H1, I1, r1, q1⟩ => ⟨x, σ, H1, I1, r1, q1⟩)
def tRetN : TS := fun D _ H => D.rt .non H
def tIfS (c : TT) (t u : TS) : TS := fun D σ H => c σ H fun b H1 => if b = true then t D σ H1 else u D σ H1
theorem yC {c : Expr} {a b : List Stmt} {tc : TT} (hc : PT X c tc) (ha : PSs X a t) (hb : PSs X b u) : PS X (.If c a b pos) (tIfS tc t u) := by
 intro pins s σ H D I h
 refine wpAny_If (thn (hc pins s σ H _ I h) fun d s1 ⟨H1, I1, q1⟩ => ?_)
 cases d with
 | true => exact ha pins s1 σ H1 D I1 q1
 | false => exact hb pins s1 σ H1 D I1 q1
end
abbrev TG := V -> St -> Hp -> (St -> Hp -> Prop) -> Prop
abbrev TGs := List V -> St -> Hp -> (St -> Hp -> Prop) -> Prop
def PG (X : Cx) (target : Expr) (t : TG) : Prop :=
 ∀ (pins : List (Addr × Obj)) (s : Shared) (σ : St) (H : Hp) (v : V) (u : Value) (Q : St -> Hp -> Prop), Inv X pins σ H s -> RelV v u -> t v σ H Q ->
   wpAny (model X.prog X.w) X.A (assign target X.env u) (fun _ s' => ∃ σ' H', Inv X pins σ' H' s' /\ Q σ' H') X.xe s
def PGs (X : Cx) (ts : List Expr) (t : TGs) : Prop :=
 ∀ (pins : List (Addr × Obj)) (s : Shared) (σ : St) (H : Hp) (vs : List V) (us : List Value) (Q : St -> Hp -> Prop), Inv X pins σ H s -> Vals vs us -> t vs σ H Q ->
   wpAny (model X.prog X.w) X.A (assignInOrder ((assignEach ts X.env).map (·.2)) us) (fun _ s' => ∃ σ' H', Inv X pins σ' H' s' /\ Q σ' H') X.xe s
abbrev TSet := V -> V -> V -> Hp -> (Hp -> Prop) -> Prop
def PSet (X : Cx) (t : TSet) : Prop :=
 ∀ (pins : List (Addr × Obj)) (s : Shared) (σ : St) (H : Hp) (o i v : V) (ov iv u : Value) (Q : Hp -> Prop), Inv X pins σ H s -> RelV o ov -> RelV i iv -> RelV v u -> t o i v H Q ->
   wpAny (model X.prog X.w) X.A (setItem ov iv u) (fun _ s' => ∃ H', Inv X pins σ H' s' /\ Q H') X.xe s
section
variable {X : Cx} {pos : Pos}
def gName (i : Nat) : TG := fun v σ H Q => Q (σ.set i (some v)) H
theorem zP {i : Nat} {x : Str} (hN : X.N.Nodup) (hi : X.N[i]? = some x) (hx : Loc X.env.scope x) (hf : X.fn x = true \/ X.env.scope.names.lookup x = some .local := by first | exact .inl rfl | exact .inr rfl | assumption) : PG X (.Name x pos) (gName i) := by
 intro pins s σ H v u Q I r h
 exact wpAny_assign_Name (jG I hN hi hx r (fun s' I' => ⟨_, H, I', h⟩) hf)
def gNil : TGs := fun vs σ H Q => vs = [] /\ Q σ H
def gCons (t : TG) (u : TGs) : TGs := fun vs σ H Q => ∃ v r, vs = v :: r /\ t v σ H fun σ' H' => u r σ' H' Q
theorem pgs_nil : PGs X [] gNil := by
 intro pins s σ H vs us Q I r h
 obtain ⟨e, h⟩ := h
 subst e
 cases r
 exact assignInOrder_nil ⟨σ, H, I, h⟩
theorem xG {e : Expr} {es : List Expr} {t : TG} {u : TGs} (h1 : PG X e t) (h2 : PGs X es u)
   (hs : (assignEach (e :: es) X.env).map (·.2) = assign e X.env :: (assignEach es X.env).map (·.2) := by rfl) : PGs X (e :: es) (gCons t u) := by
 intro pins s σ H vs us Q I r h
 obtain ⟨v, vr, e1, h⟩ := h
 subst e1
 cases r with
 | cons r rr =>
   rw [hs]
   refine assignInOrder_cons (thn (h1 pins s σ H _ _ _ I r h) fun _ s1 ⟨σ1, H1, I1, q1⟩ => ?_)
   exact h2 pins s1 σ1 H1 _ _ Q I1 rr q1
def gTup (K : PySem.W.Frag) (n : Nat) (t : TGs) : TG := fun v σ H Q => ∃ a xs, v = .ref a /\ SqT K H a xs /\ xs.length = n /\ t xs σ H Q
theorem pg_tup {es : List Expr} {k : Nat} {t : TGs} {n : Nat} (hc : X.calm = true) (h : PGs X es t)
   (hn : (assignEach es X.env).length = n := by rfl) (hst : (assignEach es X.env).findIdx? (·.1) = none := by rfl) : PG X (.Tuple es k pos) (gTup X.K n t) := by
 intro pins s σ H v u Q I r hw
 obtain ⟨a, xs, e1, hq, hl, hw⟩ := hw
 subst e1
 cases r
 obtain ⟨its, rv, ht, hz⟩ := I.tuple hq
 refine assign_Tuple_tuple (I.ok.hd hc) ht (by simp [hn, ← hl, rv.length]) hst fun h' hx => ?_
 have I1 : Inv X pins σ H { s with heap := h' } := I.kept (t' := s.toks) fun b o e => hx b o (Nat.ne_of_lt (Heap.lt_size e)) e
 exact h pins _ σ H xs _ Q I1 (by simpa using rv) hw
def gSub (to ti : TE) (t : TSet) : TG := fun v σ H Q => to σ H fun o H1 => ti σ H1 fun i H2 => t o i v H2 fun H3 => Q σ H3
theorem pg_sub {o i : Expr} {to ti : TE} {t : TSet} (ho : PE X o to) (hi : PE X i ti) (hs : PSet X t)
   (ha : ∀ v, assign (.Subscript o i pos) X.env v = (do
     let ov ← holding [v] (eval o X.env)
     let iv ← holding [v, ov] (eval i X.env)
     standAt pos
     holding [v, ov, iv] (setItem ov iv v)
     release [v, ov, iv] []) := by intro _; rfl) : PG X (.Subscript o i pos) (gSub to ti t) := by
 intro pins s σ H v u Q I r h
 rw [ha]
 refine wpAny_bind (wpAny_holding (thn (ho pins s σ H _ I h) fun ov s1 ⟨x, H1, I1, r1, q1⟩ => ?_))
 refine wpAny_bind (wpAny_holding (thn (hi pins s1 σ H1 _ I1 q1) fun iv s2 ⟨y, H2, I2, r2, q2⟩ => ?_))
 refine wpAny_bind (wpAny_standAt (wpAny_bind (wpAny_holding (thn (hs pins s2 σ H2 x y v ov iv u _ I2 r1 r2 r q2) fun _ s3 ⟨H3, I3, q3⟩ => ?_))))
 exact wpAny_release ⟨σ, H3, I3, q3⟩
def tAsg (te : TE) (g : TG) : TS := fun D σ H => te σ H fun x H1 => g x σ H1 D.nx
theorem ps_asg {tg e : Expr} {te : TE} {g : TG} (he : PE X e te) (hg : PG X tg g) (hs : swapsWithSole [tg] e pos.line X.env = pure false := by rfl) (hw : swappedStores [tg] e X.env = pure none := by rfl)
   (h1 : (assignEach [tg] X.env).map (·.2) = [assign tg X.env] := by rfl) : PS X (.Assign [tg] e pos) (tAsg te g) := by
 intro pins s σ H D I h
 refine wpAny_Assign_stores (thn (he pins s σ H _ I h) fun v s1 ⟨x, H1, I1, r1, q1⟩ => ?_) hs hw
 rw [h1]
 exact thn (hg pins s1 σ H1 x v _ I1 r1 q1) fun _ s2 q => q
theorem zN {i : Nat} {x : Str} {e : Expr} {te : TE} {pos' : Pos} (hN : X.N.Nodup) (hi : X.N[i]? = some x) (hx : Loc X.env.scope x) (he : PE X e te) (hs : swapsWith e (some (.Name x pos')) pos.line X.env = pure false := by rfl) (hf : X.fn x = true \/ X.env.scope.names.lookup x = some .local := by first | exact .inl rfl | exact .inr rfl | assumption) :
   PS X (.Assign [.Name x pos'] e pos) (tAsg te (gName i)) := by
 intro pins s σ H D I h
 refine wpAny_Assign_Name (thn (he pins s σ H _ I h) fun v s1 ⟨y, H1, I1, r1, q1⟩ => ?_) hs
 exact jG I1 hN hi hx r1 (fun s2 I2 => ⟨_, H1, I2, q1⟩) hf
end
section
variable {X : Cx} {pos : Pos}
def tWhile (c : TT) (tb : TS) : TS := fun D σ H => ∃ W : Nat -> St -> Hp -> Prop, (∃ m, W m σ H) /\ ∀ m σ H, W m σ H ->
 c σ H fun b H1 => if b = true then ∃ N : St -> Hp -> Prop, (∀ σ' H', N σ' H' -> ∃ m', m' < m /\ W m' σ' H') /\ tb { D with nx := N, ct := N, bk := D.nx } σ H1 else D.nx σ H1
theorem ps_while {c : Expr} {body : List Stmt} {tc : TT} {tb : TS} (hp : PassesOwn (model X.prog X.w) X.A X.env X.xe) (hc : PT X c tc) (hb : PSs X body tb) : PS X (.While c body [] pos) (tWhile tc tb) := by
 intro pins s σ H D I h
 obtain ⟨W, ⟨m0, w0⟩, turn⟩ := h
 refine wpAny_While (codeAny_whileLoop (fun n s' => ∃ σ' H', Inv X pins σ' H' s' /\ W n σ' H') ?_ m0 ⟨σ, H, I, w0⟩)
 rintro n s1 ⟨σ1, H1, I1, w1⟩
 refine wpAny_passesOwn hp (thn (hc pins s1 σ1 H1 _ I1 (turn n σ1 H1 w1)) fun b s2 ⟨H2, I2, q2⟩ => ?_)
 cases b with
 | true =>
   obtain ⟨N, hN, q2⟩ := q2
   rw [if_pos rfl]
   refine wpAny_passesOwn hp (thn (hb pins s2 σ1 H2 _ I2 q2) fun f s3 q3 => ?_)
   cases f with
   | next =>
     obtain ⟨σ3, H3, I3, n3⟩ := q3
     obtain ⟨m', hm, w3⟩ := hN σ3 H3 n3
     exact ⟨m', hm, σ3, H3, I3, w3⟩
   | cont =>
     obtain ⟨σ3, H3, I3, n3⟩ := q3
     obtain ⟨m', hm, w3⟩ := hN σ3 H3 n3
     exact ⟨m', hm, σ3, H3, I3, w3⟩
   | brk => exact q3
   | ret v => exact q3
 | false =>
   rw [if_neg Bool.false_ne_true]
   exact wpAny_execs_nil ⟨σ1, H2, I2, q2⟩
end
structure It where
 go : Nat -> Hp -> Prop
 yld : Nat -> Hp -> V -> Hp -> Prop
 stop : Nat -> Hp -> Prop
def FpOk (X : Cx) (pins : List (Addr × Obj)) (H : Hp) (b : Addr) : Prop :=
 H b = none /\ b ≠ X.env.locals /\ b ∉ X.fs /\ (b ∈ X.ex \/ X.s₀.heap.objs.size <= b) /\ (∀ x c, X.env.cells.lookup x = some c -> c ≠ b) /\ ∀ p ∈ X.pn ++ pins, p.1 ≠ b
theorem Inv.fpOk {X : Cx} {pins : List (Addr × Obj)} {σ : St} {H H' : Hp} {s : Shared} {b : Addr} (I : Inv X pins σ H s) (hb : s.heap.objs.size <= b) (hn : H' b = none) : FpOk X pins H' b := by
 refine ⟨hn, Nat.ne_of_gt (Nat.lt_of_lt_of_le I.lt hb), I.nofs hb, .inr (Nat.le_trans I.sz hb), fun x c e z => ?_, fun p hp z => ?_⟩
 · obtain ⟨v, q⟩ := I.cell x c e
   exact absurd (Nat.lt_of_lt_of_le q.lt (by rw [z]; exact hb)) (Nat.lt_irrefl _)
 · exact absurd (Nat.lt_of_lt_of_le (Heap.lt_size (I.pin p hp).1) (by rw [z]; exact hb)) (Nat.lt_irrefl _)
structure Turn (P : Program) (w : World) (K : PySem.W.Frag) (tg : Expr) (J : It) (fp : List Addr) (it : Addr) (tn : Nat -> Heap -> Prop) : Prop where
 mem : it ∈ fp
 obj : ∀ i h, tn i h -> ∀ b ∈ fp, ∃ o, h.get? b = some o /\ ∀ v, o.data ≠ .cell v
 keep : ∀ i h h', tn i h -> (∀ b ∈ fp, ∀ o, h.get? b = some o -> h'.get? b = some o) -> tn i h'
 item : ∀ (X : Cx), X.prog = P -> X.w = w -> X.K = K -> X.calm = true -> ∀ (i : Nat) (pins : List (Addr × Obj)) (s : Shared) (σ : St) (H : Hp) (E : Value -> Shared -> Prop), Inv X pins σ H s -> (∀ b ∈ fp, FpOk X pins H b) -> tn i s.heap -> J.go i H ->
   wpAny (model P w) X.A (pyNext (.ref it)) (fun r s1 => ∃ u, r = some u /\
     wpAny (model P w) X.A (letOwnedTupleGo tg (.ref it) u) (fun _ s2 => ∃ x H', Inv X pins σ H' s2 /\ RelV x u /\ J.yld i H x H' /\ tn (i + 1) s2.heap /\ ∀ b ∈ fp, H' b = none) E s1) E s
 done : ∀ (X : Cx), X.prog = P -> X.w = w -> X.K = K -> X.calm = true -> ∀ (i : Nat) (pins : List (Addr × Obj)) (s : Shared) (σ : St) (H : Hp) (E : Value -> Shared -> Prop), Inv X pins σ H s -> (∀ b ∈ fp, FpOk X pins H b) -> tn i s.heap -> J.stop i H ->
   wpAny (model P w) X.A (pyNext (.ref it)) (fun r s1 => r = none /\ Inv X pins σ H s1) E s
 self : ∀ (A : Around) (i : Nat) (s : Shared) (Q : Value -> Shared -> Prop) (E : Value -> Shared -> Prop), tn i s.heap -> Q (.ref it) s -> wpAny (model P w) A (pyIter (.ref it)) Q E s
abbrev TI := St -> Hp -> (It -> Hp -> Prop) -> Prop
def PIE (X : Cx) (pins : List (Addr × Obj)) (σ : St) (tg : Expr) (R : It -> Hp -> Prop) (itv : Value) (s2 : Shared) : Prop :=
 ∃ (it : Addr) (fp : List Addr) (tn : Nat -> Heap -> Prop) (J : It) (H' : Hp), itv = .ref it /\ Inv X pins σ H' s2 /\ Turn X.prog X.w X.K tg J fp it tn /\ tn 0 s2.heap /\ (∀ b ∈ fp, FpOk X pins H' b) /\ R J H'
def PI (X : Cx) (tg iter : Expr) (wi : TI) : Prop :=
 ∀ (pins : List (Addr × Obj)) (s : Shared) (σ : St) (H : Hp) (R : It -> Hp -> Prop), Inv X pins σ H s -> wi σ H R ->
   wpAny (model X.prog X.w) X.A (eval iter X.env) (fun v s1 => wpAny (model X.prog X.w) X.A (pyIter v) (PIE X pins σ tg R) X.xe s1) X.xe s
theorem go_of {M : Model} {A : Around} {E : Value -> Shared -> Prop} {s : Shared} {tg : Expr} {it : Addr} {u : Value} {o : Obj} {n : String} {vs : Array Value} {Q : Unit -> Shared -> Prop} (ho : s.heap.get? it = some o) (hc : o.cls = .type n) (hd : o.data = .fields vs)
   (hn : ["enumerate", "zip", "dict_itemiterator", "dict_reverseitemiterator", "odict_iterator", "itertools.zip_longest", "itertools.pairwise"].contains n = false) (hQ : Q () s) : wpAny M A (letOwnedTupleGo tg (.ref it) u) Q E s := by
 unfold letOwnedTupleGo
 cases tg <;> first
   | exact wpAny_pure hQ
   | (cases u <;> first
       | exact wpAny_pure hQ
       | (refine wpAny_bind (wpAny_load ho ?_)
          rw [hc, hd]
          show wpAny M A (if (["enumerate", "zip", "dict_itemiterator", "dict_reverseitemiterator", "odict_iterator", "itertools.zip_longest", "itertools.pairwise"].contains n && vs[0]? == some (rawInt _)) = true then _ else _) Q E s
          rw [if_neg (by intro h; rw [hn, Bool.false_and] at h; cases h)]
          exact wpAny_pure hQ))
def Itl (K : PySem.W.Frag) (a : Addr) : It :=
 ⟨fun i H => ∃ xs x, SqL K H a xs /\ xs[i]? = some x, fun i H x H' => H' = H /\ ∀ xs, SqL K H a xs -> xs[i]? = some x, fun i H => ∃ xs, SqL K H a xs /\ xs.length <= i⟩
def Itt (K : PySem.W.Frag) (a : Addr) : It :=
 ⟨fun i H => ∃ xs x, SqT K H a xs /\ xs[i]? = some x, fun i H x H' => H' = H /\ ∀ xs, SqT K H a xs -> xs[i]? = some x, fun i H => ∃ xs, SqT K H a xs /\ xs.length <= i⟩
def Itr (lo : Int) (n : Nat) : It := ⟨fun i _ => i < n, fun i H x H' => H' = H /\ x = .int (lo + i), fun i _ => n <= i⟩
theorem turn_list {P : Program} {w : World} {K : PySem.W.Frag} {tg : Expr} (a it : Addr) : Turn P w K tg (Itl K a) [it] it (fun i h => h.IsListIter it a i) where
 mem := by simp
 obj := fun i h st b hb => by
   have e : b = it := by simpa using hb
   subst e
   obtain ⟨o, e, c, d⟩ := st
   exact ⟨o, e, fun v z => by rw [d] at z; cases z⟩
 keep := fun i h h' st k => st.at fun o e => k it (by simp) o e
 item := by
   intro X hP hw hK hc i pins s σ H E I hf st hg
   subst hP hw hK
   obtain ⟨xs, x, hq, hx⟩ := hg
   obtain ⟨its, rv, p, hz⟩ := I.list hq
   obtain ⟨u, hu, ru⟩ := rv.get hx
   obtain ⟨f0, f1, f2, f3, f4, f5⟩ := hf it (by simp)
   refine wpAny_pyNext_list_item st p.isList (x := u) (by simpa using hu) fun h' st' sb => ?_
   have I1 : Inv X pins σ H { s with heap := h' } := I.turned (t' := s.toks) (fun b o hb e => (sb.2 b hb).trans e) f0 f1 f3 f4 f5
   obtain ⟨o, e, c, d⟩ := id st'
   exact ⟨u, rfl, go_of (s := { s with heap := h' }) e c d (by decide) ⟨x, H, I1, ru, ⟨rfl, fun ys hy => by rw [I.list_inj hy hq]; exact hx⟩, st', fun b hb => (hf b hb).1⟩⟩
 done := by
   intro X hP hw hK hc i pins s σ H E I hf st hg
   subst hP hw hK
   obtain ⟨xs, hq, hx⟩ := hg
   obtain ⟨its, rv, p, hz⟩ := I.list hq
   obtain ⟨f0, f1, f2, f3, f4, f5⟩ := hf it (by simp)
   have hl := rv.length
   exact wpAny_pyNext_list_end (I.ok.hd hc) st p.isList (by simp; omega) fun h' eb => ⟨rfl, I.turned (t' := s.toks) (fun b o hb e => eb b o hb e) f0 f1 f3 f4 f5⟩
 self := fun _ _ _ _ _ st h => wpAny_pyIter_listiter st h
theorem turn_tuple {P : Program} {w : World} {K : PySem.W.Frag} {tg : Expr} (a it : Addr) : Turn P w K tg (Itt K a) [it] it (fun i h => h.IsTupleIter it a i) where
 mem := by simp
 obj := fun i h st b hb => by
   have e : b = it := by simpa using hb
   subst e
   obtain ⟨o, e, c, d⟩ := st
   exact ⟨o, e, fun v z => by rw [d] at z; cases z⟩
 keep := fun i h h' st k => st.at fun o e => k it (by simp) o e
 item := by
   intro X hP hw hK hc i pins s σ H E I hf st hg
   subst hP hw hK
   obtain ⟨xs, x, hq, hx⟩ := hg
   obtain ⟨its, rv, p, hz⟩ := I.tuple hq
   obtain ⟨u, hu, ru⟩ := rv.get hx
   obtain ⟨f0, f1, f2, f3, f4, f5⟩ := hf it (by simp)
   refine wpAny_pyNext_tuple_item st (show s.heap.IsTuple a its.toArray from p) (x := u) (by simpa using hu) fun h' st' sb => ?_
   have I1 : Inv X pins σ H { s with heap := h' } := I.turned (t' := s.toks) (fun b o hb e => (sb.2 b hb).trans e) f0 f1 f3 f4 f5
   obtain ⟨o, e, c, d⟩ := id st'
   exact ⟨u, rfl, go_of (s := { s with heap := h' }) e c d (by decide) ⟨x, H, I1, ru, ⟨rfl, fun ys hy => by rw [I.tuple_inj hy hq]; exact hx⟩, st', fun b hb => (hf b hb).1⟩⟩
 done := by
   intro X hP hw hK hc i pins s σ H E I hf st hg
   subst hP hw hK
   obtain ⟨xs, hq, hx⟩ := hg
   obtain ⟨its, rv, p, hz⟩ := I.tuple hq
   obtain ⟨f0, f1, f2, f3, f4, f5⟩ := hf it (by simp)
   have hl := rv.length
   exact wpAny_pyNext_tuple_end (I.ok.hd hc) st (show s.heap.IsTuple a its.toArray from p) (by simp; omega) fun h' eb => ⟨rfl, I.turned (t' := s.toks) (fun b o hb e => eb b o hb e) f0 f1 f3 f4 f5⟩
 self := fun _ _ _ _ _ st h => wpAny_pyIter_tupleiter st h
theorem turn_range {P : Program} {w : World} {K : PySem.W.Frag} {tg : Expr} (it : Addr) (lo : Int) (n : Nat) : Turn P w K tg (Itr lo n) [it] it (fun i h => IsRangeIter h it (lo + (i : Nat) * 1) ((n : Int) - (i : Nat)) 1) where
 mem := by simp
 obj := fun i h st b hb => by
   have e : b = it := by simpa using hb
   subst e
   exact ⟨_, st, fun v z => by
     have z' : Data.fields _ = Data.cell v := z
     cases z'⟩
 keep := fun i h h' st k => k it (by simp) _ st
 item := by
   intro X hP hw hK hc i pins s σ H E I hf st hg
   subst hP hw hK
   obtain ⟨f0, f1, f2, f3, f4, f5⟩ := hf it (by simp)
   have W := Walks.range (prog := X.prog) (w := X.w) (I.ok.hd hc) it lo 1 n
   refine W.item i s _ _ hg st fun v h' tk hv st' kk => ?_
   obtain ⟨t, rfl⟩ := hv
   have I1 : Inv X pins σ H { s with heap := h', toks := tk } := I.turned (fun b o hb e => kk b o (by simpa using hb) e) f0 f1 f3 f4 f5
   refine ⟨_, rfl, go_of (s := { s with heap := h', toks := tk }) (n := "range_iterator") st' rfl rfl (by decide) ⟨.int (lo + i), H, I1, ⟨t, ?_⟩, ⟨rfl, rfl⟩, st', fun b hb => (hf b hb).1⟩⟩
   rw [Int.mul_one]
 done := by
   intro X hP hw hK hc i pins s σ H E I hf st hg
   subst hP hw hK
   obtain ⟨f0, f1, f2, f3, f4, f5⟩ := hf it (by simp)
   exact wpAny_pyNext_range_end (I.ok.hd hc) st (by have : n <= i := hg; omega) fun h' eb => ⟨rfl, I.turned (t' := s.toks) (fun b o hb e => eb b o hb e) f0 f1 f3 f4 f5⟩
 self := fun _ _ _ _ _ st h => wpAny_pyIter_rangeiter st h
section
variable {X : Cx} {tg : Expr}
def iList (K : PySem.W.Frag) (tl : TE) : TI := fun σ H R => tl σ H fun x H1 => ∃ a, x = .ref a /\ (∃ xs, SqL K H1 a xs) /\ R (Itl K a) H1
def iTup (K : PySem.W.Frag) (tl : TE) : TI := fun σ H R => tl σ H fun x H1 => ∃ a, x = .ref a /\ (∃ xs, SqT K H1 a xs) /\ R (Itt K a) H1
theorem yE {l : Expr} {tl : TE} (hl : PE X l tl) : PI X tg l (iList X.K tl) := by
 intro pins s σ H R I h
 refine thn (hl pins s σ H _ I h) fun v s1 ⟨x, H1, I1, r1, q1⟩ => ?_
 obtain ⟨a, e, ⟨xs, hq⟩, q⟩ := q1
 subst e
 cases r1
 obtain ⟨its, rv, p, hz⟩ := I1.list hq
 refine wpAny_pyIter_list p.isList ?_
 refine ⟨s1.heap.objs.size, [s1.heap.objs.size], _, _, H1, rfl, I1.kept (t' := s1.toks) fun b o e => Heap.get?_push_of_some _ e, turn_list a _, ⟨_, Heap.get?_push_size _ rfl, rfl, rfl⟩, fun b hb => ?_, q⟩
 have e : b = s1.heap.objs.size := by simpa using hb
 subst e
 exact I1.fpOk (Nat.le_refl _) (I1.hok.fresh (Nat.le_refl _))
theorem qP {l : Expr} {tl : TE} (hl : PE X l tl) : PI X tg l (iTup X.K tl) := by
 intro pins s σ H R I h
 refine thn (hl pins s σ H _ I h) fun v s1 ⟨x, H1, I1, r1, q1⟩ => ?_
 obtain ⟨a, e, ⟨xs, hq⟩, q⟩ := q1
 subst e
 cases r1
 obtain ⟨its, rv, p, hz⟩ := I1.tuple hq
 refine wpAny_pyIter_tuple (show s1.heap.IsTuple a its.toArray from p) ?_
 refine ⟨s1.heap.objs.size, [s1.heap.objs.size], _, _, H1, rfl, I1.kept (t' := s1.toks) fun b o e => Heap.get?_push_of_some _ e, turn_tuple a _, ⟨_, Heap.get?_push_size _ rfl, rfl, rfl⟩, fun b hb => ?_, q⟩
 have e : b = s1.heap.objs.size := by simpa using hb
 subst e
 exact I1.fpOk (Nat.le_refl _) (I1.hok.fresh (Nat.le_refl _))
theorem range_it {pins : List (Addr × Obj)} {σ : St} {H : Hp} {s : Shared} {R : It -> Hp -> Prop} {E : Value -> Shared -> Prop} {lo hi : Int} {t u v : Tok} {tk : Nat} (I : Inv X pins σ H s) (h1 : -(2 ^ 62) <= lo) (h2 : lo < 2 ^ 62) (h3 : -(2 ^ 62) <= hi) (h4 : hi < 2 ^ 62)
   (q : R (Itr lo (hi - lo).toNat) H) : wpAny (model X.prog X.w) X.A (pyIter (.ref s.heap.objs.size)) (PIE X pins σ tg R) E { s with heap := s.heap.push { cls := .type "range", data := .fields #[.int lo t, .int hi u, .int 1 v] }, toks := tk } := by
 refine wpAny_pyIter_range (IsRange.new ..) (small_one h1 h2 h3 h4) ?_
 have I1 : Inv X pins σ H { s with heap := s.heap.push { cls := .type "range", data := .fields #[.int lo t, .int hi u, .int 1 v] }, toks := tk } := I.kept fun b o e => Heap.get?_push_of_some _ e
 refine ⟨(s.heap.push { cls := .type "range", data := .fields #[.int lo t, .int hi u, .int 1 v] }).objs.size, [(s.heap.push { cls := .type "range", data := .fields #[.int lo t, .int hi u, .int 1 v] }).objs.size], _, _, H, rfl,
   I1.kept (t' := tk) fun b o e => Heap.get?_push_of_some _ e, turn_range _ lo (hi - lo).toNat, ?_, fun b hb => ?_, q⟩
 · have e1 : lo + ((0 : Nat) : Int) * 1 = lo := by simp
   have e2 : (((hi - lo).toNat : Nat) : Int) - ((0 : Nat) : Int) = Builtin.Range.rangeSize lo hi 1 := by rw [rangeSize_one]; split <;> omega
   show IsRangeIter _ _ (lo + ((0 : Nat) : Int) * 1) ((((hi - lo).toNat : Nat) : Int) - ((0 : Nat) : Int)) 1
   rw [e1, e2]
   exact Heap.get?_push_size _ rfl
 · have e : b = (s.heap.push { cls := .type "range", data := .fields #[.int lo t, .int hi u, .int 1 v] }).objs.size := by simpa using hb
   subst e
   exact I1.fpOk (Nat.le_refl _) (I1.hok.fresh (Nat.le_refl _))
def iRng1 (ta : TA) : TI := fun σ H R => ta σ H fun vs H1 => ∃ j : Int, vs = [.int j] /\ -(2 ^ 62) <= j /\ j < 2 ^ 62 /\ R (Itr 0 j.toNat) H1
def iRng2 (ta : TA) : TI := fun σ H R => ta σ H fun vs H1 => ∃ i j : Int, vs = [.int i, .int j] /\ (-(2 ^ 62) <= i /\ i < 2 ^ 62 /\ -(2 ^ 62) <= j /\ j < 2 ^ 62) /\ R (Itr i (j - i).toNat) H1
theorem xD {a : Expr} {ta : TA} {p pos : Pos} (hg : Gl X "range") (hm : X.mg "range" = none) (ha : PA X [a] ta) (hs : starEach [a] X.env = [(false, eval a X.env)] := by rfl) : PI X tg (.Call (.Name "range" p) [a] [] pos) (iRng1 ta) := by
 intro pins s σ H R I h
 refine Call_ (jW I hg hm boot_range (PyProof.Rows.callWith_type1 (thn (ha pos pins s σ H _ I h) fun us s1 ⟨vs, H1, I1, r1, q1⟩ => ?_) hs rfl))
 obtain ⟨j, e, q1, q2, q⟩ := q1
 subst e
 cases r1 with
 | cons r rr =>
   cases rr
   obtain ⟨t, rfl⟩ := r
   exact call_range_1 (range_it I1 (by omega) (by omega) q1 q2 (by simpa using q))
theorem uR {a b : Expr} {ta : TA} {p pos : Pos} (hg : Gl X "range") (hm : X.mg "range" = none) (ha : PA X [a, b] ta) (hs : starEach [a, b] X.env = [(false, eval a X.env), (false, eval b X.env)] := by rfl) (hs2 : starEach [b] X.env = [(false, eval b X.env)] := by rfl) :
   PI X tg (.Call (.Name "range" p) [a, b] [] pos) (iRng2 ta) := by
 intro pins s σ H R I h
 refine Call_ (jW I hg hm boot_range (PyProof.Rows.callWith_type1 (thn (ha pos pins s σ H _ I h) fun us s1 ⟨vs, H1, I1, r1, q1⟩ => ?_) (by rw [hs, hs2]) (by rw [hs2]; rfl)))
 obtain ⟨i, j, e, ⟨q1, q2, q3, q4⟩, q⟩ := q1
 subst e
 cases r1 with
 | cons r rr =>
   cases rr with
   | cons r' rr =>
     cases rr
     obtain ⟨t, rfl⟩ := r
     obtain ⟨t', rfl⟩ := r'
     exact call_range_2 (range_it I1 q1 q2 q3 q4 q)
def tFor (wi : TI) (g : TG) (tb : TS) : TS := fun D σ H => wi σ H fun J H1 => ∃ W : Nat -> Nat -> St -> Hp -> Prop, (∃ m, W 0 m σ H1) /\ ∀ i m σ H, W i m σ H ->
 (J.stop i H /\ D.nx σ H) \/ (J.go i H /\ ∃ N : St -> Hp -> Prop, (∀ σ' H', N σ' H' -> ∃ m', m' < m /\ W (i + 1) m' σ' H') /\ ∀ x H', J.yld i H x H' -> g x σ H' fun σ2 H2 => tb { D with nx := N, ct := N, bk := D.nx } σ2 H2)
def xF (fp : List Addr) (h : Heap) : List (Addr × Obj) := fp.filterMap fun b => (h.get? b).map fun o => (b, o)
theorem yU {fp : List Addr} {h : Heap} {b : Addr} {o : Obj} (hb : b ∈ fp) (e : h.get? b = some o) : (b, o) ∈ xF fp h := List.mem_filterMap.mpr ⟨b, hb, by rw [e]; rfl⟩
theorem uS {fp : List Addr} {h : Heap} {p : Addr × Obj} (hp : p ∈ xF fp h) : p.1 ∈ fp /\ h.get? p.1 = some p.2 := by
 obtain ⟨b, hb, e⟩ := List.mem_filterMap.mp hp
 cases q : h.get? b with
 | none => rw [q] at e; cases e
 | some o =>
   rw [q] at e
   have e' : (b, o) = p := Option.some.inj e
   subst e'
   exact ⟨hb, q⟩
theorem Inv.pinned {pins : List (Addr × Obj)} {σ : St} {H : Hp} {s : Shared} {fp : List Addr} (I : Inv X pins σ H s) (hf : ∀ b ∈ fp, FpOk X pins H b) (ho : ∀ b ∈ fp, ∃ o, s.heap.get? b = some o /\ ∀ v, o.data ≠ .cell v) : Inv X (pins ++ xF fp s.heap) σ H s :=
 I.pins_of fun p hp => (List.mem_append.mp hp).elim (fun z => I.pin p (List.mem_append_right _ z)) fun z => by
   obtain ⟨hb, e⟩ := uS z
   obtain ⟨f0, f1, f2, _⟩ := hf p.1 hb
   obtain ⟨o, e', d⟩ := ho p.1 hb
   rw [e] at e'; cases e'
   exact ⟨e, f0, f1, f2, d⟩
theorem Inv.unpinned {pins pl : List (Addr × Obj)} {σ : St} {H : Hp} {s : Shared} (I : Inv X (pins ++ pl) σ H s) : Inv X pins σ H s := I.pins_of fun p hp => I.pin p (List.mem_append_right _ (List.mem_append_left _ hp))
theorem yK {iter : Expr} {body : List Stmt} {wi : TI} {g : TG} {tb : TS} {pos : Pos} (hp : PassesOwn (model X.prog X.w) X.A X.env X.xe) (hc : X.calm = true) (hi : PI X tg iter wi) (hg : PG X tg g) (hb : PSs X body tb)
   (hs : ∀ x, foldedSetIterable iter X.env x = pure x := by intro _; rfl) : PS X (.For tg iter body [] pos) (tFor wi g tb) := by
 intro pins s σ H D I h
 refine wpAny_For (thn (hi pins s σ H _ I h) fun v s1 h1 => thn h1 fun itv s2 h2 => ?_) hs
 obtain ⟨it, fp, tn, J, H2, e, I2, T, st2, f2, W, ⟨m0, w0⟩, turn⟩ := h2
 subst e
 have stat : ∀ {H' : Hp}, (∀ b ∈ fp, H' b = none) -> ∀ b ∈ fp, FpOk X pins H' b := fun hn b hb => ⟨hn b hb, (f2 b hb).2⟩
 refine codeAny_forLoop_any (fun n s' => ∃ i σ' H', Inv X pins σ' H' s' /\ tn i s'.heap /\ (∀ b ∈ fp, H' b = none) /\ W i n σ' H') ?_ m0 ⟨0, σ, H2, I2, st2, fun b hb => (f2 b hb).1, w0⟩
 rintro n s3 ⟨i, σ3, H3, I3, st3, fr3, w3⟩
 rcases turn i n σ3 H3 w3 with ⟨stop, qn⟩ | ⟨go, N, hN, step⟩
 · refine wpAny_passesOwn hp (thn (T.done X rfl rfl rfl hc i pins s3 σ3 H3 X.xe I3 (stat fr3) st3 stop) fun r s4 ⟨hr, I4⟩ => ?_)
   subst hr
   exact wpAny_execs_nil ⟨σ3, H3, I4, qn⟩
 · refine wpAny_passesOwn hp (thn (T.item X rfl rfl rfl hc i pins s3 σ3 H3 X.xe I3 (stat fr3) st3 go) fun r s4 ⟨u, hr, h4⟩ => ?_)
   subst hr
   refine wpAny_passesOwn hp (thn h4 fun _ s5 ⟨x, H5, I5, r5, y5, st5, fr5⟩ => ?_)
   have I5' := I5.pinned (stat fr5) (T.obj _ _ st5)
   refine wpAny_passesOwn hp (thn (hg _ s5 σ3 H5 x u _ I5' r5 (step x H5 y5)) fun _ s6 ⟨σ6, H6, I6, q6⟩ => ?_)
   refine wpAny_passesOwn hp (thn (hb _ s6 σ6 H6 _ I6 q6) fun f s7 q7 => ?_)
   have again : ∀ {σ7 : St} {H7 : Hp}, Inv X (pins ++ xF fp s5.heap) σ7 H7 s7 -> N σ7 H7 -> ∃ m, m < n /\ ∃ i σ' H', Inv X pins σ' H' s7 /\ tn i s7.heap /\ (∀ b ∈ fp, H' b = none) /\ W i m σ' H' := fun {σ7 H7} I7 n7 => by
     obtain ⟨m', hm, w7⟩ := hN σ7 H7 n7
     refine ⟨m', hm, i + 1, σ7, H7, I7.unpinned, T.keep _ _ _ st5 fun b hb o e => (I7.pin (b, o) (List.mem_append_right _ (List.mem_append_right _ (yU hb e)))).1, fun b hb => ?_, w7⟩
     obtain ⟨o, e, d⟩ := T.obj _ _ st5 b hb
     exact (I7.pin (b, o) (List.mem_append_right _ (List.mem_append_right _ (yU hb e)))).2.1
   cases f with
   | next => obtain ⟨σ7, H7, I7, n7⟩ := q7; exact again I7 n7
   | cont => obtain ⟨σ7, H7, I7, n7⟩ := q7; exact again I7 n7
   | brk => obtain ⟨σ7, H7, I7, q7⟩ := q7; exact ⟨σ7, H7, I7.unpinned, q7⟩
   | ret v => obtain ⟨x7, σ7, H7, I7, r7, q7⟩ := q7; exact ⟨x7, σ7, H7, I7.unpinned, r7, q7⟩
end
theorem for_list {K : PySem.W.Frag} {a : Addr} {xs : List V} {g : TG} {tb : TS} {D : Ends} {σ : St} {H : Hp} (Pv : Nat -> St -> Hp -> Prop) (h0 : Pv 0 σ H) (hl : ∀ i σ H, i <= xs.length -> Pv i σ H -> SqL K H a xs)
   (hs : ∀ i x σ H, xs[i]? = some x -> Pv i σ H -> g x σ H fun σ2 H2 => tb { D with nx := Pv (i + 1), ct := Pv (i + 1), bk := D.nx } σ2 H2) (hd : ∀ σ H, Pv xs.length σ H -> D.nx σ H) :
   ∃ W : Nat -> Nat -> St -> Hp -> Prop, (∃ m, W 0 m σ H) /\ ∀ i m σ H, W i m σ H ->
     ((Itl K a).stop i H /\ D.nx σ H) \/ ((Itl K a).go i H /\ ∃ N : St -> Hp -> Prop, (∀ σ' H', N σ' H' -> ∃ m', m' < m /\ W (i + 1) m' σ' H') /\ ∀ x H', (Itl K a).yld i H x H' -> g x σ H' fun σ2 H2 => tb { D with nx := N, ct := N, bk := D.nx } σ2 H2) := by
 refine ⟨fun i m σ H => m = xs.length - i /\ i <= xs.length /\ Pv i σ H, ⟨xs.length, by simp, Nat.zero_le _, h0⟩, ?_⟩
 rintro i m σ H ⟨rfl, hi, p⟩
 have q := hl i σ H hi p
 by_cases hlt : i < xs.length
 · refine .inr ⟨⟨xs, xs[i], q, by simp [hlt]⟩, Pv (i + 1), fun σ' H' p' => ⟨xs.length - (i + 1), by omega, rfl, hlt, p'⟩, fun x H' y => ?_⟩
   obtain ⟨e, y⟩ := y
   subst e
   exact hs i x σ _ (y xs q) p
 · have e : i = xs.length := by omega
   subst e
   exact .inl ⟨⟨xs, q, Nat.le_refl _⟩, hd σ H p⟩
theorem for_tup {K : PySem.W.Frag} {a : Addr} {xs : List V} {g : TG} {tb : TS} {D : Ends} {σ : St} {H : Hp} (Pv : Nat -> St -> Hp -> Prop) (h0 : Pv 0 σ H) (hl : ∀ i σ H, i <= xs.length -> Pv i σ H -> SqT K H a xs)
   (hs : ∀ i x σ H, xs[i]? = some x -> Pv i σ H -> g x σ H fun σ2 H2 => tb { D with nx := Pv (i + 1), ct := Pv (i + 1), bk := D.nx } σ2 H2) (hd : ∀ σ H, Pv xs.length σ H -> D.nx σ H) :
   ∃ W : Nat -> Nat -> St -> Hp -> Prop, (∃ m, W 0 m σ H) /\ ∀ i m σ H, W i m σ H ->
     ((Itt K a).stop i H /\ D.nx σ H) \/ ((Itt K a).go i H /\ ∃ N : St -> Hp -> Prop, (∀ σ' H', N σ' H' -> ∃ m', m' < m /\ W (i + 1) m' σ' H') /\ ∀ x H', (Itt K a).yld i H x H' -> g x σ H' fun σ2 H2 => tb { D with nx := N, ct := N, bk := D.nx } σ2 H2) := by
 refine ⟨fun i m σ H => m = xs.length - i /\ i <= xs.length /\ Pv i σ H, ⟨xs.length, by simp, Nat.zero_le _, h0⟩, ?_⟩
 rintro i m σ H ⟨rfl, hi, p⟩
 have q := hl i σ H hi p
 by_cases hlt : i < xs.length
 · refine .inr ⟨⟨xs, xs[i], q, by simp [hlt]⟩, Pv (i + 1), fun σ' H' p' => ⟨xs.length - (i + 1), by omega, rfl, hlt, p'⟩, fun x H' y => ?_⟩
   obtain ⟨e, y⟩ := y
   subst e
   exact hs i x σ _ (y xs q) p
 · have e : i = xs.length := by omega
   subst e
   exact .inl ⟨⟨xs, q, Nat.le_refl _⟩, hd σ H p⟩
theorem for_range {lo : Int} {n : Nat} {g : TG} {tb : TS} {D : Ends} {σ : St} {H : Hp} (Pv : Nat -> St -> Hp -> Prop) (h0 : Pv 0 σ H)
   (hs : ∀ i σ H, i < n -> Pv i σ H -> g (.int (lo + i)) σ H fun σ2 H2 => tb { D with nx := Pv (i + 1), ct := Pv (i + 1), bk := D.nx } σ2 H2) (hd : ∀ σ H, Pv n σ H -> D.nx σ H) :
   ∃ W : Nat -> Nat -> St -> Hp -> Prop, (∃ m, W 0 m σ H) /\ ∀ i m σ H, W i m σ H ->
     ((Itr lo n).stop i H /\ D.nx σ H) \/ ((Itr lo n).go i H /\ ∃ N : St -> Hp -> Prop, (∀ σ' H', N σ' H' -> ∃ m', m' < m /\ W (i + 1) m' σ' H') /\ ∀ x H', (Itr lo n).yld i H x H' -> g x σ H' fun σ2 H2 => tb { D with nx := N, ct := N, bk := D.nx } σ2 H2) := by
 refine ⟨fun i m σ H => m = n - i /\ i <= n /\ Pv i σ H, ⟨n, by simp, Nat.zero_le _, h0⟩, ?_⟩
 rintro i m σ H ⟨rfl, hi, p⟩
 by_cases hlt : i < n
 · refine .inr ⟨hlt, Pv (i + 1), fun σ' H' p' => ⟨n - (i + 1), by omega, rfl, hlt, p'⟩, fun x H' y => ?_⟩
   obtain ⟨e, y⟩ := y
   subst e y
   exact hs i σ _ hlt p
 · have e : i = n := by omega
   subst e
   exact .inl ⟨Nat.le_refl _, hd σ H p⟩
abbrev R2 := V -> V -> Hp -> VK -> Prop
def OpR (X : Cx) (f : Value -> Value -> Sem Value) (r : R2) : Prop :=
 ∀ (pins : List (Addr × Obj)) (s : Shared) (σ : St) (H : Hp) (x y : V) (v u : Value) (Q : VK), Inv X pins σ H s -> RelV x v -> RelV y u -> r x y H Q ->
   wpAny (model X.prog X.w) X.A (f v u) (EP X pins σ Q) X.xe s
def UnR (X : Cx) (f : Value -> Sem Value) (r : V -> Hp -> VK -> Prop) : Prop :=
 ∀ (pins : List (Addr × Obj)) (s : Shared) (σ : St) (H : Hp) (x : V) (v : Value) (Q : VK), Inv X pins σ H s -> RelV x v -> r x H Q ->
   wpAny (model X.prog X.w) X.A (f v) (EP X pins σ Q) X.xe s
def yZ (X : Cx) (f : Value) (r : List V -> Hp -> VK -> Prop) : Prop :=
 ∀ (pins : List (Addr × Obj)) (s : Shared) (σ : St) (H : Hp) (xs : List V) (us : List Value) (Q : VK), Inv X pins σ H s -> Vals xs us -> r xs H Q ->
   wpAny (model X.prog X.w) X.A (call f us) (EP X pins σ Q) X.xe s
def tOp (r : R2) (ta tb : TE) : TE := fun σ H Q => ta σ H fun x H1 => tb σ H1 fun y H2 => r x y H2 Q
def tUn (r : V -> Hp -> VK -> Prop) (ta : TE) : TE := fun σ H Q => ta σ H fun x H1 => r x H1 Q
def rI (C : Int -> Int -> Prop) (g : Int -> Int -> V) : R2 := fun x y H Q => ∃ i j, x = .int i /\ y = .int j /\ C i j /\ Q (g i j) H
def rI0 (g : Int -> Int -> V) : R2 := fun x y H Q => ∃ i j, x = .int i /\ y = .int j /\ Q (g i j) H
def rU (g : Int -> V) : V -> Hp -> VK -> Prop := fun x H Q => ∃ i, x = .int i /\ Q (g i) H
section
variable {X : Cx} {a b c : Expr} {ta tb tc : TE} {pos : Pos}
theorem binT (ha : PE X a ta) (hb : PE X b tb) {pins : List (Addr × Obj)} {s : Shared} {σ : St} {H : Hp} {R : V -> V -> Hp -> Prop} (I : Inv X pins σ H s)
   (h : ta σ H fun x H1 => tb σ H1 fun y H2 => R x y H2) {Q : Value -> Shared -> Prop} {f : Value -> Value -> Sem Value}
   (hf : ∀ v u s2 x y H2, Inv X pins σ H2 s2 -> RelV x v -> RelV y u -> R x y H2 -> wpAny (model X.prog X.w) X.A (f v u) Q X.xe s2) :
   wpAny (model X.prog X.w) X.A (eval a X.env) (fun v s₁ => wpAny (model X.prog X.w) X.A (eval b X.env) (fun u s₂ => wpAny (model X.prog X.w) X.A (f v u) Q X.xe s₂) X.xe s₁) X.xe s := by
 refine thn (ha pins s σ H _ I h) fun v s1 ⟨x, H1, I1, r1, q1⟩ => ?_
 refine thn (hb pins s1 σ H1 _ I1 q1) fun u s2 ⟨y, H2, I2, r2, q2⟩ => ?_
 exact hf v u s2 x y H2 I2 r1 r2 q2
theorem zJ {op : Operator} {r : R2} (ho : OpR X (binaryOp op) r) (ha : PE X a ta) (hb : PE X b tb) : PE X (.BinOp a op b pos) (tOp r ta tb) := by
 intro pins s σ H Q I h
 exact wpAny_BinOp (binT ha hb I h fun v u s2 x y H2 I2 rx ry q => ho pins s2 σ H2 x y v u Q I2 rx ry q)
theorem xL {op : UnaryOp} {r : V -> Hp -> VK -> Prop} (ho : UnR X (unaryOp op) r) (ha : PE X a ta) : PE X (.UnaryOp op a pos) (tUn r ta) := by
 intro pins s σ H Q I h
 exact UnaryOp_ (thn (ha pins s σ H _ I h) fun v s1 ⟨x, H1, I1, r1, q1⟩ => ho pins s1 σ H1 x v Q I1 r1 q1)
theorem opI {f : Value -> Value -> Sem Value} {C : Int -> Int -> Prop} {g : Int -> Int -> Int}
   (rule : ∀ (i j : Int) (t u : Tok) (s : Shared) (Q : Value -> Shared -> Prop) (E : Value -> Shared -> Prop), C i j -> Q (.int (g i j) s.toks) { s with toks := s.toks + 1 } -> wpAny (model X.prog X.w) X.A (f (.int i t) (.int j u)) Q E s) :
   OpR X f (rI C fun i j => .int (g i j)) := by
 intro pins s σ H x y v u Q I rx ry h
 obtain ⟨i, j, rfl, rfl, hc, q⟩ := h
 obtain ⟨t, rfl⟩ := rx
 obtain ⟨t', rfl⟩ := ry
 exact rule i j t t' s _ _ hc ⟨.int (g i j), H, I.tok _, ⟨_, rfl⟩, q⟩
theorem opI0 {f : Value -> Value -> Sem Value} {g : Int -> Int -> Int}
   (rule : ∀ (i j : Int) (t u : Tok) (s : Shared) (Q : Value -> Shared -> Prop) (E : Value -> Shared -> Prop), Q (.int (g i j) s.toks) { s with toks := s.toks + 1 } -> wpAny (model X.prog X.w) X.A (f (.int i t) (.int j u)) Q E s) :
   OpR X f (rI0 fun i j => .int (g i j)) := by
 intro pins s σ H x y v u Q I rx ry h
 obtain ⟨i, j, rfl, rfl, q⟩ := h
 obtain ⟨t, rfl⟩ := rx
 obtain ⟨t', rfl⟩ := ry
 exact rule i j t t' s _ _ ⟨.int (g i j), H, I.tok _, ⟨_, rfl⟩, q⟩
theorem opB0 {f : Value -> Value -> Sem Value} {g : Int -> Int -> Bool}
   (rule : ∀ (i j : Int) (t u : Tok) (s : Shared) (Q : Value -> Shared -> Prop) (E : Value -> Shared -> Prop), Q (.bool (g i j)) s -> wpAny (model X.prog X.w) X.A (f (.int i t) (.int j u)) Q E s) :
   OpR X f (rI0 fun i j => .bl (g i j)) := by
 intro pins s σ H x y v u Q I rx ry h
 obtain ⟨i, j, rfl, rfl, q⟩ := h
 obtain ⟨t, rfl⟩ := rx
 obtain ⟨t', rfl⟩ := ry
 exact rule i j t t' s _ _ ⟨.bl (g i j), H, I, rfl, q⟩
def CDiv (i j : Int) : Prop := 0 < j /\ j < 1073741824
def CPow (i j : Int) : Prop := 0 <= j /\ j <= 1000000 /\ i.natAbs < 2 ^ 64
def CMul (i j : Int) : Prop := (-(2 ^ 64) < i /\ i < 2 ^ 64) \/ (-(2 ^ 64) < j /\ j < 2 ^ 64)
theorem CMul.ok {i j : Int} (h : CMul i j) : IntMulOk i j := by
 rcases h with ⟨h1, h2⟩ | ⟨h1, h2⟩
 · exact .of_left (intBits_le_64 h1 h2)
 · exact .of_right (intBits_le_64 h1 h2)
theorem op_add : OpR X (binaryOp .Add) (rI0 fun i j => .int (i + j)) := opI0 fun _ _ _ _ _ _ _ q => add_int q
theorem op_sub : OpR X (binaryOp .Sub) (rI0 fun i j => .int (i - j)) := opI0 fun _ _ _ _ _ _ _ q => sub_int q
theorem op_mul : OpR X (binaryOp .Mult) (rI CMul fun i j => .int (i * j)) := opI fun _ _ _ _ _ _ _ hc q => mul_int q hc.ok
theorem op_fdiv : OpR X (binaryOp .FloorDiv) (rI CDiv fun i j => .int (i / j)) := opI fun i j _ _ _ _ _ hc q => by
 have h1 : (0 : Int) < j := hc.1
 have h2 : j < 1073741824 := hc.2
 exact floordiv_int (by omega) (by rw [Int.fdiv_eq_ediv_of_nonneg i (by omega)]; exact q) (.inl (PyProof.noPylong_small (by omega)))
theorem op_mod : OpR X (binaryOp .Mod) (rI (fun _ j => 0 < j) fun i j => .int (i % j)) := opI fun i j _ _ _ _ _ hc q => by
 have h1 : (0 : Int) < j := hc
 exact mod_int' (by omega) (by rw [Int.fmod_eq_emod_of_nonneg i (by omega)]; exact q)
theorem op_pow : OpR X (binaryOp .Pow) (rI CPow fun i j => .int (i ^ j.toNat)) := opI fun _ _ _ _ _ _ _ hc q => pow_int_small hc.1 hc.2.1 hc.2.2 q
theorem unI {f : Value -> Sem Value} {g : Int -> Int}
   (rule : ∀ (i : Int) (t : Tok) (s : Shared) (Q : Value -> Shared -> Prop) (E : Value -> Shared -> Prop), Q (.int (g i) s.toks) { s with toks := s.toks + 1 } -> wpAny (model X.prog X.w) X.A (f (.int i t)) Q E s) :
   UnR X f (rU fun i => .int (g i)) := by
 intro pins s σ H x v Q I rx h
 obtain ⟨i, rfl, q⟩ := h
 obtain ⟨t, rfl⟩ := rx
 exact rule i t s _ _ ⟨.int (g i), H, I.tok _, ⟨_, rfl⟩, q⟩
theorem un_neg : UnR X (unaryOp .USub) (rU fun i => .int (-i)) := unI fun _ _ _ _ _ q => neg_int q
end
def scal : V -> V -> Bool
 | .non, .non => true | .non, .int _ => true | .int _, .non => true | .non, .bl _ => true | .bl _, .non => true | .non, .str _ => true | .str _, .non => true
 | .int _, .int _ => true | .bl _, .bl _ => true | .str _, .str _ => true | .byt _, .byt _ => true
 | .int _, .str _ => true | .str _, .int _ => true | .bl _, .str _ => true | .str _, .bl _ => true
 | _, _ => false
def rEq : R2 := fun x y H Q => scal x y = true /\ Q (.bl (decide (x = y))) H
def rNe : R2 := fun x y H Q => scal x y = true /\ Q (.bl (!decide (x = y))) H
theorem dec_int {i j : Int} : decide (V.int i = V.int j) = (i == j) := by
 rw [Bool.eq_iff_iff]
 simp
theorem dec_bl {i j : Bool} : decide (V.bl i = V.bl j) = (i == j) := by
 rw [Bool.eq_iff_iff]
 simp
theorem dec_str {i j : Str} : decide (V.str i = V.str j) = (i == j) := by
 rw [Bool.eq_iff_iff]
 simp
theorem dec_byt {i j : Array UInt8} : decide (V.byt i = V.byt j) = (i.toList == j.toList) := by
 rw [Bool.eq_iff_iff]
 cases i
 cases j
 simp
section
variable {X : Cx} {a b c : Expr} {ta tb tc : TE} {pos : Pos}
theorem yN {pins : List (Addr × Obj)} {σ : St} {H : Hp} {s : Shared} {Q : VK} {k k' : Bool} (I : Inv X pins σ H s) (q : Q (.bl k) H) (e : k = k') : EP X pins σ Q (.bool k') s := by
 subst e
 exact ⟨.bl k, H, I, rfl, q⟩
theorem op_eq : OpR X (compareOp .Eq) rEq := by
 intro pins s σ H x y v u Q I rx ry h
 obtain ⟨hs, q⟩ := h
 cases x with
 | non =>
   cases rx
   cases y with
   | non => cases ry; exact PySem.EqNone.eq_none_none (yN I q (by simp))
   | bl j => cases ry; exact PySem.EqNone.eq_none_bool (yN I q (by simp))
   | int j => obtain ⟨t', rfl⟩ := ry; exact PySem.EqNone.eq_none_int (yN I q (by simp))
   | str j => obtain ⟨t', rfl⟩ := ry; exact PySem.EqNone.eq_none_str (yN I q (by simp))
   | _ => exact absurd (show false = true from hs) Bool.false_ne_true
 | bl i =>
   cases rx
   cases y with
   | non => cases ry; exact PySem.EqNone.eq_bool_none (yN I q (by simp))
   | bl j => cases ry; exact eq_bool (yN I q dec_bl)
   | str j => obtain ⟨t', rfl⟩ := ry; exact PySem.EqMixed.eq_bool_str (yN I q (by simp))
   | _ => exact absurd (show false = true from hs) Bool.false_ne_true
 | int i =>
   obtain ⟨t, rfl⟩ := rx
   cases y with
   | non => cases ry; exact PySem.EqNone.eq_int_none (yN I q (by simp))
   | int j => obtain ⟨t', rfl⟩ := ry; exact eq_int (yN I q dec_int)
   | str j => obtain ⟨t', rfl⟩ := ry; exact PySem.EqMixed.eq_int_str (yN I q (by simp))
   | _ => exact absurd (show false = true from hs) Bool.false_ne_true
 | str i =>
   obtain ⟨t, rfl⟩ := rx
   cases y with
   | non => cases ry; exact PySem.EqNone.eq_str_none (yN I q (by simp))
   | bl j => cases ry; exact PySem.EqMixed.eq_str_bool (yN I q (by simp))
   | int j => obtain ⟨t', rfl⟩ := ry; exact PySem.EqMixed.eq_str_int (yN I q (by simp))
   | str j => obtain ⟨t', rfl⟩ := ry; exact eq_str (yN I q dec_str)
   | _ => exact absurd (show false = true from hs) Bool.false_ne_true
 | byt i =>
   obtain ⟨t, rfl⟩ := rx
   cases y with
   | byt j => obtain ⟨t', rfl⟩ := ry; exact PySem.W.eq_bytes (yN I q dec_byt)
   | _ => exact absurd (show false = true from hs) Bool.false_ne_true
 | _ => cases y <;> exact absurd (show false = true from hs) Bool.false_ne_true
theorem op_lt : OpR X (compareOp .Lt) (rI0 fun i j => .bl (decide (i < j))) := opB0 fun _ _ _ _ _ _ _ q => lt_int q
theorem op_gt : OpR X (compareOp .Gt) (rI0 fun i j => .bl (decide (j < i))) := opB0 fun _ _ _ _ _ _ _ q => gt_int q
theorem op_ge : OpR X (compareOp .GtE) (rI0 fun i j => .bl (decide (j <= i))) := opB0 fun _ _ _ _ _ _ _ q => ge_int q
theorem op_isN : OpR X (compareOp .Is) (fun x y H Q => y = .non /\ Q (.bl (decide (x = .non))) H) := by
 intro pins s σ H x y v u Q I rx ry h
 obtain ⟨rfl, q⟩ := h
 cases ry
 refine is_none_gen (yN I q ?_)
 cases x <;> first
   | (cases rx; rfl)
   | (obtain ⟨t, rfl⟩ := rx; rfl)
theorem zR (b : Expr) {op : CmpOp} (h : op ≠ .In := by decide) (h2 : op ≠ .NotIn := by decide) : behindInMarks op b = false := by
 have e1 : (op == CmpOp.In) = false := by cases op <;> first | rfl | exact absurd rfl h
 have e2 : (op == CmpOp.NotIn) = false := by cases op <;> first | rfl | exact absurd rfl h2
 cases b <;> simp [behindInMarks, e1, e2]
theorem xJ {op : CmpOp} {r : R2} (ho : OpR X (compareOp op) r) (ha : PE X a ta) (hb : PE X b tb) (hm : behindInMarks op b = false) : PE X (.Compare a [op] [b] pos) (tOp r ta tb) := by
 intro pins s σ H Q I h
 exact wpAny_Compare1 (binT ha hb I h fun v u s2 x y H2 I2 rx ry q => ho pins s2 σ H2 x y v u Q I2 rx ry q) hm
def tTest (t : TE) : TT := fun σ H Q => t σ H fun x H' => ∃ k, x = .bl k /\ Q k H'
theorem zO {op : CmpOp} {r : R2} (ho : OpR X (compareOp op) r) (ha : PE X a ta) (hb : PE X b tb) (hm : behindInMarks op b = false) : PT X (.Compare a [op] [b] pos) (tTest (tOp r ta tb)) := by
 intro pins s σ H Q I h
 refine wpAny_isTrue_Compare1 (thn (ha pins s σ H _ I h) fun v s1 ⟨x, H1, I1, r1, q1⟩ => thn (hb pins s1 σ H1 _ I1 q1) fun u s2 ⟨y, H2, I2, r2, q2⟩ =>
   thn (ho pins s2 σ H2 x y v u _ I2 r1 r2 q2) fun c s3 ⟨z, H3, I3, r3, k, e, q3⟩ => ?_) hm
 subst e
 cases r3
 exact wpAny_truthy_bool ⟨H3, I3, q3⟩
def tChain (r r' : R2) (ta tb tc : TE) : TE := fun σ H Q => ta σ H fun x H1 => tb σ H1 fun y H2 => r x y H2 fun z H3 => ∃ k, z = .bl k /\
 (if k = true then tc σ H3 fun w' H4 => r' y w' H4 Q else Q (.bl false) H3)
theorem line63 : (sizeLine : Nat) < 2 ^ 63 := by rw [sizeLine_eq]; decide
theorem op_add_str : OpR X (binaryOp .Add) (fun x y H Q => ∃ i j, x = .str i /\ y = .str j /\ i.length + j.length <= sizeLine /\ Q (.str (i ++ j)) H) := by
 intro pins s σ H x y v u Q I rx ry h
 obtain ⟨i, j, rfl, rfl, hz, q⟩ := h
 obtain ⟨t, rfl⟩ := rx
 obtain ⟨t', rfl⟩ := ry
 exact add_str (fun t' tk => ⟨.str (i ++ j), H, I.tok _, ⟨_, rfl⟩, q⟩) hz
theorem xN {x : V} {us : List Value} (r : Vals [x] us) : ∃ u, us = [u] /\ RelV x u := by
 cases r with
 | cons r1 r2 => cases r2; exact ⟨_, rfl, r1⟩
theorem vals2 {x y : V} {us : List Value} (r : Vals [x, y] us) : ∃ u w', us = [u, w'] /\ RelV x u /\ RelV y w' := by
 cases r with
 | cons r1 r2 =>
   cases r2 with
   | cons r3 r4 => cases r4; exact ⟨_, _, rfl, r1, r3⟩
def LenV (K : PySem.W.Frag) (x : V) (H : Hp) (n : Nat) : Prop :=
 match x with
 | .str y => y.length <= sizeLine /\ n = y.length
 | .byt y => y.size <= sizeLine /\ n = y.size
 | .ref p => (∃ xs, SqL K H p xs /\ n = xs.length) \/ ∃ xs, SqT K H p xs /\ n = xs.length
 | _ => False
theorem call_len : yZ X (.builtin "len") (fun xs H Q => ∃ x n, xs = [x] /\ LenV X.K x H n /\ Q (.int n) H) := by
 intro pins s σ H xs us Q I r h
 obtain ⟨x, n, rfl, e, q⟩ := h
 obtain ⟨u, rfl, rx⟩ := xN r
 have hl := line63
 have hs : sizeLine = 16777216 := sizeLine_eq
 cases x with
 | str y =>
   obtain ⟨t, rfl⟩ := rx
   obtain ⟨hy, e'⟩ : y.length <= sizeLine /\ n = y.length := e
   subst e'
   exact len_str (by omega) ⟨.int _, H, I.tok _, ⟨_, rfl⟩, q⟩
 | byt y =>
   obtain ⟨t, rfl⟩ := rx
   obtain ⟨hy, e'⟩ : y.size <= sizeLine /\ n = y.size := e
   subst e'
   exact PySem.W.len_bytes (by omega) ⟨.int _, H, I.tok _, ⟨_, rfl⟩, q⟩
 | ref p =>
   cases rx
   have e' : (∃ xs, SqL X.K H p xs /\ n = xs.length) \/ ∃ xs, SqT X.K H p xs /\ n = xs.length := e
   rcases e' with ⟨xs, hx, e'⟩ | ⟨xs, hx, e'⟩
   · subst e'
     obtain ⟨its, r', pl, hz⟩ := I.list hx
     have hlen := r'.length
     exact Calls.call_len_list pl.isList (by simp only [List.size_toArray]; omega) ⟨.int xs.length, H, I.tok _, ⟨_, by simp only [List.size_toArray]; rw [hlen]⟩, q⟩
   · subst e'
     obtain ⟨its, r', pl, hz⟩ := I.tuple hx
     have hlen := r'.length
     exact len_tuple pl (by simp only [List.size_toArray]; omega) ⟨.int xs.length, H, I.tok _, ⟨_, by simp only [List.size_toArray]; rw [hlen]⟩, q⟩
 | _ => exact (show False from e).elim
end
structure ObjM (h : Heap) (x dx C : Addr) (mA : Str -> Option Value) : Prop where
 obj : h.get? x = some (PySem.W.instObj C dx)
 ns : h.Ns1 dx mA
 ne : dx ≠ x
theorem lookIn_ns {h : Heap} {dx : Addr} {mA : Str -> Option Value} (n : h.Ns1 dx mA) : ∃ od, h.get? dx = some od /\ ∀ name, PySem.W.lookIn name od = some (mA name) := by
 obtain ⟨o, es, ep, ho, hd, hk, _, hm⟩ := n
 refine ⟨o, ho, fun name => ?_⟩
 have e := hm name
 unfold nsFind findBy at e
 rw [← Array.find?_toList] at e
 unfold PySem.W.lookIn
 rw [hd]
 dsimp only
 split
 · rename_i y q
   rw [q] at e
   exact congrArg some e
 · rename_i q
   rw [q] at e
   have a : es.toList.any (·.refKey) = false := by
     rw [List.any_eq_false]
     intro y hy
     obtain ⟨z, t, hkey⟩ := hk y (Array.mem_toList_iff.mp hy)
     simp [DictEntry.refKey, hkey]
   have a' : ¬ es.toList.any (·.refKey) = true := by rw [a]; exact Bool.false_ne_true
   rw [if_neg a']
   exact congrArg some e
theorem ObjM.look {h : Heap} {x dx C : Addr} {mA : Str -> Option Value} (I : ObjM h x dx C mA) : ∃ od, PySem.W.InstAt h x (PySem.W.instObj C dx) C (some od) /\ ∀ name, PySem.W.lookIn name od = some (mA name) :=
 let ⟨od, ho, hl⟩ := lookIn_ns I.ns
 ⟨od, ⟨I.obj, rfl, rfl, ho⟩, hl⟩
section
variable {prog : Program} {w : World} {A : Around} {E : Value -> Shared -> Prop} {s : Shared} {K : PySem.W.Frag} {x dx C f : Addr} {mA : Str -> Option Value} {name : Str} {v : Value}
end
theorem RelO.some_of {v : V} {o : Option Value} (r : RelO (some v) o) : ∃ u, o = some u /\ RelV v u := by
 cases o with
 | none => exact (show False from r).elim
 | some u => exact ⟨u, rfl, r⟩
section
variable {P : Program} {w : World} {H H' : Hp} {h h' : Heap} {a C dx : Addr} {fs fs' : List (Str × V)}
theorem ins_get (hok : HOk P w H h) (e : H a = some (.ins C dx fs)) : ∃ mA, ObjM h a dx C mA /\ (∀ f, RelO (fs.lookup f) (mA f)) /\ PySem.Within mA (fs.map (·.1)) /\ fs.length <= 1000 /\ H dx = some (.own a) := by
 obtain ⟨d, z, ne, ob, mA, n, r, q⟩ := (show ObjOk P w H h a (.ins C dx fs) from hok a _ e)
 exact ⟨mA, ⟨ob, n, ne⟩, r, q, z, d⟩
end
structure Cls (K : PySem.W.Frag) (C : Addr) : Prop where
 pg : PySem.W.plainGet K C Str.empty = true
 hd : PySem.W.hasDictIn K C = true
 po : PySem.W.plainOver K C = true
 sa : PySem.W.findIn K (.ref C) "__setattr__" = some (some (.builtin "object.__setattr__"))
theorem Cls.get {K : PySem.W.Frag} {C : Addr} (c : Cls K C) (f : Str) : PySem.W.plainGet K C f = true := c.pg
structure Con (K : PySem.W.Frag) (C : Addr) (f : Str) (v : V) (u : Value) : Prop where
 at_ : PySem.W.findIn K (.ref C) f = some (some u)
 rel : RelV v u
 get : PySem.W.specialIn K u "__get__" = some none
 cp : PySem.W.copiedNames.contains f = false
structure Meth (K : PySem.W.Frag) (C : Addr) (m : Str) (f : Addr) : Prop where
 at_ : PySem.W.findIn K (.ref C) m = some (some (.ref f))
 fn : PySem.W.isFn K (.ref f) = true
 kp : PySem.W.keepIn K (.ref f) = true
section
variable {X : Cx} {pins : List (Addr × Obj)} {σ : St} {H : Hp} {s : Shared} {a C dx : Addr} {fs : List (Str × V)} {f : Str} {v : V} {A : Around} {E : Value -> Shared -> Prop}
end
section
variable {X : Cx} {o e value : Expr} {f : Str} {pos pos' tpos : Pos} {ta tv : TE}
end
section
variable {X : Cx} {pins : List (Addr × Obj)} {σ : St} {H : Hp} {s : Shared} {A : Around} {E : Value -> Shared -> Prop} {Q : Value -> Shared -> Prop} {c : Value} {b : Bool}
inductive TyOf (K : PySem.W.Frag) (H : Hp) : V -> Value -> Prop where
 | non : TyOf K H .non (.type "NoneType")
 | bl (x : Bool) : TyOf K H (.bl x) (.type "bool")
 | int (i : Int) : TyOf K H (.int i) (.type "int")
 | str (x : Str) : TyOf K H (.str x) (.type "str")
 | flt (x : UInt64) : TyOf K H (.flt x) (.type "float")
 | lst {a : Addr} {xs : List V} (e : H a = some (.lst xs)) : TyOf K H (.ref a) (.type "list")
 | frz {a : Addr} {o : Obj} {xs : List V} (e : H a = some (.frz o (.lst xs))) : TyOf K H (.ref a) (.type "list")
 | tup {a : Addr} {xs : List V} (e : H a = some (.tup xs)) : TyOf K H (.ref a) (.type "tuple")
 | dK {a : Addr} {kvs : List (Key × V)} (e : H a = some (.dK kvs)) : TyOf K H (.ref a) (.type "dict")
 | dT {a : Addr} {kvs : List (List Key × V)} (e : H a = some (.dT kvs)) : TyOf K H (.ref a) (.type "dict")
 | ins {a C dx : Addr} {fs : List (Str × V)} (e : H a = some (.ins C dx fs)) (cl : Cls K C) (ha : PySem.W.findIn K (.ref C) "__class__" = some (some (.builtin "object.__class__")))
     (hn : PySem.W.specialIn K (.builtin "object.__class__") "__get__" = some (some (.builtin "getset_descriptor.__get__"))) (htk : PySem.W.takesIn K (.builtin "object.__class__") = some true)
     (hm : PySem.W.mroIn K C (.type "object") = some true) : TyOf K H (.ref a) (.ref C)
theorem isinst_ok {x : V} {u t : Value} (I : Inv X pins σ H s) (rx : RelV x u) (ty : TyOf X.K H x t) (e : PySem.W.kitOne X.K t c = some b) (h : ∀ tk, Q (.bool b) { s with toks := tk }) :
   wpAny (model X.prog X.w) A (call (.builtin "isinstance") [u, c]) Q E s := by
 cases ty with
 | non => cases (show u = Value.none from rx); exact PySem.W.kia_one PySem.W.kitx_none I.kIn True.intro e (fun z => nomatch z) h
 | bl y => cases (show u = Value.bool y from rx); exact PySem.W.kia_one PySem.W.kitx_bool I.kIn True.intro e (fun z => nomatch z) h
 | int i => obtain ⟨t, q⟩ := (show ∃ t, u = Value.int i t from rx); cases q; exact PySem.W.kia_one PySem.W.kitx_int I.kIn True.intro e (fun z => nomatch z) h
 | str y => obtain ⟨t, q⟩ := (show ∃ t, u = Value.str y t from rx); cases q; exact PySem.W.kia_one PySem.W.kitx_str I.kIn True.intro e (fun z => nomatch z) h
 | flt y => obtain ⟨t, q⟩ := (show ∃ t, u = Value.float y t from rx); cases q; exact PySem.W.kia_one PySem.W.kitx_float I.kIn True.intro e (fun z => nomatch z) h
 | @lst a xs ea =>
   cases (show u = Value.ref a from rx)
   obtain ⟨_, _, n, _, h1⟩ := (show ObjOk X.prog X.w H s.heap a (.lst xs) from I.hok a _ ea)
   exact PySem.W.kia_one PySem.W.kitx_list I.kIn ⟨_, h1, rfl⟩ e (fun z => nomatch z) h
 | @frz a ob xs ea =>
   cases (show u = Value.ref a from rx)
   obtain ⟨_, _, _, n, _, h1⟩ := (show ObjOk X.prog X.w H s.heap a (.frz ob (.lst xs)) from I.hok a _ ea)
   exact PySem.W.kia_one PySem.W.kitx_list I.kIn ⟨_, h1, rfl⟩ e (fun z => nomatch z) h
 | @tup a xs ea =>
   cases (show u = Value.ref a from rx)
   obtain ⟨_, _, _, p⟩ := (show ObjOk X.prog X.w H s.heap a (.tup xs) from I.hok a _ ea)
   obtain ⟨o, h1, h2, _⟩ := p
   exact PySem.W.kia_one PySem.W.kitx_tuple I.kIn ⟨o, h1, h2⟩ e (fun z => nomatch z) h
 | @dK a kvs ea =>
   cases (show u = Value.ref a from rx)
   obtain ⟨_, _, vs, _, p⟩ := (show ObjOk X.prog X.w H s.heap a (.dK kvs) from I.hok a _ ea)
   obtain ⟨o, es, ep, h1, h2, _⟩ := p
   exact PySem.W.kia_one PySem.W.kitx_dict I.kIn ⟨o, h1, h2.1⟩ e (fun z => nomatch z) h
 | @dT a kvs ea =>
   cases (show u = Value.ref a from rx)
   obtain ⟨_, _, xs, _, o, es, ep, h1, h2, _⟩ := (show ObjOk X.prog X.w H s.heap a (.dT kvs) from I.hok a _ ea)
   exact PySem.W.kia_one PySem.W.kitx_dict I.kIn ⟨o, h1, h2.1⟩ e (fun z => nomatch z) h
 | @ins a C dx fs ea cl ha hn htk hm =>
   cases (show u = Value.ref a from rx)
   obtain ⟨mA, O, _⟩ := ins_get I.hok ea
   obtain ⟨od, J, _⟩ := O.look
   exact PySem.W.kia_one (PySem.W.kitx_own (cl.get _) cl.hd ha hn htk hm) I.kIn J e (fun z => nomatch z) h
end
structure Room (k : Nat) (A : Around) : Prop where
 hd : A.handled = none
 dp : A.depth + 3 * k + 5 < recursionLimit
 un : A.units + 16 * k + 200 < cLine
theorem Room.mono {j k : Nat} {A : Around} (r : Room k A) (h : j <= k) : Room j A := ⟨r.hd, by have := r.dp; omega, by have := r.un; omega⟩
theorem Room.deeper {k : Nat} {A : Around} (r : Room (k + 1) A) (env : Env) : Room k (A.deeper env) :=
 ⟨r.hd, by have := r.dp; show A.depth + 1 + 3 * k + 5 < _; omega, by have := r.un; show A.units + 3 + 16 * k + 200 < _; omega⟩
theorem Room.depth {k : Nat} {A : Around} (r : Room k A) : A.depth < recursionLimit := by have := r.dp; omega
theorem Room.units {k : Nat} {A : Around} (r : Room k A) : A.units + 64 < cLine := by have := r.un; omega
def tNil : TA := fun _ H Q => Q [] H
def tCons (ta : TE) (tr : TA) : TA := fun σ H Q => ta σ H fun x H1 => tr σ H1 fun xs H2 => Q (x :: xs) H2
section
variable {X : Cx} {e : Expr} {es : List Expr} {te : TE} {t : TA} {pos : Pos}
theorem pa_nil : PA X [] tNil := fun _ _ _ _ H Q I h => Calls.spliced_nil ⟨[], H, I, .nil, h⟩
theorem zA (ha : PE X e te) (hr : PA X es t) (hs : starEach (e :: es) X.env = (false, eval e X.env) :: starEach es X.env := by rfl) : PA X (e :: es) (tCons te t) := by
 intro pos pins s σ H Q I h
 rw [hs]
 show wpAny _ _ (spliced ((false, eval e X.env) :: backTo pos (starEach es X.env))) _ _ s
 refine Calls.spliced_cons (thn (ha pins s σ H _ I h) fun u s1 ⟨x, H1, I1, r1, q1⟩ => ?_)
 exact thn (hr pos pins s1 σ H1 _ I1 q1) fun us s2 ⟨xs, H2, I2, r2, q2⟩ => ⟨x :: xs, H2, I2, .cons r1 r2, q2⟩
def tTup (t : TA) : TE := fun σ H Q => t σ H fun xs H1 => xs.length <= sizeLine /\ ∀ p, H1 p = none -> Q (.ref p) (upd H1 p (.tup xs))
def tLst (t : TA) : TE := fun σ H Q => t σ H fun xs H1 => xs.length <= sizeLine /\ ∀ p, H1 p = none -> Q (.ref p) (upd H1 p (.lst xs))
theorem zY {x1} (h : PA X es t) : PE X (.Tuple es x1 pos) (tTup t) := by
 intro pins s σ H Q I hq
 refine wpAny_Tuple_spliced (thn (h pos pins s σ H _ I hq) fun us s1 ⟨xs, H1, I1, r, z, q⟩ => ⟨by rw [← r.length]; exact z, ?_⟩)
 have hf : H1 s1.heap.objs.size = none := I1.hok.fresh (Nat.le_refl _)
 refine ⟨.ref s1.heap.objs.size, upd H1 s1.heap.objs.size (.tup xs), I1.laid (t' := s1.toks) (fun b u e => Heap.get?_push_of_some _ e) (Nat.le_refl _) ?_, rfl, q _ hf⟩
 exact ⟨z, us, r, ⟨_, Heap.get?_push_size _ rfl, rfl, _, rfl⟩⟩
theorem zZ (h : PA X es t) : PE X (.List es pos) (tLst t) := by
 intro pins s σ H Q I hq
 refine wpAny_List_spliced (thn (h pos pins s σ H _ I hq) fun us s1 ⟨xs, H1, I1, r, z, q⟩ => ⟨by rw [← r.length]; exact z, ?_⟩)
 have hf : H1 s1.heap.objs.size = none := I1.hok.fresh (Nat.le_refl _)
 refine ⟨.ref s1.heap.objs.size, upd H1 s1.heap.objs.size (.lst xs), I1.laid (t' := s1.toks) (fun b u e => Heap.get?_push_of_some _ e) (Nat.le_refl _) ?_, rfl, q _ hf⟩
 exact ⟨z, us, 0, r, Heap.get?_push_size _ rfl⟩
end
abbrev Sp := List V -> Hp -> VK -> XK -> Prop
abbrev CXT := List Env -> Hp -> Shared -> XK -> Value -> Shared -> Prop
structure Env0 (P : Program) (w : World) (K : PySem.W.Frag) (mg : Str -> Option Value) (base : Heap) (A : Around) (outer : List Env) (s : Shared) (H : Hp) : Prop where
 frames : A.frames = some outer
 mod : Mod K mg base
 bs : ∀ b o, base.get? b = some o -> s.heap.get? b = some o /\ H b = none
 bsz : base.objs.size <= s.heap.objs.size
 funs : s.heap.FunFrames base outer
 frf : ∀ b ∈ frs outer, H b = none
 hok : HOk P w H s.heap
 bare : AllBare s.gens
def CE (outer : List Env) (P : Program) (w : World) (H : Hp) (s : Shared) (Q : VK) (u : Value) (s' : Shared) : Prop :=
 ∃ v H', s'.os = s.os /\ AllBare s'.gens /\ Un (frs outer) [] H H' s.heap s'.heap /\ HOk P w H' s'.heap /\ RelV v u /\ Q v H'
def CR (CX : CXT) (outer : List Env) (P : Program) (w : World) (H : Hp) (s : Shared) (Q : VK) (E : XK) (r : Result) (s' : Shared) : Prop :=
 match r with
 | .ok (.ret u) => CE outer P w H s Q u s'
 | .ok _ => False
 | .error e => CX outer H s E e s'
structure FnOk (P : Program) (w : World) (K : PySem.W.Frag) (mg : Str -> Option Value) (base : Heap) (CX : CXT) (k : Nat) (f : Addr) (fd : FuncData) (ps : List Str) (sp : Sp) : Prop where
 len : ∀ vs H Q E, sp vs H Q E -> vs.length = ps.length
 run : ∀ (A : Around) (outer : List Env) (s : Shared) (H : Hp) (args : Args) (us : List Value) (vs : List V) (Q : VK) (E : XK), Room k A -> Env0 P w K mg base A outer s H -> BindsTo s fd args (ps.zip us) -> Vals vs us -> sp vs H Q E ->
   codeAny (model P w) A (.call (.ref f) args) (CR CX outer P w H s Q E) s
section
variable {X : Cx} {pins : List (Addr × Obj)} {σ : St} {H : Hp} {s s' : Shared}
theorem Inv.env0 (I : Inv X pins σ H s) : Env0 X.prog X.w X.K X.mg X.base X.A X.stack s H :=
 ⟨I.ok.frames, I.ok.mod, I.bs, Nat.le_trans I.ok.bsz I.sz, I.stack, I.stkFree, I.hok, I.bare⟩
theorem Inv.after {Q : VK} {u : Value} (I : Inv X pins σ H s) (h : CE X.stack X.prog X.w H s Q u s') : EP X pins σ Q u s' := by
 obtain ⟨v, H', os, bare, un, hok, r, q⟩ := h
 obtain ⟨hh, g, d, t, os'⟩ := s'
 obtain rfl : os' = s.os := os
 exact ⟨v, H', I.call (h' := hh) (g' := g) (d' := d) (t' := t) (ch := []) un hok bare (fun b z => absurd z (by simp)), r, q⟩
end
def tCall (sp : Sp) (dvs : List V) (E : XK) (t : TA) : TE := fun σ H Q => t σ H fun vs H1 => sp (vs ++ dvs) H1 Q E
def Binds (K : PySem.W.Frag) (fd : FuncData) (ps : List Str) (ds : List Value) : Prop :=
 ∀ (s : Shared) (us : List Value), K.In s.heap -> (us ++ ds).length = ps.length -> BindsTo s fd ⟨us, []⟩ (ps.zip (us ++ ds))
theorem Binds.all {K : PySem.W.Frag} {fd : FuncData} {ps : List Str} (h : ∀ us : List Value, us.length = ps.length -> bindArgs fd ⟨us, []⟩ = pure (ps.zip us)) : Binds K fd ps [] := fun s us _ hl => by
 rw [List.append_nil] at hl ⊢
 exact .of_eq (h us hl)
def Passes (CX : CXT) (X : Cx) (E : XK) : Prop := ∀ (pins : List (Addr × Obj)) (σ : St) (H : Hp) (s : Shared) (e : Value) (s' : Shared), Inv X pins σ H s -> CX X.stack H s E e s' -> X.xe e s'
section
variable {X : Cx} {CX : CXT} {k : Nat} {f C : Addr} {fd : FuncData} {ps : List Str} {sp : Sp} {dvs : List V} {ds : List Value} {E : XK} {x m : Str} {p pos apos : Pos} {e o : Expr} {es : List Expr} {ta : TE} {t : TA}
theorem run_fn {pins : List (Addr × Obj)} {σ : St} {H : Hp} {s : Shared} {Q : VK} {us : List Value} {vs : List V} (F : FnOk X.prog X.w X.K X.mg X.base CX k f fd ps sp) (hr : Room k X.A) (hb : Binds X.K fd ps ds) (hd : Vals dvs ds) (hx : Passes CX X E)
   (I : Inv X pins σ H s) (r : Vals vs us) (h : sp (vs ++ dvs) H Q E) : wpAny (model X.prog X.w) X.A (call (.ref f) us) (EP X pins σ Q) X.xe s := by
 have r2 : Vals (vs ++ dvs) (us ++ ds) := r.append hd
 have hl : (us ++ ds).length = ps.length := by rw [← r2.length]; exact F.len _ _ _ _ h
 refine wpAny_call (codeAny_mono (F.run X.A X.stack s H ⟨us, []⟩ (us ++ ds) (vs ++ dvs) Q E hr I.env0 (hb s us I.kIn hl) r2 h) fun r s' hq => ?_)
 cases r with
 | error e => exact hx pins σ H s e s' I hq
 | ok fl =>
   cases fl with
   | ret u => exact I.after hq
   | next => exact False.elim hq
   | brk => exact False.elim hq
   | cont => exact False.elim hq
theorem pe_call (F : FnOk X.prog X.w X.K X.mg X.base CX k f fd ps sp) (hr : Room k X.A) (hg : Gl X x) (hm : X.mg x = some (.ref f)) (hk : PySem.W.keepIn X.K (.ref f) = true) (hb : Binds X.K fd ps ds) (hd : Vals dvs ds) (hx : Passes CX X E)
   (ha : PA X (e :: es) t) (hdb : (x == ("__debug__" : Str)) = false := by decide) (he : starEach (e :: es) X.env = (false, eval e X.env) :: starEach es X.env := by rfl) (hpl : (backTo pos (starEach es X.env)).any (·.1) = false := by rfl) :
   PE X (.Call (.Name x p) (e :: es) [] pos) (tCall sp dvs E t) := by
 intro pins s σ H Q I h
 refine wpAny_Call_Name_kw (jM I hg hm ?_ hdb)
 refine PySem.W.callWith_K (h₀ := X.base) I.ok.mod.kin hk (thn (ha pos pins s σ H _ I h) fun us s1 ⟨vs, H1, I1, r, q⟩ => ⟨I1.kIn, ?_⟩) he hpl
 exact run_fn F hr hb hd hx I1 r q
structure Mk (K : PySem.W.Frag) (C f : Addr) : Prop where
 makes : PySem.W.makesIn K C = true
 init : PySem.W.findIn K (.ref C) "__init__" = some (some (.ref f))
 fn : PySem.W.isFn K (.ref f) = true
 kp : PySem.W.keepIn K (.ref C) = true
end
section
variable {X : Cx} {CX : CXT} {k : Nat} {f C : Addr} {fd : FuncData} {ps ks : List Str} {sp : Sp} {E : XK} {x m : Str} {p pos apos kpos : Pos} {e o : Expr} {es : List Expr} {kws : List Keyword} {te ta : TE} {t tk : TA} {nm : Option Str}
structure KBinds (K : PySem.W.Frag) (fd : FuncData) (ps ks : List Str) (g : List Value -> List Value -> List Value) (gV : List V -> List V -> List V) : Prop where
 to : ∀ (s : Shared) (us ws : List Value), K.In s.heap -> (g us ws).length = ps.length -> BindsTo s fd ⟨us, ks.zip ws⟩ (ps.zip (g us ws))
 rel : ∀ {vs : List V} {us : List Value} {zs : List V} {ws : List Value}, Vals vs us -> Vals zs ws -> Vals (gV vs zs) (g us ws)
variable {g : List Value -> List Value -> List Value} {gV : List V -> List V -> List V}
end
structure FnScope (N P : List Str) (sc : Scope) : Prop where
 kind : sc.kind = .function
 co : sc.isCoroutine = false
 gen : sc.isGenerator = false
 nd : N.Nodup
 pre : N.take P.length = P
 par : ∀ x ∈ P, sc.names.lookup x = some .local \/ sc.names.lookup x = some .cell
 nofree : ∀ y ∈ sc.names, y.2 ≠ .free
theorem uZ {kindOf : Str -> Option NameKind} {x : Str} : ∀ {binds : List (Str × Value)} {m : Str -> Option Value}, (∀ v, (x, v) ∉ binds) -> bindL kindOf binds m x = m x
 | [], _, _ => rfl
 | (n, v) :: r, m, h => by
   unfold bindL
   rw [uZ fun w hw => h w (List.mem_cons_of_mem _ hw)]
   split
   · have : x ≠ n := by rintro rfl; exact h v List.mem_cons_self
     simp [this]
   · rfl
theorem vB {kindOf : Str -> Option NameKind} {x : Str} : ∀ {binds : List (Str × Value)} {m : Str -> Option Value}, (∀ v, (x, v) ∉ binds) -> bindC kindOf binds m x = m x
 | [], _, _ => rfl
 | (n, v) :: r, m, h => by
   unfold bindC
   rw [vB fun w hw => h w (List.mem_cons_of_mem _ hw)]
   split
   · rfl
   · have : x ≠ n := by rintro rfl; exact h v List.mem_cons_self
     simp [this]
theorem vA {kindOf : Str -> Option NameKind} {x : Str} {v : Value} : ∀ {P : List Str} {vs : List Value} {i : Nat} {m : Str -> Option Value}, P.Nodup -> P[i]? = some x -> vs[i]? = some v -> kindOf x = some .local ->
   bindL kindOf (P.zip vs) m x = some v
 | [], _, _, _, _, h, _, _ => by simp at h
 | _ :: _, [], _, _, _, _, h, _ => by simp at h
 | p :: P, w :: vs, 0, m, nd, h1, h2, hk => by
   simp at h1 h2; subst h1; subst h2
   show bindL kindOf ((p, w) :: P.zip vs) m p = _
   unfold bindL
   rw [uZ fun v hv => (List.nodup_cons.mp nd).1 (List.of_mem_zip hv).1, if_pos hk]
   simp
 | p :: P, w :: vs, i + 1, m, nd, h1, h2, hk => by
   show bindL kindOf ((p, w) :: P.zip vs) m x = _
   unfold bindL
   exact vA (i := i) (List.nodup_cons.mp nd).2 (by simpa using h1) (by simpa using h2) hk
theorem vC {kindOf : Str -> Option NameKind} {x : Str} {v : Value} : ∀ {P : List Str} {vs : List Value} {i : Nat} {m : Str -> Option Value}, P.Nodup -> P[i]? = some x -> vs[i]? = some v -> kindOf x ≠ some .local ->
   bindC kindOf (P.zip vs) m x = some v
 | [], _, _, _, _, h, _, _ => by simp at h
 | _ :: _, [], _, _, _, _, h, _ => by simp at h
 | p :: P, w :: vs, 0, m, nd, h1, h2, hk => by
   simp at h1 h2; subst h1; subst h2
   show bindC kindOf ((p, w) :: P.zip vs) m p = _
   unfold bindC
   rw [vB fun v hv => (List.nodup_cons.mp nd).1 (List.of_mem_zip hv).1, if_neg hk]
   simp
 | p :: P, w :: vs, i + 1, m, nd, h1, h2, hk => by
   show bindC kindOf ((p, w) :: P.zip vs) m x = _
   unfold bindC
   exact vC (i := i) (List.nodup_cons.mp nd).2 (by simpa using h1) (by simpa using h2) hk
def start (N : List Str) (vs : List V) : St := vs.map some ++ List.replicate (N.length - vs.length) none
def xW (CX : CXT) (P : Program) (w : World) (K : PySem.W.Frag) (mg : Str -> Option Value) (base : Heap) (N : List Str) (qual : Str) (scope : Scope) (f : Addr) (cd : Value) (A : Around) (outer : List Env) (s : Shared) (H : Hp) (E : XK) : Cx where
 prog := P
 w := w
 K := K
 mg := mg
 base := base
 A := A.deeper (envOfC qual scope s.heap.objs.size f cd)
 N := N
 s₀ := s
 H₀ := H
 env := envOfC qual scope s.heap.objs.size f cd
 outer := outer
 stack := envOfC qual scope s.heap.objs.size f cd :: outer
 ex := []
 calm := true
 fn := fun _ => true
 pn := []
 xe := fun e s' => wpAny (model P w) (A.deeper (envOfC qual scope s.heap.objs.size f cd)) (leaving (envOfC qual scope s.heap.objs.size f cd) e) (fun _ s'' => CX outer H s E e s'') (fun e' s'' => CX outer H s E e' s'') s'
theorem cell_has {sc : Scope} {n : Nat} {x : Str} (h : sc.names.lookup x = some .cell) : ∃ c, (cellsFrom n sc.names []).lookup x = some c := by
 have q := PySem.W.cellsFrom_some sc.names n [] (.inl h)
 exact Option.isSome_iff_exists.mp q
theorem inv_start {CX : CXT} {P : Program} {w : World} {K : PySem.W.Frag} {mg : Str -> Option Value} {base : Heap} {N ps : List Str} {qual : Str} {scope : Scope} {f : Addr} {cd : Value} {A : Around} {outer : List Env} {s s1 : Shared} {H : Hp} {E : XK} {us : List Value} {vs : List V}
   (S : FnScope N ps scope) (hd : A.handled = none) (e0 : Env0 P w K mg base A outer s H) (hl : vs.length = ps.length) (r : Vals vs us)
   (x : InCallC s s.heap.objs.size (bindL (envOfC qual scope s.heap.objs.size f cd).kindOf (ps.zip us) fun _ => none) (cellsFrom (s.heap.objs.size + 1) scope.names []) (bindC (envOfC qual scope s.heap.objs.size f cd).kindOf (ps.zip us) fun _ => none) s1) :
   Inv (xW CX P w K mg base N qual scope f cd A outer s H E) [] (start N vs) H s1 := by
 have hpl : ps.length <= N.length := by have := congrArg List.length S.pre; rw [List.length_take] at this; omega
 obtain ⟨h1, tk, rfl, hk⟩ := x.done
 have noA : ∀ b : Addr, b ∉ (xW CX P w K mg base N qual scope f cd A outer s H E).ex := fun b z => absurd (show b ∈ ([] : List Addr) from z) (by simp)
 refine ⟨⟨e0.mod, S.kind, rfl, rfl, Nat.le_refl _, fun y z c h1 h2 => ?_, fun y hy => ?_, fun y c _ h => ?_, fun _ => hd, Around.frames_deeper e0.frames, .inr ⟨rfl, rfl⟩, fun b z => absurd z (noA b), e0.bs, e0.bsz, fun b _ _ => noA b, fun b z => absurd z (noA b), e0.funs, e0.frf⟩,
   rfl, e0.bare, Un.kept hk, ⟨_, x.toInCall.ns, fun i y v h1 h2 h3 => ?_⟩, fun y c h => ⟨_, x.cell y c h⟩, e0.hok.fresh (Nat.le_refl _), fun y c h => ?_, fun p hp => absurd (show p ∈ ([] : List (Addr × Obj)) from hp) (by simp), e0.hok.kept hk, ?_⟩
 · exact name_of_addr x.apart (PySem.mem_of_lookup h1) (PySem.mem_of_lookup h2)
 · have hy : scope.names.lookup y = some .cell \/ scope.names.lookup y = some .free := hy
   rcases hy with hy | hy
   · exact cell_has hy
   · exact absurd rfl (S.nofree _ (PySem.mem_of_lookup hy))
 · exact Nat.le_of_lt (x.above y c (PySem.mem_of_lookup h))
 · have hi : i < vs.length := by
     unfold start at h2
     by_cases hi : i < vs.length
     · exact hi
     · rw [List.getElem?_append_right (by simpa using hi)] at h2
       rw [List.getElem?_replicate] at h2
       split at h2 <;> cases h2
   have ha : vs[i]? = some v := by
     unfold start at h2
     rw [List.getElem?_append_left (by simpa using hi), List.getElem?_map] at h2
     cases e : vs[i]? with
     | none => rw [e] at h2; cases h2
     | some a => rw [e] at h2; cases h2; rfl
   obtain ⟨u, hu, rv⟩ := r.get ha
   have hp : ps[i]? = some y := by
     rw [← S.pre, List.getElem?_take_of_lt (by omega)]; exact h1
   have ndP : ps.Nodup := by rw [← S.pre]; exact S.nd.sublist (List.take_sublist _ _)
   refine ⟨u, rv, ?_⟩
   rcases S.par y (List.mem_of_getElem? hp) with k | k
   · exact .inl ⟨k, vA ndP hp hu k⟩
   · obtain ⟨c, e⟩ := cell_has (n := s.heap.objs.size + 1) k
     refine .inr ⟨.inl k, c, e, ?_⟩
     have q := x.cell y c e
     rw [vC ndP hp hu (by show scope.names.lookup y ≠ _; rw [k]; decide)] at q
     exact q
 · exact e0.hok.fresh (Nat.le_of_lt (x.above y c (PySem.mem_of_lookup h)))
 · unfold start
   show _ = N.length
   rw [List.length_append, List.length_map, List.length_replicate]
   omega
theorem fn_of {CX : CXT} {P : Program} {w : World} {K : PySem.W.Frag} {mg : Str -> Option Value} {base : Heap} {k : Nat} {f : Addr} {name qual : Str} {params : Arguments} {body : List Stmt} {scope : Scope} {dV kV doc pm cdv ct oc : Value} {an od : Option Addr}
   {osl : Array (Option Value)} {N ps : List Str} {sp : Sp} (lk : K.lookup f = some ⟨oc, od, .func (PySem.W.fnOf name qual params body scope dV kV doc pm an cdv ct), osl⟩) (hcd : PySem.W.codeIn K cdv qual = true) (S : FnScope N ps scope)
   (len : ∀ vs H Q E, sp vs H Q E -> vs.length = ps.length)
   (hbody : ∀ (A : Around) (outer : List Env) (s : Shared) (H : Hp) (vs : List V) (Q : VK) (E : XK), Room k (A.deeper (envOfC qual scope s.heap.objs.size f cdv)) -> sp vs H Q E ->
     ∃ t, PSs (xW CX P w K mg base N qual scope f cdv A outer s H E) body t /\ t { nx := fun _ H' => Q .non H', rt := Q } (start N vs) H) :
   FnOk P w K mg base CX (k + 1) f (PySem.W.fnOf name qual params body scope dV kV doc pm an cdv ct) ps sp := by
 refine ⟨len, fun A outer s H args us vs Q E hr e0 hb r hsp => ?_⟩
 have hl := len _ _ _ _ hsp
 have KX : K.In s.heap := e0.mod.kin.keeps fun b o e => (e0.bs b o e).1
 have lim : s.heap.NoLimit := e0.mod.nolimit.keeps fun b o e => (e0.bs b o e).1
 have hkind : ∀ y ∈ ps.zip us, scope.names.lookup y.1 = some .local \/ (scope.names.lookup y.1 = some .cell /\ ((cellsFrom (s.heap.objs.size + 1) scope.names []).lookup y.1).isSome = true) := fun ⟨n, v⟩ hy => by
   rcases S.par n (List.of_mem_zip hy).1 with q | q
   · exact .inl q
   · exact .inr ⟨q, PySem.W.cellsFrom_some _ _ _ (.inl q)⟩
 refine codeAny_call_function hr.depth (KX _ _ lk) rfl S.co S.gen rfl (PySem.W.codeRec_of KX hcd) (hb _ _ _ _ ?_)
 refine wpAny_newFunctionEnv_cells S.kind hkind fun env he s1 x => ?_
 subst he
 refine ⟨lim.keeps x.toInCall.keep, codeAny_func ?_⟩
 obtain ⟨t, ht, hq⟩ := hbody A outer s H vs Q E (hr.deeper _) hsp
 have I : Inv (xW CX P w K mg base N qual scope f cdv A outer s H E) [] (start N vs) H s1 := inv_start S hr.hd e0 hl r x
 refine wpAny_mono (ht [] s1 (start N vs) H _ I hq) (fun fl s' hs => ?_) fun e s' hs => hs
 have fin : ∀ {σ' : St} {H' : Hp} {v : V} {u : Value}, Inv (xW CX P w K mg base N qual scope f cdv A outer s H E) [] σ' H' s' -> RelV v u -> Q v H' -> CE outer P w H s Q u s' :=
   fun {σ' H' v u} J rv q => ⟨v, H', J.os, J.bare, J.base, J.hok, rv, q⟩
 cases fl with
 | ret u =>
   obtain ⟨v, σ', H', J, rv, q⟩ := hs
   exact fin J rv q
 | next =>
   obtain ⟨σ', H', J, q⟩ := hs
   exact fin (v := V.non) (u := Value.none) J rfl q
 | brk =>
   obtain ⟨_, _, _, q⟩ := hs
   exact False.elim q
 | cont =>
   obtain ⟨_, _, _, q⟩ := hs
   exact False.elim q
section
variable {X : Cx} {x : Str} {p pos : Pos} {e : Expr} {es : List Expr} {t : TA} {id T : String} {r : List V -> Hp -> VK -> Prop}
def tCB (r : List V -> Hp -> VK -> Prop) (t : TA) : TE := fun σ H Q => t σ H fun vs H1 => r vs H1 Q
theorem zM (hc : yZ X (.builtin id) r) (hg : Gl X x) (hm : X.mg x = none) (hv : bootBuiltins x = some (.builtin id)) (ha : PA X (e :: es) t) (hn : x ≠ "__name__" := by decide) (hdb : (x == ("__debug__" : Str)) = false := by decide)
   (he : starEach (e :: es) X.env = (false, eval e X.env) :: starEach es X.env := by rfl) (hpl : (backTo pos (starEach es X.env)).any (·.1) = false := by rfl) : PE X (.Call (.Name x p) (e :: es) [] pos) (tCB r t) := by
 intro pins s σ H Q I h
 refine wpAny_Call_Name_kw (jW I hg hm hv ?_ hn hdb)
 exact PyProof.Rows.callWith_builtin1 (thn (ha pos pins s σ H _ I h) fun us s1 ⟨vs, H1, I1, r1, q1⟩ => hc pins s1 σ H1 vs us Q I1 r1 q1) he hpl
theorem xS (hc : yZ X (.type T) r) (hg : Gl X x) (hm : X.mg x = none) (hv : bootBuiltins x = some (.type T)) (ha : PA X (e :: es) t) (hn : x ≠ "__name__" := by decide) (hdb : (x == ("__debug__" : Str)) = false := by decide)
   (he : starEach (e :: es) X.env = (false, eval e X.env) :: starEach es X.env := by rfl) (hpl : (backTo pos (starEach es X.env)).any (·.1) = false := by rfl) : PE X (.Call (.Name x p) (e :: es) [] pos) (tCB r t) := by
 intro pins s σ H Q I h
 refine wpAny_Call_Name_kw (jW I hg hm hv ?_ hn hdb)
 exact PyProof.Rows.callWith_type1 (thn (ha pos pins s σ H _ I h) fun us s1 ⟨vs, H1, I1, r1, q1⟩ => hc pins s1 σ H1 vs us Q I1 r1 q1) he hpl
end
end L2
namespace HT
open PySem PyProof.Rows
section
open PySem.SeqAt
open PySem.AutoSeq1 (wpAny_loadPart')
open PySem.MeetsSeq PySem.MeetsSeq2 PySem.MeetsSeq3
end
section
variable {prog : Program} {w : World} {A : Around} {E : Value -> Shared -> Prop} {s : Shared}
def sIx (n d : Nat) : Option Int -> Nat
 | none => d
 | some v => if v < 0 then (v + (n : Int)).toNat else min v.toNat n
theorem sIx_none (n d : Nat) : sIx n d none = d := rfl
theorem sIx_nat (n d k : Nat) : sIx n d (some (k : Int)) = min k n := by
 show (if (k : Int) < 0 then ((k : Int) + (n : Int)).toNat else min (k : Int).toNat n) = min k n
 rw [if_neg (by omega), Int.toNat_natCast]
theorem sIx_le (n d : Nat) (hd : d <= n) (o : Option Int) : sIx n d o <= n := by
 cases o with
 | none => exact hd
 | some v =>
   show (if v < 0 then (v + (n : Int)).toNat else min v.toNat n) <= n
   by_cases hv : v < 0
   · rw [if_pos hv]; omega
   · rw [if_neg hv]; exact Nat.min_le_right _ _
theorem clip_eq (v : Int) (n d : Nat) : (if v < 0 then max (v + (n : Int)) 0 else min v (n : Int)) = ((sIx n d (some v) : Nat) : Int) := by
 show (if v < 0 then max (v + (n : Int)) 0 else min v (n : Int)) = (((if v < 0 then (v + (n : Int)).toNat else min v.toNat n) : Nat) : Int)
 by_cases hv : v < 0
 · simp only [if_pos hv]; omega
 · simp only [if_neg hv]; omega
theorem adjust_gen (lo hi : Option Int) (n : Nat) : Builtin.Slice.sliceAdjust lo hi 1 (n : Int) = (((sIx n 0 lo : Nat) : Int), ((sIx n n hi : Nat) : Int)) := by
 have h1 : ¬ ((1 : Int) < 0) := by omega
 unfold Builtin.Slice.sliceAdjust
 simp only [h1, if_false]
 refine Prod.ext ?_ ?_
 · cases lo with
   | none => rfl
   | some v => exact clip_eq v n 0
 · cases hi with
   | none => rfl
   | some v => exact clip_eq v n n
theorem places_gen (i j : Nat) : Builtin.Slice.slicePlaces (i : Int) (j : Int) 1 = j - i := by
 unfold Builtin.Slice.slicePlaces
 have h1 : (1 : Int) > 0 := by omega
 simp only [h1, if_true, Int.ediv_one]
 split <;> omega
theorem qN {v : Value} {o : Option Int} {Q : Option Int -> Shared -> Prop} (p : IsPart v o) (h : Q o s) : wpAny (model prog w) A (Builtin.Slice.slicePartIndex v) Q E s := by
 cases p with
 | none => exact slicePart_none h
 | int i t => exact slicePart_int h
theorem jS {sl : Addr} {vl vu : Value} {lo hi : Option Int} {n : Nat} {Q : Int × Int × Nat -> Shared -> Prop} (hs : s.heap.IsSliceOf sl vl vu .none) (pl : IsPart vl lo) (pu : IsPart vu hi)
   (h : Q (((sIx n 0 lo : Nat) : Int), 1, sIx n n hi - sIx n 0 lo) s) : wpAny (model prog w) A (Builtin.Slice.sliceApplied (.ref sl) (pure (n : Int))) Q E s := by
 obtain ⟨os, hos, hcs, hds⟩ := id hs
 unfold Builtin.Slice.sliceApplied Builtin.Slice.sliceFields
 refine wpAny_bind (wpAny_bind (wpAny_field hos hds (x := vl) rfl (wpAny_bind (wpAny_field hos hds (x := vu) rfl (wpAny_bind (wpAny_field hos hds (x := .none) rfl (wpAny_pure ?_)))))))
 refine wpAny_bind (slicePart_none ?_)
 show wpAny _ _ (if ((1 : Int) == 0) = true then _ else _) _ _ s
 rw [if_neg (by decide)]
 refine wpAny_bind (qN pl (wpAny_bind (qN pu (wpAny_bind (wpAny_pure ?_)))))
 show wpAny _ _ (match Builtin.Slice.sliceAdjust lo hi 1 (n : Int) with | (lo, hi) => pure (lo, (1 : Int), Builtin.Slice.slicePlaces lo hi 1)) _ _ s
 rw [adjust_gen lo hi n]
 show wpAny _ _ (pure (((sIx n 0 lo : Nat) : Int), (1 : Int), Builtin.Slice.slicePlaces ((sIx n 0 lo : Nat) : Int) ((sIx n n hi : Nat) : Int) 1)) _ _ s
 rw [places_gen]
 exact wpAny_pure h
theorem pick_gen (xs : Array Value) (i k : Nat) : ((List.range k).filterMap fun (m : Nat) => xs[((i : Int) + (m : Int) * 1).toNat]?).toArray = ((xs.toList.drop i).take k).toArray := by
 have e : (fun (m : Nat) => xs[((i : Int) + (m : Int) * 1).toNat]?) = fun m => xs[i + m]? := by
   funext m
   have : ((i : Int) + (m : Int) * 1).toNat = i + m := by omega
   rw [this]
 rw [e]
 have := pick_run xs i k
 rw [List.filterMap_map] at this
 have e2 : ((fun x => xs[x]?) ∘ fun x => i + x) = fun m => xs[i + m]? := rfl
 rw [e2] at this
 rw [this]
theorem getItem_tuple_cut {t sl : Addr} {items : Array Value} {vl vu : Value} {lo hi : Option Int} {Q : Value -> Shared -> Prop} (ht : IsTup s.heap t items) (hs : s.heap.IsSliceOf sl vl vu .none) (pl : IsPart vl lo) (pu : IsPart vu hi)
   (hw : ¬ (sIx items.size 0 lo = 0 /\ sIx items.size items.size hi = items.size))
   (h : Q (.ref s.heap.objs.size) { s with heap := s.heap.push { cls := .type "tuple", data := .seq ((items.toList.drop (sIx items.size 0 lo)).take (sIx items.size items.size hi - sIx items.size 0 lo)).toArray } })
   (hsz : items.size <= sizeLine) : wpAny (model prog w) A (getItem (.ref t) (.ref sl)) Q E s := by
 have htake : sizeOk (.seq ((items.toList.drop (sIx items.size 0 lo)).take (sIx items.size items.size hi - sIx items.size 0 lo)).toArray) := by
   show ((items.toList.drop (sIx items.size 0 lo)).take (sIx items.size items.size hi - sIx items.size 0 lo)).toArray.size <= sizeLine
   rw [List.size_toArray, List.length_take, List.length_drop, Array.length_toList]
   omega
 have hj : sIx items.size items.size hi <= items.size := sIx_le _ _ (Nat.le_refl _) hi
 obtain ⟨os, hos, hcs, hds⟩ := id hs
 have hTs : s.TypeIs (.ref sl) "slice" := ⟨os, hos, hcs⟩
 unfold getItem
 try with_reducible refine wpAny_holding ?_
 first | refine wpAny_bind (wpAny_pure ?_) | skip
 refine wpAny_bind (wpAny_sequenceKey ht.typeIs (by decide) ?_)
 refine wpAny_bind (wpAny_callSpecial?_slot (name := Str.ofString "__getitem__") ht.typeIs PyProof.Rows.slot_tuple_getitem
   (wpAny_call_entry PyProof.Rows.slot_tuple_getitem ht.typeIs entry_tuple_getitem ?_ (args_tuple_getitem _ _)))
 show wpAny _ _ (Builtin.Tuple.tupleItemsOf (.ref t) >>= _) _ _ s
 refine wpAny_bind (tupleItemsOf_ ht ?_)
 refine wpAny_bind (wpAny_typeOf hTs ?_)
 rw [if_pos (by decide)]
 refine wpAny_bind (jS hs pl pu ?_)
 have hno : ¬ ((((sIx items.size 0 lo : Nat) : Int) == 0 && (1 : Int) == 1 && (sIx items.size items.size hi - sIx items.size 0 lo) == items.size) = true) := by
   intro q
   rw [Bool.and_eq_true, Bool.and_eq_true] at q
   have q1 : ((sIx items.size 0 lo : Nat) : Int) = 0 := eq_of_beq q.1.1
   have q2 : sIx items.size items.size hi - sIx items.size 0 lo = items.size := eq_of_beq q.2
   exact hw ⟨by omega, by omega⟩
 show wpAny _ _ (if (((sIx items.size 0 lo : Nat) : Int) == 0 && (1 : Int) == 1 && (sIx items.size items.size hi - sIx items.size 0 lo) == items.size) = true then _ else _) _ _ s
 rw [if_neg hno, pick_gen]
 first
   | exact wpAny_bind (m := Builtin.Tuple.tupleExact _) (wpAny_newObj_type (wpAny_pure ⟨_, rfl, wpAny_pure h⟩) htake)
   | exact wpAny_bind (m := Builtin.Tuple.tupleExact _) (wpAny_newObj_type (wpAny_bind (wpAny_pure (wpAny_pure ⟨_, rfl, wpAny_pure h⟩))) htake)
   | exact wpAny_bind (wpAny_bind (m := Builtin.Tuple.tupleExact _) (wpAny_newObj_type (wpAny_pure (wpAny_pure ⟨_, rfl, wpAny_pure h⟩)) htake))
   | exact wpAny_bind (wpAny_bind (m := Builtin.Tuple.tupleExact _) (wpAny_newObj_type (wpAny_pure ⟨_, rfl, wpAny_pure h⟩) htake))
end
end HT
namespace L2
open PySem PySem.Spec PyProof.Rows
abbrev TO := St -> Hp -> (Option Int -> Hp -> Prop) -> Prop
def PO (X : Cx) (e : Option Expr) (t : TO) : Prop :=
 ∀ (pins : List (Addr × Obj)) (s : Shared) (σ : St) (H : Hp) (Q : Option Int -> Hp -> Prop), Inv X pins σ H s -> t σ H Q ->
   wpAny (model X.prog X.w) X.A (evalPart e X.env) (fun u s' => ∃ o H', Inv X pins σ H' s' /\ IsPart u o /\ Q o H') X.xe s
def tNoPart : TO := fun _ H Q => Q none H
def tPart (t : TE) : TO := fun σ H Q => t σ H fun x H1 => ∃ i, x = .int i /\ Q (some i) H1
section
variable {X : Cx} {e : Expr} {te : TE} {lo hi : Option Expr} {tl th : TO} {pos p2 : Pos}
theorem po_none : PO X none tNoPart := by
 intro pins s σ H Q I h
 rw [evalPart_none]
 exact wpAny_pure ⟨none, H, I, .none, h⟩
theorem yO (h : PE X e te) : PO X (some e) (tPart te) := by
 intro pins s σ H Q I hw
 rw [evalPart_some]
 refine thn (h pins s σ H _ I hw) fun u s1 ⟨x, H1, I1, r1, q1⟩ => ?_
 obtain ⟨i, rfl, q⟩ := q1
 obtain ⟨t, rfl⟩ := r1
 exact ⟨some i, H1, I1, .int i t, q⟩
def SlR (X : Cx) (r : V -> Option Int -> Option Int -> Hp -> VK -> Prop) : Prop :=
 ∀ (pins : List (Addr × Obj)) (s : Shared) (σ : St) (H : Hp) (x : V) (v vl vu : Value) (lo hi : Option Int) (sl : Addr) (Q : VK), Inv X pins σ H s -> RelV x v -> s.heap.IsSliceOf sl vl vu .none -> IsPart vl lo -> IsPart vu hi -> r x lo hi H Q ->
   ∃ T id, typeLookup (.type T) "__getitem__" = pure (some (.builtin id)) /\ s.TypeIs v T /\ wpAny (model X.prog X.w) X.A (getItem v (.ref sl)) (EP X pins σ Q) X.xe s
def tSl (r : V -> Option Int -> Option Int -> Hp -> VK -> Prop) (te : TE) (tl th : TO) : TE := fun σ H Q => te σ H fun x H1 => tl σ H1 fun l H2 => th σ H2 fun u H3 => r x l u H3 Q
theorem yJ {r : V -> Option Int -> Option Int -> Hp -> VK -> Prop} (hr : SlR X r) (he : PE X e te) (hl : PO X lo tl) (hu : PO X hi th) : PE X (.Subscript e (.Slice lo hi none p2) pos) (tSl r te tl th) := by
 intro pins s σ H Q I h
 refine Subscript_ (thn (he pins s σ H _ I h) fun v s1 ⟨x, H1, I1, r1, q1⟩ => ?_)
 refine wpAny_Slice (thn (hl pins s1 σ H1 _ I1 q1) fun vl s2 ⟨l, H2, I2, pl, q2⟩ => thn (hu pins s2 σ H2 _ I2 q2) fun vu s3 ⟨u, H3, I3, pu, q3⟩ => ?_)
 rw [evalPart_none]
 refine wpAny_pure ?_
 have I4 : Inv X pins σ H3 { s3 with heap := s3.heap.push { cls := .type "slice", data := .fields #[vl, vu, .none] } } := I3.kept (t' := s3.toks) fun b ob q => Heap.get?_push_of_some _ q
 obtain ⟨T, id, hT, ht, hg⟩ := hr pins { s3 with heap := s3.heap.push { cls := .type "slice", data := .fields #[vl, vu, .none] } } σ H3 x v vl vu l u s3.heap.objs.size Q I4 r1 (Heap.IsSliceOf.new ..) pl pu q3
 show wpAny (model X.prog X.w) X.A (subscriptTail e (.Slice lo hi none p2) v (.ref s3.heap.objs.size)) (EP X pins σ Q) X.xe { s3 with heap := s3.heap.push { cls := .type "slice", data := .fields #[vl, vu, .none] } }
 exact tail_any (ops := [.ref s3.heap.objs.size, v]) ht hT hg (by with_unfolding_all rfl)
def yV (xs : List V) (lo hi : Option Int) : List V := (xs.drop (HT.sIx xs.length 0 lo)).take (HT.sIx xs.length xs.length hi - HT.sIx xs.length 0 lo)
theorem qA (xs : List V) (lo hi : Option Int) : (yV xs lo hi).length <= xs.length := by
 unfold yV
 rw [List.length_take, List.length_drop]
 omega
def rSlT (K : PySem.W.Frag) : V -> Option Int -> Option Int -> Hp -> VK -> Prop := fun x lo hi H Q => ∃ a xs, x = .ref a /\ SqT K H a xs /\
 ¬ (HT.sIx xs.length 0 lo = 0 /\ HT.sIx xs.length xs.length hi = xs.length) /\ ∀ p, H p = none -> Q (.ref p) (upd H p (.tup (yV xs lo hi)))
theorem sl_tup : SlR X (rSlT X.K) := by
 intro pins s σ H x v vl vu lo hi sl Q I rx hs pl pu h
 obtain ⟨a, xs, rfl, hx, hw, q⟩ := h
 cases rx
 obtain ⟨its, r, ht, hz⟩ := I.tuple hx
 have hlen : its.toArray.size = xs.length := by rw [List.size_toArray]; exact r.length.symm
 refine ⟨"tuple", _, PyProof.Rows.slot_tuple_getitem.lookup, ht.typeIs, ?_⟩
 refine HT.getItem_tuple_cut ht hs pl pu (by rw [hlen]; exact hw) ?_ (by rw [hlen]; exact hz)
 rw [hlen]
 refine ⟨.ref s.heap.objs.size, _, I.laid (t' := s.toks) (o := .tup (yV xs lo hi)) (fun b ob q => Heap.get?_push_of_some _ q) (Nat.le_refl _) ?_, rfl, q _ (I.hok.fresh (Nat.le_refl _))⟩
 exact ⟨Nat.le_trans (qA xs lo hi) hz, _, (r.drop (HT.sIx xs.length 0 lo)).take (HT.sIx xs.length xs.length hi - HT.sIx xs.length 0 lo), IsTup.new _ _⟩
def rCatT (K : PySem.W.Frag) : R2 := fun x y H Q => ∃ a b xs ys, x = .ref a /\ y = .ref b /\ SqT K H a xs /\ SqT K H b ys /\ xs ≠ [] /\ xs.length + ys.length <= sizeLine /\
 (ys = [] -> Q (.ref a) H) /\ (ys ≠ [] -> ∀ p, H p = none -> Q (.ref p) (upd H p (.tup (xs ++ ys))))
end
def ixN (n : Nat) (i : Int) : Option Nat := if 0 <= i then (if i < n then some i.toNat else none) else if -(n : Int) <= i then some (i + n).toNat else none
def atI {α : Type} (xs : List α) (i : Int) : Option α := (ixN xs.length i).bind fun j => xs[j]?
theorem ixN_seq {n : Nat} {i : Int} {j : Nat} (h : ixN n i = some j) : seqIndex? i n = some j /\ j < n /\ -(n : Int) <= i /\ i < n := by
 unfold ixN at h
 by_cases h0 : 0 <= i
 · rw [if_pos h0] at h
   by_cases h1 : i < n
   · rw [if_pos h1] at h
     have e : i.toNat = j := Option.some.inj h
     exact ⟨by rw [seqIndex_of h0 h1, e], by omega, by omega, h1⟩
   · rw [if_neg h1] at h; cases h
 · rw [if_neg h0] at h
   by_cases h1 : -(n : Int) <= i
   · rw [if_pos h1] at h
     have e : (i + n).toNat = j := Option.some.inj h
     exact ⟨by rw [seqIndex_neg (by omega) h1, e], by omega, h1, by omega⟩
   · rw [if_neg h1] at h; cases h
theorem vW {α : Type} {xs : List α} {i : Int} {v : α} (h : atI xs i = some v) : ∃ j, seqIndex? i xs.length = some j /\ xs[j]? = some v /\ j < xs.length /\ -(xs.length : Int) <= i /\ i < xs.length := by
 unfold atI at h
 cases e : ixN xs.length i with
 | none => rw [e] at h; cases h
 | some j =>
   rw [e] at h
   obtain ⟨h1, h2, h3, h4⟩ := ixN_seq e
   exact ⟨j, h1, h, h2, h3, h4⟩
theorem xA {α : Type} {xs : List α} {j : Nat} {v : α} (h : xs[j]? = some v) : atI xs (j : Int) = some v := by
 have hj : j < xs.length := (List.getElem?_eq_some_iff.mp h).1
 have e : ixN xs.length (j : Int) = some j := by
   unfold ixN
   rw [if_pos (by omega), if_pos (by omega)]; simp
 unfold atI; rw [e]; exact h
def PlainIx (b : Expr) : Prop := ∀ o i, subscripted b false o i = operate [o, i] (getItem o i)
def IxR (X : Cx) (r : R2) : Prop :=
 ∀ (value slice : Expr) (pins : List (Addr × Obj)) (s : Shared) (σ : St) (H : Hp) (x y : V) (v u : Value) (Q : VK), Inv X pins σ H s -> RelV x v -> RelV y u -> r x y H Q ->
   subscripted slice false v u = operate [v, u] (getItem v u) -> wpAny (model X.prog X.w) X.A (subscriptTail value slice v u) (EP X pins σ Q) X.xe s
def MtR (X : Cx) (id : String) (r : V -> List V -> Hp -> VK -> Prop) : Prop :=
 ∀ (pins : List (Addr × Obj)) (s : Shared) (σ : St) (H : Hp) (x : V) (xs : List V) (v : Value) (us : List Value) (Q : VK), Inv X pins σ H s -> RelV x v -> Vals xs us -> r x xs H Q ->
   wpAny (model X.prog X.w) X.A (call (.builtin id) (v :: us)) (EP X pins σ Q) X.xe s
section
variable {X : Cx} {a b : Expr} {ta tb : TE} {pos : Pos}
theorem zS {r : R2} (hr : IxR X r) (ha : PE X a ta) (hb : PE X b tb) (hs : PlainIx b) : PE X (.Subscript a b pos) (tOp r ta tb) := by
 intro pins s σ H Q I h
 exact Subscript_ (binT ha hb I h fun v u s2 x y H2 I2 rx ry q => hr a b pins s2 σ H2 x y v u Q I2 rx ry q (hs _ _))
def rIxL (K : PySem.W.Frag) : R2 := fun x y H Q => ∃ p xs i v, x = .ref p /\ y = .int i /\ SqL K H p xs /\ atI xs i = some v /\ Q v H
def rIxT (K : PySem.W.Frag) : R2 := fun x y H Q => ∃ p xs i v, x = .ref p /\ y = .int i /\ SqT K H p xs /\ atI xs i = some v /\ Q v H
def rIxS : R2 := fun x y H Q => ∃ z i c, x = .str z /\ y = .int i /\ z.length <= sizeLine /\ atI z.cps.toList i = some c /\ Q (.str ⟨#[c]⟩) H
theorem ix_list : IxR X (rIxL X.K) := by
 intro value slice pins s σ H x y v u Q I rx ry h hs
 obtain ⟨p, xs, i, z, rfl, rfl, hq, he, q⟩ := h
 cases rx
 obtain ⟨t, rfl⟩ := ry
 obtain ⟨its, r, pl, hz⟩ := I.list hq
 obtain ⟨j, h1, h2, h3, h4, h5⟩ := vW he
 obtain ⟨w, ew, rw'⟩ := r.get h2
 have hl := r.length
 have hn := line63
 have fin : EP X pins σ Q w s := ⟨z, H, I, rw', q⟩
 by_cases h0 : 0 <= i
 · have hj : i.toNat = j := by
     rw [seqIndex_of h0 h5] at h1
     exact Option.some.inj h1
   exact item_listR pl.isList h0 (by omega) (by rw [hj]; simpa using ew) fin hs
 · have hj : (i + (its.toArray.size : Int)).toNat = j := by
     rw [seqIndex_neg (by omega) h4] at h1
     rw [List.size_toArray, ← hl]
     exact Option.some.inj h1
   exact subscriptTail_builtinR (x := w) pl.isList.typeIs slot_list_getitem.lookup
     (wpAny_getItem_list_neg (Q := fun r s' => r = w /\ EP X pins σ Q r s') pl.isList (by omega) (by rw [List.size_toArray] <;> omega) (by omega) (by rw [hj]; simpa using ew) ⟨rfl, fin⟩) hs
theorem ix_tup : IxR X (rIxT X.K) := by
 intro value slice pins s σ H x y v u Q I rx ry h hs
 obtain ⟨p, xs, i, z, rfl, rfl, hq, he, q⟩ := h
 cases rx
 obtain ⟨t, rfl⟩ := ry
 obtain ⟨its, r, pl, hz⟩ := I.tuple hq
 obtain ⟨j, h1, h2, h3, h4, h5⟩ := vW he
 obtain ⟨w, ew, rw'⟩ := r.get h2
 have hl := r.length
 have hn := line63
 have fin : EP X pins σ Q w s := ⟨z, H, I, rw', q⟩
 exact subscriptTail_builtinR (x := w) pl.typeIs slot_tuple_getitem.lookup
   (getItem_tuple (j := j) (Q := fun r s' => r = w /\ EP X pins σ Q r s') pl (by omega) (by omega) (by rw [List.size_toArray, ← hl]; exact h1) (by simpa using ew) ⟨rfl, fin⟩) hs
theorem ix_str : IxR X rIxS := by
 intro value slice pins s σ H x y v u Q I rx ry h hs
 obtain ⟨z, i, c, rfl, rfl, hz, he, q⟩ := h
 obtain ⟨t, rfl⟩ := rx
 obtain ⟨t', rfl⟩ := ry
 obtain ⟨j, h1, h2, h3, h4, h5⟩ := vW he
 have hl : z.cps.toList.length = z.length := by simp [Str.length]
 rw [hl] at h1 h4 h5
 have hn := line63
 exact tail_any (typeIs_str s z t) slot_str_getitem.lookup (getItem_str (c := c) (by
   have e1 : decide (i < -(2 ^ 63 : Int)) = false := decide_eq_false (by omega)
   have e2 : decide (i ≥ 2 ^ 63) = false := decide_eq_false (by omega)
   rw [e1, e2, Bool.or_false]) (by rw [h1]; simpa using h2) ⟨.str ⟨#[c]⟩, H, I.tok _, ⟨_, rfl⟩, q⟩) hs
theorem mapSeq_set (its : List Value) (n j : Nat) (u : Value) : Obj.mapSeq (·.setIfInBounds j u) { cls := .type "list", data := .seq its.toArray n } = { cls := .type "list", data := .seq (its.set j u).toArray n } := by
 simp [Obj.mapSeq]
theorem Inv.lst {pins : List (Addr × Obj)} {σ : St} {H : Hp} {s : Shared} {p : Addr} {xs : List V} (I : Inv X pins σ H s) (h : H p = some (.lst xs)) :
   ∃ (its : List Value) (n : Nat), Vals xs its /\ s.heap.get? p = some { cls := .type "list", data := .seq its.toArray n } /\ xs.length <= sizeLine := by
 obtain ⟨z, its, n, r, e⟩ := I.hok p _ h
 exact ⟨its, n, r, e, z⟩
theorem Inv.lstUpd {pins : List (Addr × Obj)} {σ : St} {H : Hp} {s : Shared} {p : Addr} {xs ys : List V} {its its' : List Value} {n n' : Nat} {f : Obj -> Obj} (I : Inv X pins σ H s) (h : H p = some (.lst xs))
   (ho : s.heap.get? p = some { cls := .type "list", data := .seq its.toArray n }) (hf : f { cls := .type "list", data := .seq its.toArray n } = { cls := .type "list", data := .seq its'.toArray n' }) (r : Vals ys its') (hz : ys.length <= sizeLine) (t : Nat) :
   Inv X pins σ (upd H p (.lst ys)) { s with heap := s.heap.update p f, toks := t } := by
 have e : (s.heap.update p f).get? p = some { cls := .type "list", data := .seq its'.toArray n' } := by
   rw [Heap.get?_update_self f ho (by rw [hf] <;> rfl), hf]
 refine I.write (x := p) (e := p) (by rw [h]; trivial) (.inl rfl) (fun b u hb q => (Heap.get?_update_other _ _ (Ne.symm hb)).trans q) ⟨_, e⟩ ?_
 exact ⟨hz, its', n', r, e⟩
def rSetL : V -> V -> V -> Hp -> (Hp -> Prop) -> Prop := fun o i v H Q => ∃ p xs k j, o = .ref p /\ i = .int k /\ H p = some (.lst xs) /\ ixN xs.length k = some j /\ Q (upd H p (.lst (xs.set j v)))
theorem set_list : PSet X rSetL := by
 intro pins s σ H o i v ov iv u Q I ro ri rv h
 obtain ⟨p, xs, k, j, rfl, rfl, hp, hj, q⟩ := h
 cases ro
 obtain ⟨t, rfl⟩ := ri
 obtain ⟨its, n, r, ho, hz⟩ := I.lst hp
 obtain ⟨h1, h2, h3, h4⟩ := ixN_seq hj
 have hl := r.length
 have hn := line63
 have I' : Inv X pins σ (upd H p (.lst (xs.set j v))) { s with heap := s.heap.update p (Obj.mapSeq (·.setIfInBounds j u)) } :=
   I.lstUpd hp ho (mapSeq_set its n j u) (r.set rv j) (by rw [List.length_set]; exact hz) s.toks
 by_cases h0 : 0 <= k
 · have hk : k.toNat = j := by
     rw [seqIndex_of h0 h4] at h1
     exact Option.some.inj h1
   exact PySem.W.ki_setAt ho h0 (by omega) (by rw [List.size_toArray, ← hl]; exact h4) (by rw [hk]; exact ⟨_, I', q⟩)
 · have hk : (k + (its.toArray.size : Int)).toNat = j := by
     rw [seqIndex_neg (by omega) h3] at h1
     rw [List.size_toArray, ← hl]
     exact Option.some.inj h1
   exact PySem.W.ki_setBack ho (by omega) (by rw [List.size_toArray, ← hl]; exact h3) (by omega) (by rw [hk]; exact ⟨_, I', q⟩)
theorem vI (lo hi : Option Int) (n : Nat) : (sliceBounds lo hi none n).1 = ((HT.sIx n 0 lo : Nat) : Int) /\ (sliceBounds lo hi none n).2.1 = ((HT.sIx n n hi : Nat) : Int) /\ (sliceBounds lo hi none n).2.2 = 1 := by
 refine ⟨?_, ?_, rfl⟩
 · cases lo with
   | none => simp [sliceBounds, HT.sIx]
   | some i =>
     simp only [sliceBounds, HT.sIx, Option.getD_none, show (1 : Int) > 0 by decide, if_true]
     by_cases h : i < 0
     · simp only [h, if_true] <;> omega
     · simp only [h, if_false] <;> omega
 · cases hi with
   | none => simp [sliceBounds, HT.sIx]
   | some i =>
     simp only [sliceBounds, HT.sIx, Option.getD_none, show (1 : Int) > 0 by decide, if_true]
     by_cases h : i < 0
     · simp only [h, if_true] <;> omega
     · simp only [h, if_false] <;> omega
theorem uC (its : List Value) (lo hi : Option Int) : slicePick its.toArray lo hi none = ((its.drop (HT.sIx its.length 0 lo)).take (HT.sIx its.length its.length hi - HT.sIx its.length 0 lo)).toArray := by
 obtain ⟨h1, h2, h3⟩ := vI lo hi its.toArray.size
 unfold slicePick
 rw [h1, h2, h3]
 simp only [sliceRange_one, pick_run, List.size_toArray] <;> rfl
def rSlL (K : PySem.W.Frag) : V -> Option Int -> Option Int -> Hp -> VK -> Prop := fun x lo hi H Q => ∃ a xs, x = .ref a /\ SqL K H a xs /\ ∀ p, H p = none -> Q (.ref p) (upd H p (.lst (yV xs lo hi)))
theorem sl_list : SlR X (rSlL X.K) := by
 intro pins s σ H x v vl vu lo hi sl Q I rx hs pl pu h
 obtain ⟨a, xs, rfl, hx, q⟩ := h
 cases rx
 obtain ⟨its, r, ht, hz⟩ := I.list hx
 have hlen := r.length
 refine ⟨"list", _, slot_list_getitem.lookup, ht.isList.typeIs, ?_⟩
 refine wpAny_getItem_list_slice ht.isList hs pl pu .none (by simp) ?_ (by rw [List.size_toArray] <;> omega)
 rw [uC, ← hlen]
 refine ⟨.ref s.heap.objs.size, _, I.laid (t' := s.toks) (o := .lst (yV xs lo hi)) (fun b ob q => Heap.get?_push_of_some _ q) (Nat.le_refl _) ?_, rfl, q _ (I.hok.fresh (Nat.le_refl _))⟩
 exact ⟨Nat.le_trans (qA xs lo hi) hz, _, 0, (r.drop (HT.sIx xs.length 0 lo)).take (HT.sIx xs.length xs.length hi - HT.sIx xs.length 0 lo), Heap.get?_push_size _ rfl⟩
def flatV : V -> Bool
 | .non => true
 | .bl _ => true
 | .int _ => true
 | .str _ => true
 | _ => false
def eqV : V -> V -> Bool
 | .non, .non => true
 | .bl a, .bl b => a == b
 | .bl a, .int b => (if a then 1 else 0) == b
 | .int a, .bl b => a == (if b then 1 else 0)
 | .int a, .int b => a == b
 | .str a, .str b => a == b
 | _, _ => false
theorem eqAt_V {A : Around} {s : Shared} {y x : V} {u v : Value} (ry : RelV y u) (rx : RelV x v) (fy : flatV y = true) (fx : flatV x = true) : SeqAt.EqAt A s u v (eqV y x) := by
 cases y with
 | non =>
   cases ry
   cases x with
   | non => cases rx; exact SeqAt.EqAt.same _
   | bl b => cases rx; exact SeqAt.EqAt.none_bool b
   | int b => obtain ⟨t, rfl⟩ := rx; exact SeqAt.EqAt.none_int b t
   | str b => obtain ⟨t, rfl⟩ := rx; exact SeqAt.EqAt.none_str b t
   | _ => exact absurd (show false = true from fx) Bool.false_ne_true
 | bl a =>
   cases ry
   cases x with
   | non => cases rx; exact SeqAt.EqAt.bool_none a
   | bl b => cases rx; exact SeqAt.EqAt.bool_bool a b
   | int b => obtain ⟨t, rfl⟩ := rx; exact SeqAt.EqAt.bool_int a b t
   | str b => obtain ⟨t, rfl⟩ := rx; exact SeqAt.EqAt.bool_str a b t
   | _ => exact absurd (show false = true from fx) Bool.false_ne_true
 | int a =>
   obtain ⟨t', rfl⟩ := ry
   cases x with
   | non => cases rx; exact SeqAt.EqAt.int_none a t'
   | bl b => cases rx; exact SeqAt.EqAt.int_bool a t' b
   | int b => obtain ⟨t, rfl⟩ := rx; exact SeqAt.EqAt.int_int a t' b t
   | str b => obtain ⟨t, rfl⟩ := rx; exact SeqAt.EqAt.int_str a t' b t
   | _ => exact absurd (show false = true from fx) Bool.false_ne_true
 | str a =>
   obtain ⟨t', rfl⟩ := ry
   cases x with
   | non => cases rx; exact SeqAt.EqAt.str_none a t'
   | bl b => cases rx; exact SeqAt.EqAt.str_bool a t' b
   | int b => obtain ⟨t, rfl⟩ := rx; exact SeqAt.EqAt.str_int a t' b t
   | str b => obtain ⟨t, rfl⟩ := rx; exact SeqAt.EqAt.str_str a t' b t
   | _ => exact absurd (show false = true from fx) Bool.false_ne_true
 | _ => exact absurd (show false = true from fy) Bool.false_ne_true
def eqU (x : V) (u : Value) : Bool := match u with
 | .none => eqV .non x
 | .bool b => eqV (.bl b) x
 | .int i _ => eqV (.int i) x
 | .str z _ => eqV (.str z) x
 | _ => false
theorem eqU_of {x y : V} {u : Value} (r : RelV y u) (f : flatV y = true) : eqU x u = eqV y x := by
 cases y with
 | non => cases r; rfl
 | bl b => cases r; rfl
 | int i => obtain ⟨t, rfl⟩ := r; rfl
 | str z => obtain ⟨t, rfl⟩ := r; rfl
 | _ => exact absurd (show false = true from f) Bool.false_ne_true
theorem jP {x : V} : ∀ {xs : List V} {us : List Value}, Vals xs us -> xs.all flatV = true -> us.any (eqU x) = xs.any fun y => eqV y x
 | _, _, .nil, _ => rfl
 | y :: xs, u :: us, .cons r t, f => by
   rw [List.all_cons, Bool.and_eq_true] at f
   rw [List.any_cons, List.any_cons, eqU_of r f.1, jP t f.2]
theorem xQ {A : Around} {s : Shared} {x : V} {v : Value} (rx : RelV x v) (fx : flatV x = true) : ∀ {xs : List V} {us : List Value}, Vals xs us -> xs.all flatV = true -> ∀ u ∈ us, SeqAt.EqAt A s u v (eqU x u)
 | _, _, .nil, _ => fun u hu => by cases hu
 | y :: xs, u :: us, .cons r t, f => fun u' hu => by
   rw [List.all_cons, Bool.and_eq_true] at f
   rcases List.mem_cons.mp hu with rfl | hu
   · rw [eqU_of r f.1]; exact eqAt_V r rx f.1 fx
   · exact xQ rx fx t f.2 u' hu
def inV (x : V) (xs : List V) : Bool := xs.any fun y => eqV y x
def rIn (K : PySem.W.Frag) (neg : Bool) : R2 := fun x y H Q => ∃ p xs, y = .ref p /\ (SqL K H p xs \/ SqT K H p xs) /\ flatV x = true /\ xs.all flatV = true /\ Q (.bl (if neg then !inV x xs else inV x xs)) H
theorem op_in_seq : OpR X (compareOp .In) (rIn X.K false) := by
 intro pins s σ H x y v u Q I rx ry h
 obtain ⟨p, xs, rfl, hq, fx, fs, q⟩ := h
 cases ry
 rcases hq with hq | hq
 · obtain ⟨its, r, pl, hz⟩ := I.list hq
   refine SeqAt.in_listAt (eqU x) pl.isList (fun w hw => xQ rx fx r fs w (by simpa using hw)) ⟨.bl _, H, I, rfl, ?_⟩
   rw [show its.toArray.any (eqU x) = its.any (eqU x) by simp, jP r fs]
   exact q
 · obtain ⟨its, r, pl, hz⟩ := I.tuple hq
   refine SeqAt.in_tupleAt (eqU x) pl (fun w hw => xQ rx fx r fs w (by simpa using hw)) ⟨.bl _, H, I, rfl, ?_⟩
   rw [show its.toArray.any (eqU x) = its.any (eqU x) by simp, jP r fs]
   exact q
theorem op_notIn_seq : OpR X (compareOp .NotIn) (rIn X.K true) := by
 intro pins s σ H x y v u Q I rx ry h
 obtain ⟨p, xs, rfl, hq, fx, fs, q⟩ := h
 cases ry
 rcases hq with hq | hq
 · obtain ⟨its, r, pl, hz⟩ := I.list hq
   refine SeqAt.notIn_listAt (eqU x) pl.isList (fun w hw => xQ rx fx r fs w (by simpa using hw)) ⟨.bl _, H, I, rfl, ?_⟩
   rw [show its.toArray.any (eqU x) = its.any (eqU x) by simp, jP r fs]
   exact q
 · obtain ⟨its, r, pl, hz⟩ := I.tuple hq
   refine SeqAt.notIn_tupleAt (eqU x) pl (fun w hw => xQ rx fx r fs w (by simpa using hw)) ⟨.bl _, H, I, rfl, ?_⟩
   rw [show its.toArray.any (eqU x) = its.any (eqU x) by simp, jP r fs]
   exact q
theorem call_list_of : yZ X (.type "list") (fun xs H Q => ∃ p ys, xs = [.ref p] /\ (SqL X.K H p ys \/ SqT X.K H p ys) /\ ∀ l, H l = none -> Q (.ref l) (upd H l (.lst ys))) := by
 intro pins s σ H xs us Q I r h
 obtain ⟨p, ys, rfl, hq, q⟩ := h
 obtain ⟨u, rfl, rx⟩ := xN r
 cases rx
 have fin : ∀ (its : List Value), Vals ys its -> ys.length <= sizeLine -> ∀ (h' : Heap) (c' : Nat), (∀ b o', s.heap.get? b = some o' -> h'.get? b = some o') ->
     h'.get? s.heap.objs.size = some { cls := .type "list", dict := none, data := .seq its.toArray c', slots := #[] } -> EP X pins σ Q (.ref s.heap.objs.size) { s with heap := h' } := fun its r' hz h' c' kp e =>
   ⟨.ref s.heap.objs.size, _, I.laid (t' := s.toks) kp (Nat.le_refl _) (show ObjOk X.prog X.w _ h' _ (.lst ys) from ⟨hz, its, c', r', e⟩), rfl, q _ (I.hok.fresh (Nat.le_refl _))⟩
 rcases hq with hq | hq
 · obtain ⟨its, r', pl, hz⟩ := I.list hq
   have hlen := r'.length
   obtain ⟨o, ho, hc, n, hd⟩ := pl.isList
   exact call_list_seq p (.inl rfl) ho hc hd (fun h' c' kp e => fin its r' hz h' c' kp e) (by simp only [List.size_toArray] <;> omega)
 · obtain ⟨its, r', pl, hz⟩ := I.tuple hq
   have hlen := r'.length
   obtain ⟨o, ho, hc, n, hd⟩ := pl
   exact call_list_seq p (.inr rfl) ho hc hd (fun h' c' kp e => fin its r' hz h' c' kp e) (by simp only [List.size_toArray] <;> omega)
def tyV (K : PySem.W.Frag) (T : String) (x : V) (H : Hp) : Prop := match x with
 | .str _ => T = "str"
 | .int _ => T = "int"
 | .ref p => (T = "list" /\ ∃ xs, SqL K H p xs) \/ (T = "tuple" /\ ∃ o, K.lookup p = some o /\ o.cls = .type "tuple" /\ o.dict = none) \/
     (T = "dict" /\ ((∃ kvs, H p = some (.dK kvs)) \/ ∃ kvs, H p = some (.dT kvs))) \/ (T = "set" /\ ∃ S n, H p = some (.set S n))
 | _ => False
theorem tyV_is {pins : List (Addr × Obj)} {σ : St} {H : Hp} {s : Shared} {T : String} {x : V} {v : Value} (I : Inv X pins σ H s) (r : RelV x v) (ty : tyV X.K T x H) :
   s.TypeIs v T /\ ∀ a, v = .ref a -> ∃ ob, s.heap.get? a = some ob /\ ob.dict = none := by
 cases x with
 | str z =>
   obtain ⟨t, rfl⟩ := r
   cases (show T = "str" from ty)
   exact ⟨typeIs_str s z t, fun _ e => nomatch e⟩
 | int i =>
   obtain ⟨t, rfl⟩ := r
   cases (show T = "int" from ty)
   exact ⟨typeIs_int s i t, fun _ e => nomatch e⟩
 | ref p =>
   cases r
   rcases ty with ⟨rfl, xs, hq⟩ | ⟨rfl, o, hk, hc, hd⟩ | ⟨rfl, hk⟩ | ⟨rfl, S, n, hk⟩
   · obtain ⟨its, _, pl, _⟩ := I.list hq
     refine ⟨pl.isList.typeIs, fun a e => ?_⟩
     cases e
     obtain ⟨o, n, e, c, hd, _⟩ := pl
     exact ⟨o, e, hd⟩
   · refine ⟨⟨o, I.kIn p o hk, hc⟩, fun a e => ?_⟩
     cases e
     exact ⟨o, I.kIn _ o hk, hd⟩
   · have z : ∃ o, s.heap.get? p = some o /\ o.ExactDict := by
       rcases hk with ⟨kvs, hk⟩ | ⟨kvs, hk⟩
       · obtain ⟨_, _, _, _, o, _, _, e, ex, _⟩ := I.hok p _ hk
         exact ⟨o, e, ex⟩
       · obtain ⟨_, _, _, _, o, _, _, e, ex, _⟩ := I.hok p _ hk
         exact ⟨o, e, ex⟩
     obtain ⟨o, e, ex⟩ := z
     refine ⟨⟨o, e, ex.1⟩, fun a e2 => ?_⟩
     cases e2
     exact ⟨o, e, ex.2.1⟩
   · obtain ⟨o, _, _, _, e, ex, _⟩ := I.hok p _ hk
     refine ⟨⟨o, e, ex.1⟩, fun a e2 => ?_⟩
     cases e2
     exact ⟨o, e, ex.2.1⟩
 | _ => exact False.elim ty
def tBM0 (K : PySem.W.Frag) (T : String) (r : V -> List V -> Hp -> VK -> Prop) (to : TE) : TE := fun σ H Q => to σ H fun x H1 => tyV K T x H1 /\ r x [] H1 Q
def tBM (K : PySem.W.Frag) (T : String) (r : V -> List V -> Hp -> VK -> Prop) (to : TE) (t : TA) : TE := fun σ H Q => to σ H fun x H1 => tyV K T x H1 /\ t σ H1 fun xs H2 => r x xs H2 Q
variable {o e : Expr} {es : List Expr} {to : TE} {t : TA} {name : Str} {apos cpos : Pos} {T id : String} {r : V -> List V -> Hp -> VK -> Prop}
theorem xX (pa : PlainAttrs T) (slot : Slot T name id) (hty : typeOf (.builtin id) = pure (.type "method_descriptor")) (hm : MtR X id r) (ho : PE X o to) (ha : PA X (e :: es) t)
   (hbase : attributeBase o name X.env (eval o X.env) = eval o X.env := by rfl)
   (hfew : ((backTo cpos (starEach (e :: es) X.env)).all (fun x => !x.1) && (backToKw cpos (keywordEach [] X.env)).all (fun x => x.1.isSome)
     && decide ((e :: es).length + ([] : List Keyword).length + (if ([] : List Keyword).isEmpty then 0 else 1) < 30)) = true := by rfl)
   (hline : (apos.endLine == cpos.line) = true := by rfl) (hs : starEach (e :: es) X.env = (false, eval e X.env) :: starEach es X.env := by rfl) (hplain : (backTo cpos (starEach es X.env)).any (·.1) = false := by rfl) :
   PE X (.Call (.Attribute o name apos) (e :: es) [] cpos) (tBM X.K T r to t) := by
 intro pins s σ H Q I h
 refine wpAny_Call_method_late hbase hfew hline rfl (thn (ho pins s σ H _ I h) fun v s1 ⟨x, H1, I1, r1, ty, q1⟩ => ?_)
 obtain ⟨h1, h2⟩ := tyV_is I1 r1 ty
 refine ⟨T, id, pa, slot, hty, h1, h2, ?_⟩
 have hA := ha cpos pins s1 σ H1 _ I1 q1
 rw [hs] at hA ⊢
 refine Calls.callWith_builtin (by show (false || (backTo cpos (starEach es X.env)).any (·.1)) = false; rw [hplain] <;> rfl) (Calls.evalArgs_plain ?_)
 exact thn hA fun us s2 ⟨vs, H2, I2, r2, q2⟩ => hm pins s2 σ H2 x vs v us Q I2 r1 r2 q2
end
def MtM (X : Cx) (id : String) (r : V -> List V -> Hp -> VK -> Prop) : Prop :=
 ∀ (pins : List (Addr × Obj)) (s : Shared) (σ : St) (H : Hp) (x : V) (xs : List V) (v : Value) (us : List Value) (Q : VK), Inv X pins σ H s -> RelV x v -> Vals xs us -> r x xs H Q ->
   wpAny (model X.prog X.w) X.A (call (.builtin id) (v :: us)) (EP X pins σ Q) X.xe s
theorem Vals.one : ∀ {x : V} {us : List Value}, Vals [x] us -> ∃ u, us = [u] /\ RelV x u
 | _, _, .cons r .nil => ⟨_, rfl, r⟩
theorem Vals.two : ∀ {x y : V} {us : List Value}, Vals [x, y] us -> ∃ u v, us = [u, v] /\ RelV x u /\ RelV y v
 | _, _, _, .cons r (.cons q .nil) => ⟨_, _, rfl, r, q⟩
theorem Vals.dropLast {xs : List V} {us : List Value} (h : Vals xs us) : Vals xs.dropLast us.dropLast := by
 induction h with
 | nil => exact .nil
 | cons r t ih =>
   cases t with
   | nil => exact .nil
   | cons q t' => exact .cons r ih
section
variable {X : Cx} {pins : List (Addr × Obj)} {σ : St} {H : Hp} {s : Shared} {l b : Addr} {xs ys zs : List V}
theorem Inv.lset {its its' : List Value} {n : Nat} {f : Array Value -> Array Value} {t' : Nat} (I : Inv X pins σ H s) (hH : H l = some (.lst xs))
   (e : s.heap.get? l = some { cls := .type "list", data := .seq its.toArray n }) (hf : f its.toArray = its'.toArray) (hv : Vals ys its') (hz : ys.length <= sizeLine) :
   Inv X pins σ (upd H l (.lst ys)) { s with heap := s.heap.update l (Obj.mapSeq f), toks := t' } := by
 have q := PySem.IsL.update e f
 rw [hf] at q
 refine I.write (x := l) (e := l) (by rw [hH]; exact trivial) (.inl rfl) (fun b' u hb hu => (Heap.get?_update_other s.heap (Obj.mapSeq f) (Ne.symm hb)).trans hu) ⟨_, q⟩ ?_
 exact ⟨hz, its', _, hv, q⟩
theorem Inv.lnew {its : List Value} {t' : Nat} (I : Inv X pins σ H s) (hv : Vals ys its) (hz : ys.length <= sizeLine) :
   Inv X pins σ (upd H s.heap.objs.size (.lst ys)) { s with heap := s.heap.push { cls := .type "list", data := .seq its.toArray }, toks := t' } :=
 I.laid (fun _ _ q => Heap.get?_push_of_some _ q) (Nat.le_refl _) ⟨hz, its, 0, hv, Heap.get?_push_size _ rfl⟩
theorem Inv.fresh (I : Inv X pins σ H s) : H s.heap.objs.size = none := I.hok.fresh (Nat.le_refl _)
theorem Inv.lstM (I : Inv X pins σ H s) (hH : H l = some (.lst xs)) : xs.length <= sizeLine /\ ∃ (its : List Value) (n : Nat), Vals xs its /\ xs.length = its.length /\ s.heap.get? l = some { cls := .type "list", data := .seq its.toArray n } := by
 obtain ⟨z, its, n, r, e⟩ := I.hok l _ hH
 exact ⟨z, its, n, r, r.length, e⟩
theorem notLongL {n : Nat} (h : n <= sizeLine) : Builtin.List.listTooLong n = false := by
 unfold Builtin.List.listTooLong
 exact decide_eq_false (by omega)
end
section
variable {X : Cx}
def rAppend : V -> List V -> Hp -> VK -> Prop := fun x vs H Q => ∃ l xs y, x = .ref l /\ vs = [y] /\ H l = some (.lst xs) /\ xs.length < sizeLine /\ Q .non (upd H l (.lst (xs ++ [y])))
theorem mt_append : MtM X "list.append" rAppend := by
 intro pins s σ H x vs v us Q I rx rv h
 obtain ⟨l, xs, y, rfl, rfl, hH, hz, q⟩ := h
 cases rx
 obtain ⟨u, rfl, ru⟩ := rv.one
 obtain ⟨z, its, n, r, hl, e⟩ := I.lstM hH
 refine call_meets F.slot_list_append ⟨_, e, rfl⟩ F.entry_list_append (F.args_list_append_2 _ _) (PySem.list_append l its.toArray n u (by rw [List.size_toArray]; omega)) ⟨e, ?_⟩
 refine ⟨.non, _, I.lset (its' := its ++ [u]) hH e (by simp) (r.append (.cons ru .nil)) ?_, rfl, q⟩
 rw [List.length_append, List.length_singleton]
 omega
def rExtend : V -> List V -> Hp -> VK -> Prop := fun x vs H Q => ∃ l b xs zs, x = .ref l /\ vs = [.ref b] /\ H l = some (.lst xs) /\ H b = some (.lst zs) /\ xs.length + zs.length <= sizeLine /\ Q .non (upd H l (.lst (xs ++ zs)))
theorem mt_extend : MtM X "list.extend" rExtend := by
 intro pins s σ H x vs v us Q I rx rv h
 obtain ⟨l, b, xs, zs, rfl, rfl, hH, hB, hz, q⟩ := h
 cases rx
 obtain ⟨u, rfl, ru⟩ := rv.one
 cases ru
 obtain ⟨z, its, n, r, hl, e⟩ := I.lstM hH
 obtain ⟨z2, its2, n2, r2, hl2, e2⟩ := I.lstM hB
 have hsz : its.toArray.size + its2.toArray.size <= sizeLine := by rw [List.size_toArray, List.size_toArray]; omega
 have hlong : ¬ (!its.toArray.isEmpty && Builtin.List.listTooLong (its.toArray.size + its2.toArray.size)) = true := by
   rw [notLongL hsz, Bool.and_false]
   exact Bool.false_ne_true
 refine call_meets F.slot_list_extend ⟨_, e, rfl⟩ F.entry_list_extend (F.args_list_extend_2 _ _)
   (AutoSeq1.list_extend_list_list_0 l its.toArray n b its2.toArray n2 hlong (by rw [List.size_toArray]; omega) (by omega)) ⟨e, e2, ?_⟩
 refine ⟨.non, _, I.lset (its' := its ++ its2) hH e (by simp) (r.append r2) ?_, rfl, q⟩
 rw [List.length_append]
 omega
def rPop : V -> List V -> Hp -> VK -> Prop := fun x vs H Q => ∃ l xs y, x = .ref l /\ vs = [] /\ H l = some (.lst xs) /\ xs[xs.length - 1]? = some y /\ Q y (upd H l (.lst xs.dropLast))
def rCat : R2 := fun x y H Q => ∃ l b xs zs, x = .ref l /\ y = .ref b /\ H l = some (.lst xs) /\ H b = some (.lst zs) /\ xs.length + zs.length <= sizeLine /\ ∀ p, H p = none -> Q (.ref p) (upd H p (.lst (xs ++ zs)))
theorem op_cat : OpR X (binaryOp .Add) rCat := by
 intro pins s σ H x y v u Q I rx ry h
 obtain ⟨l, b, xs, zs, rfl, rfl, hH, hB, hz, q⟩ := h
 cases rx
 cases ry
 obtain ⟨z, its, n, r, hl, e⟩ := I.lstM hH
 obtain ⟨z2, its2, n2, r2, hl2, e2⟩ := I.lstM hB
 refine PySem.P.add_list e e2 ?_ (by rw [List.size_toArray, List.size_toArray]; omega)
 have ea : its.toArray ++ its2.toArray = (its ++ its2).toArray := by simp
 rw [ea]
 exact ⟨.ref _, _, I.lnew (t' := s.toks) (r.append r2) (by rw [List.length_append]; omega), rfl, q _ I.fresh⟩
end
section
variable {prog : Program} {w : World} {A : Around} {E : Value -> Shared -> Prop} {s : Shared}
end
section
variable {X : Cx}
end
section
variable {κ : Type} [DecidableEq κ]
def yQ (kvs : List (κ × V)) (k : κ) : Option V := (kvs.find? fun kv => decide (kv.1 = k)).map (·.2)
def xP (kvs : List (κ × V)) (k : κ) (v : V) : List (κ × V) :=
 if (kvs.any fun kv => decide (kv.1 = k)) = true then kvs.map (fun kv => if kv.1 = k then (kv.1, v) else kv) else kvs ++ [(k, v)]
def dropK (kvs : List (κ × V)) (k : κ) : List (κ × V) := kvs.filter fun kv => decide (kv.1 ≠ k)
theorem yL {p : κ × V} {r : List (κ × V)} {k : κ} (e : p.1 = k) : yQ (p :: r) k = some p.2 := by simp [yQ, List.find?_cons, e]
theorem yM {p : κ × V} {r : List (κ × V)} {k : κ} (e : ¬ p.1 = k) : yQ (p :: r) k = yQ r k := by simp [yQ, List.find?_cons, e]
theorem jF (k : κ) : ∀ kvs : List (κ × V), (kvs.any fun kv => decide (kv.1 = k)) = (yQ kvs k).isSome
 | [] => rfl
 | p :: r => by
   rw [List.any_cons]
   by_cases e : p.1 = k
   · simp only [yL e, decide_eq_true e, Bool.true_or, Option.isSome_some]
   · rw [yM e, decide_eq_false e, Bool.false_or]; exact jF k r
theorem valV_map (k j : κ) (y : V) : ∀ kvs : List (κ × V), yQ (kvs.map fun kv => if kv.1 = k then (kv.1, y) else kv) j = (yQ kvs j).map fun x => if j = k then y else x
 | [] => rfl
 | p :: r => by
   have ih := valV_map k j y r
   rw [List.map_cons]
   by_cases h : p.1 = k
   · rw [if_pos h]
     by_cases e : p.1 = j
     · rw [yL (p := (p.1, y)) e, yL e, Option.map_some, if_pos (e.symm.trans h)]
     · rw [yM (p := (p.1, y)) e, yM e, ih]
   · rw [if_neg h]
     by_cases e : p.1 = j
     · rw [yL (p := p) e, yL e, Option.map_some, if_neg (fun z => h (e.trans z))]
     · rw [yM (p := p) e, yM e, ih]
theorem uM (k j : κ) (y : V) : ∀ kvs : List (κ × V), yQ kvs k = none -> yQ (kvs ++ [(k, y)]) j = if j = k then some y else yQ kvs j
 | [], _ => by
   by_cases e : k = j
   · rw [if_pos e.symm]; exact yL (p := (k, y)) e
   · rw [if_neg (fun z => e z.symm)]; exact yM (p := (k, y)) e
 | p :: r, hn => by
   rw [List.cons_append]
   have hk : ¬ p.1 = k := fun z => by rw [yL z] at hn; cases hn
   rw [yM hk] at hn
   have ih := uM k j y r hn
   by_cases e : p.1 = j
   · rw [yL e, yL e, if_neg (fun z => hk (e.trans z))]
   · rw [yM e, yM e, ih]
theorem valV_put (kvs : List (κ × V)) (k j : κ) (y : V) : yQ (xP kvs k y) j = if j = k then some y else yQ kvs j := by
 unfold xP
 by_cases a : (kvs.any fun kv => decide (kv.1 = k)) = true
 · rw [if_pos a, valV_map]
   rw [jF] at a
   by_cases e : j = k
   · obtain ⟨x, hx⟩ := Option.isSome_iff_exists.mp a
     rw [if_pos e, e, hx, Option.map_some, if_pos rfl]
   · rw [if_neg e]
     cases yQ kvs j with
     | none => rfl
     | some x => rw [Option.map_some, if_neg e]
 · rw [if_neg a]
   refine uM k j y kvs ?_
   rw [jF] at a
   cases q : yQ kvs k with
   | none => rfl
   | some x => rw [q] at a; exact (a rfl).elim
theorem xR (kvs : List (κ × V)) (k : κ) (v : V) : (xP kvs k v).length <= kvs.length + 1 := by
 unfold xP
 split
 · rw [List.length_map]; omega
 · rw [List.length_append, List.length_cons, List.length_nil]; omega
theorem RelO.isSome_eq {o : Option V} {u : Option Value} (r : RelO o u) : o.isSome = u.isSome := by
 cases o with
 | none => cases u with
   | none => rfl
   | some _ => exact (show False from r).elim
 | some _ => cases u with
   | none => exact (show False from r).elim
   | some _ => rfl
theorem KV.val {kvs : List (κ × V)} {vs : List (κ × Value)} (r : KV kvs vs) (k : κ) : RelO (yQ kvs k) (valueAt vs k) := by
 unfold KV at r
 induction r with
 | nil => exact True.intro
 | @cons p q ps qs h t ih =>
   obtain ⟨h1, h2⟩ := h
   by_cases e : p.1 = k
   · have e' : q.1 = k := h1.symm.trans e
     have b : valueAt (q :: qs) k = some q.2 := by simp [valueAt, List.find?_cons, e']
     rw [yL e, b]; exact h2
   · have e' : ¬ q.1 = k := fun z => e (h1.trans z)
     have b : valueAt (q :: qs) k = valueAt qs k := by simp [valueAt, List.find?_cons, e']
     rw [yM e, b]; exact ih
theorem KV.any {kvs : List (κ × V)} {vs : List (κ × Value)} (r : KV kvs vs) (k : κ) : (kvs.any fun kv => decide (kv.1 = k)) = vs.any fun kv => decide (kv.1 = k) := by
 unfold KV at r
 induction r with
 | nil => rfl
 | cons h t ih => rw [List.any_cons, List.any_cons, ih, h.1]
theorem KV.repl {kvs : List (κ × V)} {vs : List (κ × Value)} (r : KV kvs vs) (k : κ) {y : V} {u : Value} (ry : RelV y u) :
   KV (kvs.map fun kv => if kv.1 = k then (kv.1, y) else kv) (vs.map fun kv => if kv.1 = k then (kv.1, u) else kv) := by
 unfold KV at r ⊢
 induction r with
 | nil => exact .nil
 | @cons p q ps qs h t ih =>
   rw [List.map_cons, List.map_cons]
   refine .cons ?_ ih
   obtain ⟨h1, h2⟩ := h
   by_cases e : p.1 = k
   · rw [if_pos e, if_pos (h1.symm.trans e)]; exact ⟨h1, ry⟩
   · rw [if_neg e, if_neg (fun z => e (h1.trans z))]; exact ⟨h1, h2⟩
theorem KV.put {kvs : List (κ × V)} {vs : List (κ × Value)} (r : KV kvs vs) (k : κ) {y : V} {u : Value} (ry : RelV y u) : KV (xP kvs k y) (stored vs k u) := by
 unfold xP stored
 rw [r.any k]
 by_cases e : (vs.any fun kv => decide (kv.1 = k)) = true
 · rw [if_pos e, if_pos e]; exact r.repl k ry
 · rw [if_neg e, if_neg e]; exact Paired.snoc r ⟨rfl, ry⟩
theorem KV.drop {kvs : List (κ × V)} {vs : List (κ × Value)} (r : KV kvs vs) (k : κ) : KV (dropK kvs k) (without vs k) := by
 unfold KV at r ⊢
 unfold dropK without
 induction r with
 | nil => exact .nil
 | @cons p q ps qs h t ih =>
   obtain ⟨h1, h2⟩ := h
   rw [List.filter_cons, List.filter_cons]
   by_cases e : p.1 = k
   · have a : ¬ decide (p.1 ≠ k) = true := by simp [e]
     have b : ¬ decide (q.1 ≠ k) = true := by simp [h1.symm.trans e]
     rw [if_neg a, if_neg b]; exact ih
   · have e' : ¬ q.1 = k := fun z => e (h1.trans z)
     have a : decide (p.1 ≠ k) = true := by simp [e]
     have b : decide (q.1 ≠ k) = true := by simp [e']
     rw [if_pos a, if_pos b]; exact .cons ⟨h1, h2⟩ ih
theorem KV.keys {kvs : List (κ × V)} {vs : List (κ × Value)} (r : KV kvs vs) : kvs.map (·.1) = vs.map (·.1) := by
 unfold KV at r
 induction r with
 | nil => rfl
 | cons h t ih => rw [List.map_cons, List.map_cons, ih, h.1]
theorem KV.length {kvs : List (κ × V)} {vs : List (κ × Value)} (r : KV kvs vs) : kvs.length = vs.length := Paired.length r
end
theorem kV_is {P : Program} {w : World} {k : Key} {u : Value} (r : RelV (kV k) u) : (yF P w).is k u = true := by
 cases k with
 | inl i => obtain ⟨t, e⟩ := (show ∃ t, u = Value.int i t from r); subst e; exact mixKind_int P w i t
 | inr x => obtain ⟨t, e⟩ := (show ∃ t, u = Value.str x t from r); subst e; exact jZ P w x t
theorem uU {P : Program} {w : World} : ∀ {ks : List Key} {us : List Value}, Vals (ks.map kV) us -> ItemsAre (yF P w) ks us
 | [], _, r => by rw [List.map_nil] at r; cases r; exact .nil
 | k :: ks, _, r => by
   rw [List.map_cons] at r
   cases r with
   | cons h t => exact .cons (kV_is h) (uU t)
abbrev KT (H : Hp) : List (List Key × V) -> List (List Key × Addr × Value) -> Prop := Paired fun p q => p.1 = q.1 /\ H q.2.1 = some (.tup (p.1.map kV)) /\ RelV p.2 q.2.2
theorem KT.val {H : Hp} {kvs : List (List Key × V)} {xs : List (List Key × Addr × Value)} (r : KT H kvs xs) (k : List Key) : RelO (yQ kvs k) ((atKey xs k).map (·.2)) := by
 induction r with
 | nil => exact True.intro
 | @cons p q ps qs h t ih =>
   obtain ⟨h1, _, h2⟩ := h
   by_cases e : p.1 = k
   · have e' : q.1 = k := h1.symm.trans e
     have b : atKey (q :: qs) k = some q.2 := by simp [atKey, List.find?_cons, e']
     rw [yL e, b]; exact h2
   · have e' : ¬ q.1 = k := fun z => e (h1.trans z)
     have b : atKey (q :: qs) k = atKey qs k := by simp [atKey, List.find?_cons, e']
     rw [yM e, b]; exact ih
theorem KT.repl {H : Hp} {kvs : List (List Key × V)} {xs : List (List Key × Addr × Value)} (r : KT H kvs xs) (k : List Key) {y : V} {u : Value} (ry : RelV y u) :
   KT H (kvs.map fun kv => if kv.1 = k then (kv.1, y) else kv) (xs.map (putAt k u)) := by
 induction r with
 | nil => exact .nil
 | @cons p q ps qs h t ih =>
   rw [List.map_cons, List.map_cons]
   refine .cons ?_ ih
   obtain ⟨h1, h2, h3⟩ := h
   unfold putAt
   by_cases e : p.1 = k
   · rw [if_pos e, if_pos (h1.symm.trans e)]; exact ⟨h1, h2, ry⟩
   · rw [if_neg e, if_neg (fun z => e (h1.trans z))]; exact ⟨h1, h2, h3⟩
theorem KT.put {H : Hp} {kvs : List (List Key × V)} {xs : List (List Key × Addr × Value)} (r : KT H kvs xs) (k : List Key) {b : Addr} {y : V} {u : Value} (hb : H b = some (.tup (k.map kV))) (ry : RelV y u) :
   KT H (xP kvs k y) (storedH xs k b u) := by
 have e : (kvs.any fun kv => decide (kv.1 = k)) = (atKey xs k).isSome := by
   rw [jF, (r.val k).isSome_eq, Option.isSome_map]
 unfold xP storedH
 rw [e]
 by_cases q : (atKey xs k).isSome = true
 · rw [if_pos q, if_pos q]; exact r.repl k ry
 · rw [if_neg q, if_neg q]; exact Paired.snoc r ⟨rfl, hb, ry⟩
theorem KT.keeps {H H' : Hp} {kvs : List (List Key × V)} {xs : List (List Key × Addr × Value)} (r : KT H kvs xs) (ht : ∀ b ys, H b = some (.tup ys) -> H' b = some (.tup ys)) : KT H' kvs xs :=
 Paired.mapP r fun _ _ z => ⟨z.1, ht _ _ z.2.1, z.2.2⟩
section
variable {P : Program} {w : World} {H : Hp} {h : Heap} {a : Addr}
theorem rd_of {u : HO} (ok : HOk P w H h) (e : Rd H a u) : ObjOk P w H h a u := e.ok ok
theorem dk_rd {kvs : List (Key × V)} (ok : HOk P w H h) (e : Rd H a (.dK kvs)) : kvs.length <= sizeLine /\ (a == sysModules) = false /\ ∃ vs, KV kvs vs /\ h.DictOf (yF P w) a vs :=
 show ObjOk P w H h a (.dK kvs) from rd_of ok e
theorem dk_of {kvs : List (Key × V)} (ok : HOk P w H h) (e : H a = some (.dK kvs)) : kvs.length <= sizeLine /\ (a == sysModules) = false /\ ∃ vs, KV kvs vs /\ h.DictOf (yF P w) a vs := dk_rd ok (.inl e)
theorem key_of {ks : List Key} (ok : HOk P w H h) (e : H a = some (.tup (ks.map kV))) : (tupleKind (yF P w)).is h ks a := by
 obtain ⟨_, its, r, o, h1, h2, n, h3⟩ := (show ObjOk P w H h a (.tup (ks.map kV)) from ok a _ e)
 exact ⟨o, its.toArray, n, h1, h2, h3, by simpa using uU r⟩
theorem dt_rd {kvs : List (List Key × V)} (ok : HOk P w H h) (e : Rd H a (.dT kvs)) : kvs.length <= sizeLine /\ (a == sysModules) = false /\
   ∃ xs, KT H kvs xs /\ h.DictOfH (tupleKind (yF P w)) a xs := by
 obtain ⟨z, y, xs, r, o, es, ep, h1, h2, h3, h4, h5⟩ := (show ObjOk P w H h a (.dT kvs) from rd_of ok e)
 refine ⟨z, y, xs, r, o, es, ep, h1, h2, h3, h4, fun x hx => ?_, h5⟩
 have all : ∀ {l : List (List Key × V)} {m : List (List Key × Addr × Value)}, KT H l m -> ∀ x ∈ m, (tupleKind (yF P w)).is h x.1 x.2.1 := by
   intro l m q
   induction q with
   | nil => intro x hx; exact nomatch hx
   | @cons p q ps qs hq t ih =>
     intro x hx
     rcases List.mem_cons.mp hx with e | hx
     · subst e
       exact key_of ok (by rw [← hq.1]; exact hq.2.1)
     · exact ih x hx
 exact all r x hx
theorem dt_of {kvs : List (List Key × V)} (ok : HOk P w H h) (e : H a = some (.dT kvs)) : kvs.length <= sizeLine /\ (a == sysModules) = false /\
   ∃ xs, KT H kvs xs /\ h.DictOfH (tupleKind (yF P w)) a xs := dt_rd ok (.inl e)
end
def DGet (H : Hp) (a : Addr) (y : V) (r : Option V) : Prop :=
 (∃ kvs k, Rd H a (.dK kvs) /\ y = kV k /\ r = yQ kvs k) \/ ∃ kvs k b, Rd H a (.dT kvs) /\ y = .ref b /\ H b = some (.tup (k.map kV)) /\ r = yQ kvs k
def DPut (H : Hp) (a : Addr) (y v : V) (H' : Hp) : Prop :=
 (∃ kvs k, H a = some (.dK kvs) /\ y = kV k /\ kvs.length < sizeLine /\ H' = upd H a (.dK (xP kvs k v))) \/
 ∃ kvs k b, H a = some (.dT kvs) /\ y = .ref b /\ H b = some (.tup (k.map kV)) /\ kvs.length < sizeLine /\ H' = upd H a (.dT (xP kvs k v))
theorem DGet.k {H : Hp} {a : Addr} {kvs : List (Key × V)} {k : Key} (e : H a = some (.dK kvs)) : DGet H a (kV k) (yQ kvs k) := .inl ⟨kvs, k, .inl e, rfl, rfl⟩
theorem DGet.t {H : Hp} {a b : Addr} {kvs : List (List Key × V)} {k : List Key} (e : H a = some (.dT kvs)) (eb : H b = some (.tup (k.map kV))) : DGet H a (.ref b) (yQ kvs k) := .inr ⟨kvs, k, b, .inl e, rfl, eb, rfl⟩
theorem DPut.k {H : Hp} {a : Addr} {kvs : List (Key × V)} {k : Key} {v : V} (e : H a = some (.dK kvs)) (hl : kvs.length < sizeLine) : DPut H a (kV k) v (upd H a (.dK (xP kvs k v))) := .inl ⟨kvs, k, e, rfl, hl, rfl⟩
theorem DPut.t {H : Hp} {a b : Addr} {kvs : List (List Key × V)} {k : List Key} {v : V} (e : H a = some (.dT kvs)) (eb : H b = some (.tup (k.map kV))) (hl : kvs.length < sizeLine) :
   DPut H a (.ref b) v (upd H a (.dT (xP kvs k v))) := .inr ⟨kvs, k, b, e, rfl, eb, hl, rfl⟩
section
variable {X : Cx} {pins : List (Addr × Obj)} {σ : St} {H : Hp} {s : Shared} {a : Addr} {y v : V} {u r : Value} {o : Option V} {A : Around} {E : Value -> Shared -> Prop}
theorem Inv.big (I : Inv X pins σ H s) : sysModules < s.heap.objs.size := by
 have h : mainGlobals < s.heap.objs.size := (I.mod.glob.keeps I.bk).lt
 exact Nat.lt_trans (by decide) h
theorem d_getItem {Q : Value -> Shared -> Prop} (hu : A.units + 1 < cLine) (I : Inv X pins σ H s) (g : DGet H a y (some v)) (ry : RelV y u) (h : ∀ w' s', Inv X pins σ H s' -> RelV v w' -> Q w' s') :
   wpAny (model X.prog X.w) A (getItem (.ref a) u) Q E s := by
 rcases g with ⟨kvs, k, e, ey, l⟩ | ⟨kvs, k, b, e, ey, eb, l⟩
 · subst ey
   obtain ⟨z, hd, vs, rel, dd⟩ := dk_rd I.hok e
   obtain ⟨w', hw, rw'⟩ := RelO.some_of (v := v) (o := valueAt vs k) (by rw [l]; exact rel.val k)
   exact wpAny_getItem_of (kV_is ry) dd.mapOf hw (h w' _ (I.tok _) rw')
 · subst ey
   cases (show u = Value.ref b from ry)
   obtain ⟨z, hd, xs, rel, dd⟩ := dt_rd I.hok e
   obtain ⟨w', hw, rw'⟩ := RelO.some_of (v := v) (o := (atKey xs k).map (·.2)) (by rw [l]; exact rel.val k)
   obtain ⟨p, hp, hp2⟩ := Option.map_eq_some_iff.mp hw
   refine wpAny_getItem_heap (tupleKind_room_in1 hu) (key_of I.hok eb) dd hp ?_
   rw [hp2]
   exact h w' _ (I.tok _) rw'
theorem d_write {h' : Heap} {t' : Nat} {ob : HO} (I : Inv X pins σ H s) (mu : Mut (H a)) (hs : Heap.SameBut a s.heap h') (he : ∃ q, h'.get? a = some q) (new : ObjOk X.prog X.w (upd H a ob) h' a ob) :
   Inv X pins σ (upd H a ob) { s with heap := h', toks := t' } :=
 I.write (x := a) (e := a) mu (.inl rfl) (fun b q hb z => (hs.2 b hb).trans z) he new
theorem dk_new {P : Program} {w : World} {H' : Hp} {h' : Heap} {kvs : List (Key × V)} {vs : List (Key × Value)} (z : kvs.length <= sizeLine) (hd : (a == sysModules) = false) (rel : KV kvs vs) (dd : h'.DictOf (yF P w) a vs) :
   ObjOk P w H' h' a (.dK kvs) := ⟨z, hd, vs, rel, dd⟩
theorem d_setItem {H' : Hp} {Q : Unit -> Shared -> Prop} (hu : A.units + 1 < cLine) (I : Inv X pins σ H s) (g : DPut H a y v H') (ry : RelV y u) (rv : RelV v r) (h : ∀ s', Inv X pins σ H' s' -> Q () s') :
   wpAny (model X.prog X.w) A (setItem (.ref a) u r) Q E s := by
 rcases g with ⟨kvs, k, e, ey, l, eH⟩ | ⟨kvs, k, b, e, ey, eb, l, eH⟩
 · subst ey eH
   obtain ⟨z, hd, vs, rel, dd⟩ := dk_of I.hok e
   have hz : vs.length <= sizeLine := by rw [← rel.length]; exact z
   have hl : (xP kvs k v).length <= sizeLine := by have := xR kvs k v; omega
   refine wpAny_setItem_pairs (hsz := hz) (kV_is ry) dd fun h' dd' hs => h _ ?_
   have he : ∃ q, h'.get? a = some q := let ⟨q, _, _, hq, _⟩ := dd'; ⟨q, hq⟩
   exact d_write I (by rw [e]; exact True.intro) hs he (dk_new hl hd (rel.put k rv) dd')
 · subst ey eH
   cases (show u = Value.ref b from ry)
   obtain ⟨z, hd, xs, rel, dd⟩ := dt_of I.hok e
   have hz : xs.length <= sizeLine := by rw [← Paired.length rel]; exact z
   have hl : (xP kvs k v).length <= sizeLine := by have := xR kvs k v; omega
   refine wpAny_setItem_heap (hsz := hz) (tupleKind_room_in1 hu) (key_of I.hok eb) dd fun h' dd' hs => h _ ?_
   obtain ⟨q, es, ep, hq, h2, h3, h4, _, h5⟩ := dd'
   refine d_write I (by rw [e]; exact True.intro) hs ⟨q, hq⟩ ⟨hl, hd, _, (rel.put k eb rv).keeps fun c ys ec => ?_, q, es, ep, hq, h2, h3, h4, h5⟩
   rw [zU (ne_of ec e (fun z => nomatch z))]
   exact ec
end
section
variable {X : Cx} {pins : List (Addr × Obj)} {σ : St} {H : Hp} {s : Shared} {a : Addr} {kvs : List (Key × V)} {k : Key} {u : Value} {A : Around} {E : Value -> Shared -> Prop}
end
def NoSl (i : Expr) : Prop := ∀ ov iv, subscripted i false ov iv = operate [ov, iv] (getItem ov iv)
theorem subD_of {prog : Program} {w : World} {A : Around} {E : Value -> Shared -> Prop} {s : Shared} {env : Env} {value slice : Expr} {pos : Pos} {T id : String} {Q : Value -> Shared -> Prop}
   (hl : typeLookup (.type T) "__getitem__" = pure (some (.builtin id))) (hs : NoSl slice)
   (h : wpAny (model prog w) A (eval value env) (fun o s₁ => wpAny (model prog w) A (eval slice env) (fun i s₂ => s₂.TypeIs o T /\ wpAny (model prog w) A (getItem o i) Q E s₂) E s₁) E s) :
   wpAny (model prog w) A (eval (.Subscript value slice pos) env) Q E s := by
 refine Subscript_ (wpAny_mono h (fun o s₁ h₁ => wpAny_mono h₁ (fun i s₂ h₂ => ?_) fun _ _ x => x) fun _ _ x => x)
 obtain ⟨hT, h₂⟩ := h₂
 unfold subscriptTail
 refine wpAny_bind ?_
 rw [getitemInPython_of_ne hT.not_modules]
 refine wpAny_bind (wpAny_specialOf hT hl ?_)
 have fin : wpAny (model prog w) A (subscripted slice false o i) (fun r s₃ => wpAny (model prog w) A (letTemporaryGo value o r >>= fun _ => pure r) Q E s₃) E s₂ := by
   rw [hs o i]
   exact wpAny_operating (wpAny_mono h₂ (fun r s₃ h₃ => wpAny_bind (wpAny_letTemporaryGo (wpAny_pure h₃))) fun _ _ x => x)
 first
   | exact wpAny_pure (wpAny_bind fin)
   | exact wpAny_bind (wpAny_pure (wpAny_bind fin))
   | exact wpAny_bind fin
theorem dict_typeIs {X : Cx} {pins : List (Addr × Obj)} {σ : St} {H : Hp} {s : Shared} {a : Addr} {y : V} {o : Option V} (I : Inv X pins σ H s) (g : DGet H a y o) : s.TypeIs (.ref a) "dict" := by
 rcases g with ⟨kvs, k, e, _, _⟩ | ⟨kvs, k, b, e, _, _, _⟩
 · obtain ⟨_, _, vs, _, dd⟩ := dk_rd I.hok e
   exact dd.typeIs
 · obtain ⟨_, _, xs, _, dd⟩ := dt_rd I.hok e
   exact dd.typeIs
def tDGet (td ty : TE) : TE := fun σ H Q => td σ H fun x H1 => ty σ H1 fun y H2 => ∃ a v, x = .ref a /\ DGet H2 a y (some v) /\ Q v H2
def sDPut (td ty tv : TE) : TS := fun D σ H => tv σ H fun v H1 => td σ H1 fun x H2 => ty σ H2 fun y H3 => ∃ a H4, x = .ref a /\ DPut H3 a y v H4 /\ D.nx σ H4
section
variable {X : Cx} {o i e value : Expr} {pos pos' tpos : Pos} {td ty tv : TE}
theorem vL (hu : X.A.units + 1 < cLine) (ho : PE X o td) (hi : PE X i ty) (hs : NoSl i) : PE X (.Subscript o i pos) (tDGet td ty) := by
 intro pins s σ H Q I h
 refine subD_of PySem.F.slot_dict_getitem.lookup hs (thn (ho pins s σ H _ I h) fun u s1 ⟨x, H1, I1, rx, q1⟩ => thn (hi pins s1 σ H1 _ I1 q1) fun iv s2 ⟨y, H2, I2, ry, a, v, ex, g, q2⟩ => ?_)
 subst ex
 obtain rfl : u = Value.ref a := rx
 exact ⟨dict_typeIs I2 g, d_getItem hu I2 g ry fun w' s3 I3 rw' => ⟨v, H2, I3, rw', q2⟩⟩
theorem ps_dput (hu : X.A.units + 1 < cLine) (ho : PE X o td) (hi : PE X i ty) (hv : PE X value tv) (hs : swapsWith value (some (.Subscript o i pos')) pos.line X.env = pure false) :
   PS X (.Assign [.Subscript o i pos'] value pos) (sDPut td ty tv) := by
 intro pins s σ H D I h
 refine wpAny_Assign_Subscript (thn (hv pins s σ H _ I h) fun r s1 ⟨v, H1, I1, rv, q1⟩ => thn (ho pins s1 σ H1 _ I1 q1) fun u s2 ⟨x, H2, I2, rx, q2⟩ => thn (hi pins s2 σ H2 _ I2 q2) fun iv s3 ⟨y, H3, I3, ry, a, H4, ex, g, q3⟩ => ?_) hs
 subst ex
 obtain rfl : u = Value.ref a := rx
 exact d_setItem hu I3 g ry rv fun s4 I4 => ⟨σ, H4, I4, q3⟩
end
theorem dk_empty {P : Program} {w : World} {H : Hp} (h : Heap) (hb : sysModules < h.objs.size) : ObjOk P w H (h.push { cls := .type "dict", data := .dict #[] }) h.objs.size (.dK []) :=
 ⟨Nat.zero_le _, beq_eq_false_iff_ne.mpr (Ne.symm (Nat.ne_of_lt hb)), [], .nil, Heap.DictOf.new h⟩
def tDNewK : TE := fun _ H Q => ∀ p, H p = none -> Q (.ref p) (upd H p (.dK []))
section
variable {X : Cx} {pos : Pos}
theorem pe_dnewK : PE X (.Dict [] [] pos) tDNewK := fun pins s σ H Q I h =>
 wpAny_Dict_empty ⟨.ref s.heap.objs.size, _, I.laid (a := s.heap.objs.size) (o := .dK []) (t' := s.toks) (fun _ _ q => Heap.get?_push_of_some _ q) (Nat.le_refl _) (dk_empty s.heap I.big), rfl, h _ (I.hok.fresh (Nat.le_refl _))⟩
end
def tPairs : List (TE × TE) -> St -> Hp -> (List (V × V) -> Hp -> Prop) -> Prop
 | [], _, H, Q => Q [] H
 | (tk, tv) :: r, σ, H, Q => tk σ H fun x H1 => tv σ H1 fun y H2 => tPairs r σ H2 fun ps H3 => Q ((x, y) :: ps) H3
abbrev VV : List (V × V) -> List (Value × Value) -> Prop := Paired fun p q => RelV p.1 q.1 /\ RelV p.2 q.2
def PPs (X : Cx) (pos : Pos) (keys : List (Option Expr)) (values : List Expr) (trs : List (TE × TE)) : Prop :=
 ∀ (pins : List (Addr × Obj)) (s : Shared) (σ : St) (H : Hp) (Q : List (V × V) -> Hp -> Prop), Inv X pins σ H s -> tPairs trs σ H Q ->
   wpAny (model X.prog X.w) X.A (evalPairs (pairTrees keys values X.env pos)) (fun vs s' => ∃ ps H', Inv X pins σ H' s' /\ VV ps vs /\ Q ps H') X.xe s
def mergeK (kvs more : List (Key × V)) : List (Key × V) := more.foldl (fun acc kv => xP acc kv.1 kv.2) kvs
def tDisp (trs : List (TE × TE)) : TE := fun σ H Q => ∀ p, H p = none -> tPairs trs σ (upd H p (.dK [])) fun ps H2 => H2 p = some (.dK []) /\ ∃ kvs : List (Key × V), ps = kvs.map (fun kv => (kV kv.1, kv.2)) /\ kvs.length <= 15 /\ Q (.ref p) (upd H2 p (.dK (mergeK [] kvs)))
structure M1 (X : Cx) (o : Expr) (m : Str) (apos : Pos) (e : Expr) (cpos : Pos) : Prop where
 base : attributeBase o m X.env (eval o X.env) = eval o X.env
 few : ((backTo cpos (starEach [e] X.env)).all (fun x => !x.1) && (backToKw cpos (keywordEach [] X.env)).all (fun x => x.1.isSome)
   && decide (([e] : List Expr).length + ([] : List Keyword).length + (if ([] : List Keyword).isEmpty then 0 else 1) < 30)) = true
 line : (apos.endLine == cpos.line) = true
 trees : backTo cpos (starEach [e] X.env) = [(false, eval e X.env)]
structure M2 (X : Cx) (o : Expr) (m : Str) (apos : Pos) (e f : Expr) (cpos : Pos) : Prop where
 base : attributeBase o m X.env (eval o X.env) = eval o X.env
 few : ((backTo cpos (starEach [e, f] X.env)).all (fun x => !x.1) && (backToKw cpos (keywordEach [] X.env)).all (fun x => x.1.isSome)
   && decide (([e, f] : List Expr).length + ([] : List Keyword).length + (if ([] : List Keyword).isEmpty then 0 else 1) < 30)) = true
 line : (apos.endLine == cpos.line) = true
 trees : backTo cpos (starEach [e, f] X.env) = [(false, eval e X.env), (false, eval f X.env)]
section
variable {X : Cx} {pins : List (Addr × Obj)} {σ : St} {H : Hp} {s : Shared} {a : Addr} {y d : V} {u r : Value} {o : Option V} {A : Around} {E : Value -> Shared -> Prop}
end
section
variable {X : Cx} {o e f : Expr} {apos cpos : Pos} {td ty tx : TE}
end
section
variable {X : Cx} {pins : List (Addr × Obj)} {σ : St} {H : Hp} {s : Shared} {a : Addr} {kvs : List (Key × V)} {A : Around} {E : Value -> Shared -> Prop}
end
section
variable {X : Cx} {pins : List (Addr × Obj)} {σ : St} {H : Hp} {s : Shared} {a : Addr} {y : V} {u : Value} {A : Around} {E : Value -> Shared -> Prop}
end
end L2
namespace Att
open PySem PySem.W PySem.Calls PyProof.Rows
theorem qF {P : Params} {h : Heap} : ∀ (ns : List Int) (vs : List Value), WellAll P h vs (ns.map WData.int) -> IntsAre vs ns := by
 intro ns
 induction ns with
 | nil =>
   intro vs w
   rw [List.map_nil] at w
   cases w
   exact .nil
 | cons n ns ih =>
   intro vs w
   rw [List.map_cons] at w
   cases w with
   | cons a b =>
     cases a
     exact .cons _ _ (ih _ b)
theorem script_of {l : OpenLaw} {n : Nat} (hn : l.most = some n) {P : Params} {h : Heap} {args : List WData} {vals : List Value}
   (hpre : l.row.toRowW.claim.pre args = true) (hwl : WellAll P h vals args) :
   ∃ a vs ns, vals = [Value.ref a] /\ args = [WData.list (ns.map WData.int)] /\ h.get? a = some { cls := .type "list", data := .seq vs.toArray } /\ IntsAre vs ns /\ ns.length <= n := by
 have hsh : WShape.hasAll [] args [.list .int] = true := (pre_splitW hpre).1
 have hc : l.pre.holds [] { args := args } = true := (pre_splitW hpre).2
 obtain ⟨d, r, rfl, h1, h2⟩ := hasAllW_cons hsh
 obtain rfl := hasAllW_nil h2
 obtain ⟨xs, rfl, h3⟩ := hasW_list h1
 obtain ⟨ns, rfl⟩ := items_int h3
 have hlen : ns.length <= n := by
   unfold OpenLaw.pre at hc
   have h4 : (WTm.not (.lt (.lit (.int (n : Int))) (.len (.arg 0)))).holds [] { args := [.list (ns.map .int)] } = true := by
     have h4 := (holds_andW hc).1
     rw [hn] at h4
     exact h4
   have h5 := condW_of h4 (w_not (w_lt w_lit (w_len_list (w_arg rfl))))
   rw [List.length_map] at h5
   refine Nat.le_of_not_lt fun q => ?_
   have q' : (n : Int) < ((ns.length : Nat) : Int) := by omega
   first
     | (rw [decide_eq_true q'] at h5; exact absurd h5 (by decide))
     | (simp at h5; omega)
 cases hwl with
 | cons w1 w2 =>
   cases w2
   cases w1 with
   | list ho hall => exact ⟨_, _, ns, rfl, rfl, ho, qF ns _ hall, hlen⟩
theorem post_true (l : OpenLaw) (args : List WData) : l.row.toRowW.claim.post args (.bool true) args = true :=
 postW_of (r := l.row.toRowW) (X := (true == true))
   (show WShape.has [] (.bool true) .bool = true by first | rfl | decide | simp [WShape.has, WShape.arms, WShape.armsAll])
   (show (WTm.eq .res (.lit (.bool true))).value [] { args := args, res := some (.bool true), after := args } = some (.bool (true == true)) from w_eq_bool (w_res rfl) w_lit) rfl
theorem attach_call {l : OpenLaw} {n : Nat} {q : Program} {loose : List Str} {XP : (Str -> Option Value) -> Heap -> Prop} {YP : World -> Heap -> Prop} {d : DefRec}
   (hn : l.most = some n) (hdf : d.params.defaults = [])
   (call : ∀ (w : World) (s₀ s₁ : Shared) (mg mb : Str -> Option Value) (fa : Addr) (o : Obj) (pm cd doc : Value) (a : Addr) (vs : List Value) (ns : List Int),
     Ground q loose [] XP w s₀ mg mb s₁.heap -> YP w s₁.heap ->
     s₁.heap.get? fa = some o -> o.data = .func (docDef d.name d.params d.body d.scope pm cd doc) -> s₁.heap.CodeRec cd d.name -> mg d.name = some (.ref fa) ->
     s₁.heap.get? a = some { cls := .type "list", data := .seq vs.toArray } -> IntsAre vs ns -> ns.length <= n -> s₁.gens = #[] ->
     codeAny (model l.prog w) callerA (.call (.ref fa) ⟨[.ref a], []⟩) (fun r s' => r = .ok (.ret (.bool true)) /\ OldK s₁.heap s'.heap /\ s'.os = s₁.os /\ AllBare s'.gens) s₁) :
   WalkO q loose XP YP l.row.toRowW d [] (fun f vs => PySem.call f vs) := by
 intro w s₀ s₁ mg mb G Y fa o pm cd doc dV kV ho hd hcd hD hmg hg args vals as hpre hlay hrd hwl hlo
 obtain rfl : dV = .none := Dflts.none hD hdf
 obtain rfl : kV = .none := Dflts.noKw hD
 obtain ⟨a, vs, ns, rfl, rfl, hobj, hints, hlen⟩ := script_of hn hpre hwl
 refine enter_call (codeAny_mono (call w s₀ s₁ mg mb fa o pm cd doc a vs ns G Y ho (fd_plain hd) hcd hmg hobj hints hlen hg) fun r s' hq => ?_)
 obtain ⟨rfl, h2, h3, h4⟩ := hq
 exact ⟨.inl ⟨.bool true, .bool true, [], rfl, fun _ => rfl, .bool true, post_true l _, fun _ => ⟨List.Pairwise.nil, fun _ hm => (nomatch hm)⟩⟩, h2, h3, h4⟩
section
variable {prog : Program} {w : World} {A : Around} {E : Value -> Shared -> Prop} {s : Shared} {K : Frag}
end
end Att
namespace L2
open PySem PySem.Spec PyProof.Rows
theorem vals_ints : ∀ {vs : List Value} {ns : List Int}, IntsAre vs ns -> Vals (ns.map V.int) vs
 | _, _, .nil => .nil
 | _, _, .cons n t h => .cons ⟨t, rfl⟩ (vals_ints h)
def Only (H : Hp) : Prop := ∀ b, H b = none \/ ∃ o xs, H b = some (.frz o (.lst xs))
theorem law_call {P : Program} {w : World} {K : PySem.W.Frag} {mg mb : Str -> Option Value} {CX : CXT} {k : Nat} {fa a : Addr} {fd : FuncData} {x : Str} {sp : Sp} {s₁ : Shared} {vs : List Value} {ns : List Int}
   (KX : K.In s₁.heap) (hns : s₁.heap.Ns mainGlobals mg) (hb : s₁.heap.Ns builtinsNs mb) (hbb : ∀ x : Str, x ≠ "__name__" -> mb x = bootBuiltins x) (hlim : s₁.heap.NoLimit) (hg : s₁.gens = #[])
   (ha : s₁.heap.get? a = some { cls := .type "list", data := .seq vs.toArray }) (hi : IntsAre vs ns) (hl : ns.length <= sizeLine) (hr : Room k callerA)
   (F : ∀ base : Heap, K.In base -> base.Ns mainGlobals mg -> FnOk P w K mg base CX k fa fd [x] sp) (hbind : ∀ (s : Shared) (u : Value), BindsTo s fd ⟨[u], []⟩ [(x, u)])
   (hsp : ∀ H : Hp, Only H -> SqL K H a (ns.map V.int) -> sp [.ref a] H (fun v _ => v = .bl true) fun _ _ _ => False)
   (hCX : ∀ H e s', CX [] H s₁ (fun _ _ _ => False) e s' -> False) :
   codeAny (model P w) callerA (.call (.ref fa) ⟨[.ref a], []⟩) (fun r s' => r = .ok (.ret (.bool true)) /\ OldK s₁.heap s'.heap /\ s'.os = s₁.os /\ AllBare s'.gens) s₁ := by
 have rv := vals_ints hi
 have lenV := hi.length
 have core : ∀ H : Hp, Only H -> SqL K H a (ns.map V.int) -> HOk P w H s₁.heap -> (∀ b, H b ≠ none -> b = a) -> (H a ≠ none -> K.lookup a = none) ->
     codeAny (model P w) callerA (.call (.ref fa) ⟨[.ref a], []⟩) (fun r s' => r = .ok (.ret (.bool true)) /\ OldK s₁.heap s'.heap /\ s'.os = s₁.os /\ AllBare s'.gens) s₁ := by
   intro H hO hS hok hA hK
   have base_of : ∀ {b : Addr} {o : Obj}, s₁.heap.get? b = some o -> H b = none -> (vS s₁.heap H).get? b = some o := fun e n => hidT_get e n
   have noA : ∀ {b : Addr} {o : Obj} {es : Array DictEntry} {ep : Nat}, s₁.heap.get? b = some o -> o.data = .dict es ep -> H b = none := fun {b o es ep} e d => by
     cases q : H b with
     | none => rfl
     | some u =>
       have e' : b = a := hA b (by rw [q]; simp)
       subst e'
       rw [ha] at e; cases e
       have d' : Data.seq vs.toArray _ = Data.dict es ep := d
       cases d'
   have nsK : ∀ {b : Addr} {m : Str -> Option Value}, s₁.heap.Ns b m -> (vS s₁.heap H).Ns b m := fun {b m} ⟨o, es, ep, e, d, r⟩ => ⟨o, es, ep, base_of e (noA e d), d, r⟩
   have hKb : K.In (vS s₁.heap H) := fun b o e => base_of (KX b o e) (by
     cases q : H b with
     | none => rfl
     | some u =>
       have e' : b = a := hA b (by rw [q]; simp)
       subst e'
       rw [hK (by rw [q]; simp)] at e; cases e)
   have hM : Mod K mg (vS s₁.heap H) := ⟨hKb, nsK hns, ⟨mb, nsK hb, hbb⟩, let ⟨mc, h1, h2⟩ := hlim; ⟨mc, nsK h1, h2⟩⟩
   have e0 : Env0 P w K mg (vS s₁.heap H) callerA [] s₁ H := ⟨rfl, hM, fun b o e => of_hidT e, Nat.le_of_eq (hidT_size _ _), trivial, fun b hb => absurd (show b ∈ ([] : List Addr) from hb) (by simp), hok, .of_eq hg⟩
   refine codeAny_mono ((F _ hKb (nsK hns)).run callerA [] s₁ H ⟨[.ref a], []⟩ [.ref a] [.ref a] _ _ hr e0 (hbind s₁ (.ref a)) (.cons rfl .nil) (hsp H hO hS)) fun r s' h => ?_
   cases r with
   | error e => exact (hCX H e s' h).elim
   | ok fl =>
     cases fl with
     | next => exact False.elim h
     | brk => exact False.elim h
     | cont => exact False.elim h
     | ret u =>
       obtain ⟨v, H', os, bare, un, hok', r', q⟩ := h
       have q' : v = .bl true := q
       subst q'
       obtain rfl : u = Value.bool true := r'
       refine ⟨rfl, OldK.of_keep fun b o e => ?_, os, bare⟩
       cases q : H b with
       | none => exact un.keep b o e q (by intro z; exact absurd (show b ∈ ([] : List Addr) from z) (by simp)) (by simp)
       | some u =>
         rcases hO b with z | ⟨ob, xs, z⟩
         · rw [q] at z; cases z
         · have z2 := un.frzs b ob _ z
           obtain ⟨e1, _⟩ := hok b _ z
           obtain ⟨e2, _⟩ := hok' b _ z2
           rw [e] at e1; cases e1
           exact e2
 cases hk : K.lookup a with
 | some o =>
   have e := KX a o hk
   rw [ha] at e
   cases e
   refine core (fun _ => none) (fun _ => .inl rfl) (.inr ⟨_, vs.toArray, _, hk, rfl, rfl, rfl, by rw [List.size_toArray, lenV]; exact hl, by simpa using rv⟩) (fun b u z => by have z' : (none : Option HO) = some u := z; cases z') (fun b z => absurd rfl z) fun z => absurd rfl z
 | none =>
   refine core (fun b => if b = a then some (.frz { cls := .type "list", data := .seq vs.toArray } (.lst (ns.map V.int))) else none) (fun b => ?_) (.inl (.inr ⟨{ cls := .type "list", data := .seq vs.toArray }, if_pos rfl⟩)) (fun b u z => ?_) (fun b z => ?_) fun _ => hk
   · by_cases hb : b = a
     · exact .inr ⟨_, _, if_pos hb⟩
     · exact .inl (if_neg hb)
   · by_cases hb : b = a
     · have z' := (if_pos hb).symm.trans z
       cases z'
       subst hb
       exact ⟨ha, by rw [List.length_map]; exact hl, vs, _, rv, ha⟩
     · have z' := (if_neg hb).symm.trans z
       cases z'
   · by_cases hb : b = a
     · exact hb
     · exact absurd (if_neg hb) z
theorem walk_of {l : PySem.W.OpenLaw} {n k : Nat} {q : Program} {loose : List Str} {XP : (Str -> Option Value) -> Heap -> Prop} {YP : World -> Heap -> Prop} {d : DefRec} {K : Params -> PySem.W.Frag} {CX : World -> CXT} {sp : World -> Sp} {x : Str}
   (hn : l.most = some n) (hn2 : n <= sizeLine) (hdf : d.params.defaults = []) (hr : Room k callerA)
   (hY : ∀ (w : World) (h : Heap), YP w h -> (K w.params).In h)
   (F : ∀ (w : World) (mg : Str -> Option Value) (fa : Addr) (h : Heap), (K w.params).In h -> h.Ns mainGlobals mg -> mg d.name = some (.ref fa) ->
     ∃ fd : FuncData, (∀ (s : Shared) (u : Value), BindsTo s fd ⟨[u], []⟩ [(x, u)]) /\
       ∀ base : Heap, (K w.params).In base -> base.Ns mainGlobals mg -> FnOk l.prog w (K w.params) mg base (CX w) k fa fd [x] (sp w))
   (hsp : ∀ (w : World) (H : Hp) (a : Addr) (ns : List Int), ns.length <= n -> Only H -> SqL (K w.params) H a (ns.map V.int) -> sp w [.ref a] H (fun v _ => v = .bl true) fun _ _ _ => False)
   (hCX : ∀ (w : World) (H : Hp) (s : Shared) (e : Value) (s' : Shared), CX w [] H s (fun _ _ _ => False) e s' -> False) :
   PySem.W.WalkO q loose XP YP l.row.toRowW d [] (fun f vs => PySem.call f vs) := by
 refine Att.attach_call hn hdf fun w s₀ s₁ mg mb fa o pm cd doc a vs ns G Y ho hd hcd hmg hobj hints hlen hg => ?_
 have KX := hY w _ Y
 obtain ⟨fd, hb, hF⟩ := F w mg fa _ KX G.T.g hmg
 exact law_call KX G.T.g G.T.b G.T.builtins G.T.nolimit hg hobj hints (Nat.le_trans hlen hn2) hr hF hb (fun H hO hS => hsp w H a ns hlen hO hS) fun H e s' => hCX w H s₁ e s'
def zT (s : Stmt) : Arguments := match s with
 | .FunctionDef _ a _ _ _ _ _ _ _ _ => a
 | _ => { posonlyargs := [], args := [], vararg := none, kwonlyargs := [], kw_defaults := [], kwarg := none, defaults := [] }
def zQ (s : Stmt) : List Stmt := match s with
 | .FunctionDef _ _ b _ _ _ _ _ _ _ => b
 | _ => []
def zG (s : Stmt) : Scope := match s with
 | .FunctionDef _ _ _ _ _ _ sc _ _ _ => sc
 | _ => { kind := .function, names := [], isGenerator := false, isCoroutine := false }
abbrev CX0 : CXT := fun _ _ _ _ _ _ => False
abbrev E0 : XK := fun _ _ _ => False
theorem pass0 {X : Cx} : Passes CX0 X E0 := fun _ _ _ _ _ _ _ h => h.elim
structure Fun (K : PySem.W.Frag) (x qual : Str) (st : Stmt) (f : Addr) (fd : FuncData) : Prop where
 ex : ∃ (oc : Value) (od : Option Addr) (kV doc pm : Value) (an : Option Addr) (cdv ct : Value) (osl : Array (Option Value)),
   fd = PySem.W.fnOf x qual (zT st) (zQ st) (zG st) .none kV doc pm an cdv ct /\ K.lookup f = some ⟨oc, od, .func fd, osl⟩ /\ PySem.W.codeIn K cdv qual = true
 kp : PySem.W.keepIn K (.ref f) = true
section
variable {P : Program} {w : World} {K : PySem.W.Frag} {mg : Str -> Option Value} {base : Heap}
theorem Fun.ok {x qual : Str} {st : Stmt} {f : Addr} {fd : FuncData} {N ps : List Str} {k : Nat} {sp : Sp} (F : Fun K x qual st f fd) (S : FnScope N ps (zG st)) (len : ∀ vs H Q E, sp vs H Q E -> vs.length = ps.length)
   (hbody : ∀ (cdv : Value) (A : Around) (outer : List Env) (s : Shared) (H : Hp) (vs : List V) (Q : VK) (E : XK), Room k (A.deeper (envOfC qual (zG st) s.heap.objs.size f cdv)) -> sp vs H Q E ->
     ∃ t, PSs (xW CX0 P w K mg base N qual (zG st) f cdv A outer s H E).nox (zQ st) t /\ t { nx := fun _ H' => Q .non H', rt := Q } (start N vs) H) : FnOk P w K mg base CX0 (k + 1) f fd ps sp := by
 obtain ⟨oc, od, kV, doc, pm, an, cdv, ct, osl, rfl, lk, hcd⟩ := F.ex
 refine fn_of lk hcd S len fun A outer s H vs Q E hr hsp => ?_
 obtain ⟨t, h, q⟩ := hbody cdv A outer s H vs Q E hr hsp
 exact ⟨t, h.nox, q⟩
theorem Fun.binds {x qual : Str} {st : Stmt} {f : Addr} {fd : FuncData} {ps : List Str} (F : Fun K x qual st f fd)
   (h : ∀ (kV doc pm : Value) (an : Option Addr) (cdv ct : Value) (us : List Value), us.length = ps.length -> bindArgs (PySem.W.fnOf x qual (zT st) (zQ st) (zG st) .none kV doc pm an cdv ct) ⟨us, []⟩ = pure (ps.zip us)) : Binds K fd ps [] := by
 obtain ⟨oc, od, kV, doc, pm, an, cdv, ct, osl, rfl, lk, hcd⟩ := F.ex
 exact .all (h kV doc pm an cdv ct)
theorem yA {x qual : Str} {st : Stmt} {f : Addr} {oc : Value} {od an : Option Addr} {osl : Array (Option Value)} {kV doc pm cdv ct : Value} (l : K.lookup f = some ⟨oc, od, .func (PySem.W.fnOf x qual (zT st) (zQ st) (zG st) .none kV doc pm an cdv ct), osl⟩)
   (c : PySem.W.codeIn K cdv qual = true) (k : PySem.W.keepIn K (.ref f) = true) : Fun K x qual st f (PySem.W.fnOf x qual (zT st) (zQ st) (zG st) .none kV doc pm an cdv ct) := ⟨⟨oc, od, kV, doc, pm, an, cdv, ct, osl, rfl, l, c⟩, k⟩
end
theorem hu_of {A : Around} {k : Nat} (hr : Room k A) : A.units + 1 < cLine := Nat.lt_of_le_of_lt (Nat.add_le_add_left (by decide : 1 <= 64) _) hr.units
theorem jR {n : Nat} (h : n <= 1000) : n < sizeLine := Nat.lt_of_le_of_lt h (by decide)
section
variable {X : Cx}
theorem pv (i : Nat) {x : Str} {pos : Pos} (hN : X.N[i]? = some x := by rfl) (hv : Vis X.env.scope x := by first | exact Or.inl rfl | exact Or.inr (Or.inl rfl) | exact Or.inr (Or.inr rfl)) (hd : (x == ("__debug__" : Str)) = false := by decide)
   (hcd : (x == ("__classdict__" : Str)) = false := by decide) : PE X (.Name x pos) (tVar i) := pe_var hN hv hd hcd
end
def Same (H H' : Hp) : Prop := ∀ b o, H b = some o -> H' b = some o
theorem Same.refl (H : Hp) : Same H H := fun _ _ h => h
theorem Same.trans {H H1 H2 : Hp} (a : Same H H1) (b : Same H1 H2) : Same H H2 := fun c o h => b c o (a c o h)
theorem Same.free {H H' : Hp} (e : Same H H') {l : Addr} (h : H' l = Option.none) : H l = Option.none := by
 cases q : H l with
 | none => rfl
 | some o =>
   rw [e l o q] at h
   cases h
theorem Same.seq {K : PySem.W.Frag} {H H' : Hp} {a : Addr} {xs : List V} (e : Same H H') (h : SqL K H a xs) : SqL K H' a xs := by
 rcases h with (h | ⟨o, h⟩) | h
 · exact .inl (.inl (e _ _ h))
 · exact .inl (.inr ⟨o, e _ _ h⟩)
 · exact .inr h
section
variable {X : Cx}
end
section
variable {κ : Type} [DecidableEq κ]
end
def yT (env : Env) : List (Str × NameKind) -> List (Str × Addr) -> List (Str × Addr)
 | [], cs => cs
 | (n, k) :: r, cs => if (k == NameKind.free) = true then yT env r ((n, (env.cells.lookup n).getD 0) :: cs) else yT env r cs
theorem xY {scope : Scope} {env : Env} (h : ∀ x ∈ scope.names, x.2 = .free -> ∃ c, env.cells.lookup x.1 = some c) : closureFor scope env = pure (yT env scope.names []) := by
 unfold closureFor
 have go : ∀ (l : List (Str × NameKind)) (cs : List (Str × Addr)), (∀ x ∈ l, x.2 = .free -> ∃ c, env.cells.lookup x.1 = some c) ->
     (forIn l cs fun (x : Str × NameKind) (r : List (Str × Addr)) => (match x with
       | (name, kind) => if (kind == NameKind.free) = true then do let a ← cellOf env name; pure (ForInStep.yield ((name, a) :: r)) else pure (ForInStep.yield r) : Sem (ForInStep (List (Str × Addr))))) = (pure (yT env l cs) : Sem (List (Str × Addr))) := by
   intro l
   induction l with
   | nil => intro cs _; rfl
   | cons x r ih =>
     intro cs hl
     obtain ⟨n, k⟩ := x
     rw [List.forIn_cons]
     by_cases hk : (k == NameKind.free) = true
     · obtain ⟨c, hc⟩ := hl (n, k) List.mem_cons_self (by simpa using hk)
       have e : cellOf env n = pure c := by unfold cellOf; rw [hc]
       simp only [hk, if_true, e, pure_bind]
       rw [ih _ fun y hy => hl y (List.mem_cons_of_mem _ hy)]
       rw [yT, if_pos hk, hc]
       rfl
     · simp only [hk, if_false, Bool.false_eq_true, pure_bind]
       rw [ih _ fun y hy => hl y (List.mem_cons_of_mem _ hy)]
       rw [yT, if_neg hk]
 have q := go scope.names [] h
 simp only [pure_bind, bind_pure] at q ⊢
 exact q
theorem xK {env : Env} {y : Str} {c : Addr} : ∀ (l : List (Str × NameKind)) (cs : List (Str × Addr)), (∀ x ∈ l, x.2 = .free -> ∃ c, env.cells.lookup x.1 = some c) ->
   (∀ z d, cs.lookup z = some d -> env.cells.lookup z = some d) -> (yT env l cs).lookup y = some c -> env.cells.lookup y = some c
 | [], cs, _, hc, e => hc _ _ e
 | (n, k) :: r, cs, h, hc, e => by
   have hr : ∀ x ∈ r, x.2 = .free -> ∃ c, env.cells.lookup x.1 = some c := fun x hx => h x (List.mem_cons_of_mem _ hx)
   by_cases hk : (k == NameKind.free) = true
   · rw [yT, if_pos hk] at e
     refine xK r _ hr (fun z d ez => ?_) e
     obtain ⟨c', hc'⟩ := h (n, k) List.mem_cons_self (by simpa using hk)
     rw [List.lookup_cons] at ez
     cases hz : z == n with
     | true =>
       rw [hz] at ez
       have hz' : z = n := eq_of_beq hz
       subst hz'
       have e2 : (env.cells.lookup z).getD 0 = d := Option.some.inj ez
       have hc'' : env.cells.lookup z = some c' := hc'
       rw [hc''] at e2 ⊢
       exact congrArg some e2
     | false => rw [hz] at ez; exact hc z d ez
   · rw [yT, if_neg hk] at e
     exact xK r cs hr hc e
theorem xV {env : Env} {y : Str} : ∀ (l : List (Str × NameKind)) (cs : List (Str × Addr)), ((y, NameKind.free) ∈ l \/ ∃ c, cs.lookup y = some c) -> ∃ c, (yT env l cs).lookup y = some c
 | [], cs, h => h.elim (fun z => nomatch z) fun z => z
 | (n, k) :: r, cs, h => by
   by_cases hk : (k == NameKind.free) = true
   · rw [yT, if_pos hk]
     refine xV r _ ?_
     rcases h with h | ⟨c, h⟩
     · rcases List.mem_cons.mp h with h | h
       · cases h
         exact .inr ⟨_, by rw [List.lookup_cons, beq_self_eq_true]⟩
       · exact .inl h
     · cases hz : y == n with
       | true => exact .inr ⟨_, by rw [List.lookup_cons, hz]⟩
       | false => exact .inr ⟨c, by rw [List.lookup_cons, hz]; exact h⟩
   · rw [yT, if_neg hk]
     refine xV r _ ?_
     rcases h with h | h
     · rcases List.mem_cons.mp h with h | h
       · cases h
         exact absurd rfl hk
       · exact .inl h
     · exact .inr h
theorem xE {env : Env} : ∀ {names : List (Str × NameKind)} {x : Str} {k' : NameKind},
   (names.map fun (n, k) => if (k == NameKind.free && env.scope.kind == .function && env.kindOf n == some .cell) then (n, NameKind.cell) else (n, k)).lookup x = some k' ->
   names.lookup x = some k' \/ (names.lookup x = some .free /\ k' = .cell)
 | [], _, _, h => by simp at h
 | (n, k) :: r, x, k', h => by
   have ih := @xE env r x k'
   have h : List.lookup x ((if (k == NameKind.free && env.scope.kind == .function && env.kindOf n == some .cell) = true then (n, NameKind.cell) else (n, k)) :: _) = some k' := h
   rw [List.lookup_cons]
   by_cases hc : (k == NameKind.free && env.scope.kind == .function && env.kindOf n == some .cell) = true
   · rw [if_pos hc, List.lookup_cons] at h
     cases hx : x == n with
     | true =>
       rw [hx] at h
       have e1 : NameKind.cell = k' := Option.some.inj h
       simp only [Bool.and_eq_true] at hc
       exact .inr ⟨congrArg some (eq_of_beq hc.1.1), e1.symm⟩
     | false => rw [hx] at h; exact ih h
   · rw [if_neg hc, List.lookup_cons] at h
     cases hx : x == n with
     | true => rw [hx] at h; exact .inl h
     | false => rw [hx] at h; exact ih h
theorem jJ {env : Env} : ∀ {names : List (Str × NameKind)} {x : Str}, names.lookup x = some .free ->
   (names.map fun (n, k) => if (k == NameKind.free && env.scope.kind == .function && env.kindOf n == some .cell) then (n, NameKind.cell) else (n, k)).lookup x = some .cell \/
   (names.map fun (n, k) => if (k == NameKind.free && env.scope.kind == .function && env.kindOf n == some .cell) then (n, NameKind.cell) else (n, k)).lookup x = some .free
 | [], _, h => by simp at h
 | (n, k) :: r, x, h => by
   have ih := @jJ env r x
   show List.lookup x ((if (k == NameKind.free && env.scope.kind == .function && env.kindOf n == some .cell) = true then (n, NameKind.cell) else (n, k)) :: _) = _ \/ List.lookup x ((if (k == NameKind.free && env.scope.kind == .function && env.kindOf n == some .cell) = true then (n, NameKind.cell) else (n, k)) :: _) = _
   rw [List.lookup_cons] at h
   by_cases hc : (k == NameKind.free && env.scope.kind == .function && env.kindOf n == some .cell) = true
   · rw [if_pos hc, List.lookup_cons]
     cases hx : x == n with
     | true => exact .inl rfl
     | false => rw [hx] at h; exact ih h
   · rw [if_neg hc, List.lookup_cons]
     cases hx : x == n with
     | true => rw [hx] at h; exact .inr h
     | false => rw [hx] at h; exact ih h
structure LcScope (xs ys : List Str) (scope around : Scope) : Prop where
 kind : scope.kind = .function
 nd : (xs ++ ys).Nodup
 own : ∀ x ∈ xs, scope.names.lookup x = some .local
 cap : ∀ y ∈ ys, scope.names.lookup y = some .free /\ (around.names.lookup y = some .cell \/ around.names.lookup y = some .free)
 nocell : ∀ y ∈ scope.names, y.2 ≠ .cell
 names : ∀ y ∈ scope.names, y.2 = .local -> scope.names.lookup y.1 = some .local
 free : ∀ y ∈ scope.names, y.2 = .free -> y.1 ∈ ys
def yD (X : Cx) (xs ys : List Str) (scope : Scope) (C : Addr) (s₀ : Shared) (H₀ : Hp) (fp : List Addr) : Cx where
 prog := X.prog
 w := X.w
 K := X.K
 mg := X.mg
 base := X.base
 A := X.A
 N := xs ++ ys
 s₀ := s₀
 H₀ := H₀
 env := compEnvC scope (yT X.env scope.names []) C X.env
 outer := X.stack
 stack := X.stack
 ex := fp
 fn := fun _ => false
 calm := X.calm
 pn := []
 xe := fun _ _ => False
def lcSt (xs : List Str) (js : List Nat) (σ : St) : St := xs.map (fun _ => none) ++ js.map fun j => (σ[j]?).join
def LcW (J : It) (n : List Str) (js : List Nat) (g : TG) (tc : Option TT) (te : TE) (σ : St) (H1 : Hp) (Q : VK) : Prop := ∃ W : Nat -> Nat -> List V -> St -> Hp -> Prop, (∃ m, W 0 m [] (lcSt n js σ) H1) /\ ∀ i m ys σ1 H, W i m ys σ1 H ->
 (J.stop i H /\ ∀ p, H p = none -> Q (.ref p) (upd H p (.lst ys))) \/
 (J.go i H /\ ys.length < sizeLine /\ ∀ x H', J.yld i H x H' -> g x σ1 H' fun σ2 H2 => match tc with
   | none => te σ2 H2 fun y H3 => ∃ m', m' < m /\ W (i + 1) m' (ys ++ [y]) σ2 H3
   | some c => c σ2 H2 fun b H3 => if b = true then te σ2 H3 fun y H4 => ∃ m', m' < m /\ W (i + 1) m' (ys ++ [y]) σ2 H4 else ∃ m', m' < m /\ W (i + 1) m' ys σ2 H3)
def tLC (n : List Str) (js : List Nat) (wi : TI) (g : TG) (tc : Option TT) (te : TE) : TE := fun σ H Q => wi σ H fun J H1 => LcW J n js g tc te σ H1 Q
def PIf (X : Cx) (ifs : List Expr) (tc : Option TT) : Prop := match ifs, tc with
 | [], none => True
 | [c], some t => PT X c t
 | _, _ => False
section
variable {X : Cx} {pins : List (Addr × Obj)} {σ : St} {H : Hp} {s : Shared} {xs ys : List Str} {scope : Scope} {fp : List Addr} {C D : Addr} {js : List Nat}
def Caps (X : Cx) (ys : List Str) (js : List Nat) : Prop := js.length = ys.length /\ ∀ (i : Nat) (y : Str) (j : Nat), ys[i]? = some y -> js[i]? = some j -> X.N[j]? = some y
theorem vV (I : Inv X pins σ H s) (S : LcScope xs ys scope X.env.scope) : ∀ x ∈ scope.names, x.2 = .free -> ∃ c, X.env.cells.lookup x.1 = some c := fun x hx hf =>
 I.ok.has x.1 ((S.cap x.1 (S.free x hx hf)).2.elim .inl .inr)
theorem clos_look (I : Inv X pins σ H s) (S : LcScope xs ys scope X.env.scope) {y : Str} {c : Addr} (e : (yT X.env scope.names []).lookup y = some c) : X.env.cells.lookup y = some c :=
 xK scope.names [] (vV I S) (fun _ _ z => nomatch z) e
theorem block_start (I : Inv X pins σ H s) (S : LcScope xs ys scope X.env.scope) (hj : Caps X ys js) (f2 : ∀ b ∈ fp, FpOk X pins H b) (fo : ∀ b ∈ fp, b < s.heap.objs.size)
   {h₁ : Heap} {m : Str -> Option Value} {tk : Nat} {oD : Obj} (hC : s.heap.objs.size <= C) (hD : s.heap.objs.size <= D) (hDC : D ≠ C) (hn : h₁.Ns C m) (hd : h₁.get? D = some oD) (hdd : ∀ v, oD.data ≠ .cell v)
   (old : ∀ b o, s.heap.get? b = some o -> h₁.get? b = some o) :
   Inv (yD X xs ys scope C s H fp) [(D, oD)] (lcSt xs js σ) H { s with heap := h₁, toks := tk } := by
 have cl := fun y c => clos_look (y := y) (c := c) I S
 have nC : H C = none := I.hok.fresh hC
 have nD : H D = none := I.hok.fresh hD
 have lt_of : ∀ {b : Addr}, b < s.heap.objs.size -> b ≠ C := fun hb => Nat.ne_of_lt (Nat.lt_of_lt_of_le hb hC)
 have fsub : ∀ b, b ∈ frs X.stack -> b ∈ X.env.locals :: X.fs := I.stkSub
 refine ⟨⟨I.ok.mod, ?_, I.ok.glob, I.ok.blt, hC, fun x y c h1 h2 => I.ok.inj x y c (cl x c h1) (cl y c h2), fun x hx => ?_, (fun x c h => nomatch h), I.ok.hd, I.ok.frames, .inl rfl, fun b hb => ⟨lt_of (fo b hb), fun x c h => (f2 b hb).2.2.2.2.1 x c (cl x c h)⟩, I.bs,
   Nat.le_trans I.ok.bsz I.sz, fun b o e hb => ?_, fun b hb hf => ?_, I.stack, I.stkFree⟩,
   rfl, I.bare, Un.kept old, ⟨m, hn, fun i x v e1 e2 e3 => ?_⟩, fun x c h => ?_, nC, fun x c h => I.freeC x c (cl x c h), fun p hp => ?_, I.hok.kept old, ?_⟩
 · show scope.kind = _
   exact S.kind
 · have hx : (relabel scope X.env).names.lookup x = some .cell \/ (relabel scope X.env).names.lookup x = some .free := hx
   have hm : (x, NameKind.free) ∈ scope.names := by
     rcases hx with hx | hx
     · rcases xE hx with z | z
       · exact absurd rfl (S.nocell _ (PySem.mem_of_lookup z))
       · exact PySem.mem_of_lookup z.1
     · rcases xE hx with z | z
       · exact PySem.mem_of_lookup z
       · exact nomatch z.2
   exact xV scope.names [] (.inl hm)
 · rcases (f2 b hb).2.2.2.1 with z | z
   · exact I.ok.noex b o e z
   · exact absurd (Nat.lt_of_lt_of_le (Heap.lt_size e) (Nat.le_trans I.ok.bsz z)) (Nat.lt_irrefl _)
 · rcases List.mem_cons.mp (fsub b hf) with z | z
   · exact (f2 b hb).2.1 z
   · exact (f2 b hb).2.2.1 z
 · have e1 : (xs ++ ys)[i]? = some x := e1
   have e2 : (xs.map (fun _ => (none : Option V)) ++ js.map fun j => (σ[j]?).join)[i]? = some (some v) := e2
   by_cases hi : i < xs.length
   · rw [List.getElem?_append_left (by simpa using hi), List.getElem?_map] at e2
     cases q : xs[i]? with
     | none => rw [q] at e2; cases e2
     | some z => rw [q] at e2; cases e2
   · rw [List.getElem?_append_right (by simpa using hi), List.length_map, List.getElem?_map] at e2
     rw [List.getElem?_append_right (by simpa using hi)] at e1
     cases q : js[i - xs.length]? with
     | none => rw [q] at e2; cases e2
     | some j =>
       rw [q] at e2
       have e2' : (σ[j]?).join = some v := Option.some.inj e2
       have hy := hj.2 _ _ _ e1 q
       have hσ : σ[j]? = some (some v) := by
         cases z : σ[j]? with
         | none => rw [z] at e2'; cases e2'
         | some t => rw [z] at e2'; exact congrArg some e2'
       have ym : x ∈ ys := List.mem_of_getElem? e1
       obtain ⟨cf, ca⟩ := S.cap x ym
       obtain ⟨m0, _, hl⟩ := I.loc
       obtain ⟨u, ru, lk⟩ := hl j x v hy hσ (ca.elim (fun z => .inr (.inl z)) fun z => .inr (.inr z))
       refine ⟨u, ru, .inr ⟨?_, ?_⟩⟩
       · exact jJ (env := X.env) cf
       · rcases lk with ⟨k, _⟩ | ⟨_, c, ec, zc⟩
         · have k : X.env.scope.names.lookup x = some .local := k
           rcases ca with z | z <;> · rw [k] at z; cases z
         · obtain ⟨c', ec'⟩ := xV (env := X.env) (y := x) scope.names [] (.inl (PySem.mem_of_lookup cf))
           have e3 := cl x c' ec'
           rw [ec] at e3
           cases e3
           obtain ⟨o, ho, hod⟩ := zc
           exact ⟨_, ec', o, old _ _ ho, hod⟩
 · obtain ⟨v, o, ho, hod⟩ := I.cell x c (cl x c h)
   exact ⟨v, o, old _ _ ho, hod⟩
 · have hp : p ∈ [(D, oD)] := by simpa [yD] using hp
   have e := List.mem_singleton.mp hp
   subst e
   refine ⟨hd, nD, hDC, fun hf => ?_, hdd⟩
   have hf : D ∈ frs X.stack := hf
   obtain ⟨o, ho⟩ : ∃ o, s.heap.get? D = some o := by
     rcases List.mem_cons.mp (fsub D hf) with z | z
     · obtain ⟨m0, ⟨o, _, _, ho, _⟩, _⟩ := I.loc
       have z : D = X.env.locals := z
       exact ⟨o, z ▸ ho⟩
     · exact absurd z (I.nofs hD)
   exact absurd (Heap.lt_size ho) (Nat.not_lt.mpr hD)
 · show (xs.map (fun _ => (none : Option V)) ++ js.map fun j => (σ[j]?).join).length = (xs ++ ys).length
   rw [List.length_append, List.length_append, List.length_map, List.length_map, hj.1]
end
section
variable {X : Cx} {pins : List (Addr × Obj)} {σ : St} {H : Hp} {s : Shared} {xs ys : List Str} {scope : Scope} {js : List Nat} {tg iter elt : Expr} {ifs : List Expr} {pos : Pos} {wi : TI} {g : TG} {tc : Option TT} {te : TE}
theorem uL {α : Type} {M : Model} {A : Around} {t : Sem α} {Q : α -> Shared -> Prop} {E : Value -> Shared -> Prop} {s : Shared} (h : wpAny M A t Q (fun _ _ => False) s) : wpAny M A t Q E s := wpAny_mono h (fun _ _ x => x) fun _ _ z => z.elim
theorem vU {prog : Program} {w : World} {A : Around} {R : Result -> Shared -> Prop} {it acc : Value} {env : Env} (J : Nat -> Shared -> Prop)
   (turn : ∀ n s, J n s -> wpAny (model prog w) A (pyNext it) (fun r s₁ => match r with
     | none => R (.ok .next) s₁
     | some v => wpAny (model prog w) A (letOwnedTupleGo tg it v) (fun _ s₁' => wpAny (model prog w) A (assign tg env v) (fun _ s₂ =>
         wpAny (model prog w) A (forIn ifs true fun c r => if r = true then do let ok ← isTrue c env (eval c env); pure (ForInStep.yield ok) else pure (ForInStep.yield r)) (fun ok s₃ =>
           if ok = true then wpAny (model prog w) A (eval elt env) (fun x s₄ =>
             wpAny (model prog w) A (call (.builtin "list.append") [acc, x]) (fun _ s₅ => ∃ m, m < n /\ J m s₅) (fun _ _ => False) s₄) (fun _ _ => False) s₃
           else ∃ m, m < n /\ J m s₃) (fun _ _ => False) s₂) (fun _ _ => False) s₁') (fun _ _ => False) s₁) (fun _ _ => False) s)
   (n : Nat) (h : J n s) : codeAny (model prog w) A (.compLoop (.ListComp elt [⟨tg, iter, ifs, 0⟩] scope pos) 0 it acc env) R s := by
 refine codeAny_loop rfl J (fun n s hI => ?_) n h
 show wpAny _ A ((compTurn (.ListComp elt [⟨tg, iter, ifs, 0⟩] scope pos) 0 it acc env).onRaise (fun x => do noteFrame x env; theTreesLotGoes x)) _ _ s
 refine wpAny_noted ?_
 rw [compTurn_list]
 refine wpAny_bind (wpAny_standAt (wpAny_bind (uL (thn (turn n s hI) fun r s₁ h₁ => ?_))))
 cases r with
 | none => exact wpAny_pure h₁
 | some v =>
   refine wpAny_bind (uL (thn h₁ fun _ s₁' h₁' => wpAny_bind (uL (thn h₁' fun _ s₂ h₂ => wpAny_bind (uL (thn h₂ fun ok s₃ h₃ => ?_))))))
   cases ok with
   | false => exact wpAny_pure ⟨rfl, h₃⟩
   | true => exact wpAny_bind (wpAny_bind (uL (thn h₃ fun x s₄ h₄ => wpAny_bind (uL (thn h₄ fun _ s₅ h₅ => wpAny_pure (wpAny_pure ⟨rfl, h₅⟩))))))
structure LcEnd (X : Cx) (pins : List (Addr × Obj)) (σ : St) (C : Addr) (H' : Hp) (s' : Shared) : Prop where
 inv : Inv X pins σ H' s'
 ns : ∃ m, s'.heap.Ns C m
 free : H' C = none
 ne : C ≠ X.env.locals
 up : X.s₀.heap.objs.size <= C
 cells : ∀ x c, X.env.cells.lookup x = some c -> c ≠ C
 pin : ∀ p ∈ X.pn ++ pins, p.1 ≠ C
theorem LcEnd.gone {C : Addr} {H' : Hp} {s' : Shared} (L : LcEnd X pins σ C H' s') {h' : Heap} (hs : Heap.SameBut C s'.heap h') : Inv X pins σ H' { s' with heap := h' } :=
 L.inv.turned (t' := s'.toks) (fun b o hb e => hs.extBut b o hb e) L.free L.ne (.inr L.up) L.cells L.pin
theorem lc_core (hc : X.calm = true) (S : LcScope xs ys scope X.env.scope) (hj : Caps X ys js) (hi : PI X tg iter wi)
   (hg : ∀ C s₀ H₀ fp, PG (yD X xs ys scope C s₀ H₀ fp) tg g) (hif : ∀ C s₀ H₀ fp, PIf (yD X xs ys scope C s₀ H₀ fp) ifs tc) (he : ∀ C s₀ H₀ fp, PE (yD X xs ys scope C s₀ H₀ fp) elt te)
   {RR : Value -> Addr -> Result -> Shared -> Prop} {Q : VK} (I : Inv X pins σ H s) (h : tLC xs js wi g tc te σ H Q)
   (fin : ∀ D C H' s', LcEnd X pins σ C H' s' -> Q (.ref D) H' -> RR (.ref D) C (.ok .next) s') :
   wpAny (model X.prog X.w) X.A (eval iter X.env) (fun x s₁ => wpAny (model X.prog X.w) X.A (pyIter x) (fun it s₂ => wpAny (model X.prog X.w) X.A (newList []) (fun acc s₃ =>
     wpAny (model X.prog X.w) X.A (newFunctionEnv scope X.env.globals (yT X.env scope.names []) [] X.env.qual none .none (some X.env)) (fun cenv s₄ =>
       codeAny (model X.prog X.w) X.A (.compStart (.ListComp elt [⟨tg, iter, ifs, 0⟩] scope pos) 0 it acc { cenv with scope := relabel scope X.env }) (RR acc cenv.locals) s₄) X.xe s₃) X.xe s₂) X.xe s₁) X.xe s := by
 refine thn (hi pins s σ H _ I h) fun v s1 h1 => thn h1 fun itv s2 h2 => ?_
 obtain ⟨it, fp, tn, J, H2, e, I2, T, st2, f2, W, ⟨m0, w0⟩, turn⟩ := h2
 subst e
 have fo : ∀ b ∈ fp, b < s2.heap.objs.size := fun b hb => let ⟨o, e, _⟩ := T.obj _ _ st2 b hb; Heap.lt_size e
 refine wpAny_newObj_type (wpAny_newFunctionEnv S.nocell (by intro y hy; simp at hy) (fun h₁ hns₁ hsb₁ => ?_) S.kind)
 dsimp only at hns₁ hsb₁ ⊢
 generalize hH2 : s2.heap.push { cls := .type "list", dict := none, data := .seq ([] : List Value).toArray } = G at hns₁ hsb₁ ⊢
 have hC : G.objs.size = s2.heap.objs.size + 1 := by rw [← hH2, Heap.size_push]
 have hDC : s2.heap.objs.size ≠ G.objs.size := by rw [hC]; exact Nat.ne_of_lt (Nat.lt_succ_self _)
 have hCle : s2.heap.objs.size <= G.objs.size := by rw [hC]; exact Nat.le_succ _
 have below : ∀ b, b < s2.heap.objs.size -> b ≠ G.objs.size /\ b ≠ s2.heap.objs.size := fun b hb => ⟨by rw [hC]; exact Nat.ne_of_lt (Nat.lt_succ_of_lt hb), Nat.ne_of_lt hb⟩
 have old : ∀ b o, s2.heap.get? b = some o -> h₁.get? b = some o := fun b o e => hsb₁.extBut b o (below b (Heap.lt_size e)).1 (Heap.get?_push_of_some _ (hH2 ▸ Heap.get?_push_of_some _ e))
 have hacc : h₁.get? s2.heap.objs.size = some (LCg.lst []) := hsb₁.extBut _ _ hDC (Heap.get?_push_of_some _ (hH2 ▸ Heap.get?_push_size _ rfl))
 have st₁ : tn 0 h₁ := T.keep _ _ _ st2 fun b _ o e => old b o e
 have I3 := block_start (C := G.objs.size) (D := s2.heap.objs.size) (tk := s2.toks + ([] : List (Str × Value)).length) I2 S hj f2 fo hCle (Nat.le_refl _) hDC hns₁ hacc (by intro v hv; cases hv) old
 generalize hX : yD X xs ys scope G.objs.size s2 H2 fp = B at I3
 have pB : B.prog = X.prog := by rw [← hX]; rfl
 have wB : B.w = X.w := by rw [← hX]; rfl
 have kB : B.K = X.K := by rw [← hX]; rfl
 have aB : B.A = X.A := by rw [← hX]; rfl
 have eB : B.env = compEnvC scope (yT X.env scope.names []) G.objs.size X.env := by rw [← hX]; rfl
 have cB : B.calm = true := by rw [← hX]; exact hc
 have xB : B.xe = fun _ _ => False := by rw [← hX]; rfl
 have gB : PG B tg g := by rw [← hX]; exact hg _ _ _ _
 have iB : PIf B ifs tc := by rw [← hX]; exact hif _ _ _ _
 have elB : PE B elt te := by rw [← hX]; exact he _ _ _ _
 have sB : B.s₀ = s2 := by rw [← hX]; rfl
 have hB : B.H₀ = H2 := by rw [← hX]; rfl
 have fB : B.fs = frs X.stack := by rw [← hX]; rfl
 have exB : B.ex = fp := by rw [← hX]; rfl
 have pnB : B.pn = [] := by rw [← hX]; rfl
 have statB : ∀ {H' : Hp} {oD : Obj} {σ' : St} {s' : Shared}, Inv B [(s2.heap.objs.size, oD)] σ' H' s' -> (∀ b ∈ fp, H' b = none) -> ∀ b ∈ fp, FpOk B [(s2.heap.objs.size, oD)] H' b := fun {H' oD σ' s'} I' hn b hb =>
   ⟨hn b hb, (I'.ok.exf b (exB ▸ hb)).1, I'.ok.exfs b (exB ▸ hb), .inl (exB ▸ hb), (I'.ok.exf b (exB ▸ hb)).2, fun p hp => by
     rw [pnB] at hp
     have e := List.mem_singleton.mp (show p ∈ [(s2.heap.objs.size, oD)] from hp)
     subst e
     exact Nat.ne_of_gt (fo b hb)⟩
 have loop : ∀ s₃ : Shared, s₃ = { s2 with heap := h₁, toks := s2.toks + ([] : List (Str × Value)).length } ->
     codeAny (model X.prog X.w) X.A (.compLoop (.ListComp elt [⟨tg, iter, ifs, 0⟩] scope pos) 0 (.ref it) (.ref s2.heap.objs.size) (compEnvC scope (yT X.env scope.names []) G.objs.size X.env)) (RR (.ref s2.heap.objs.size) G.objs.size) s₃ := by
   rintro s₃ rfl
   refine vU (fun n s' => ∃ i ys its σ1 H', Inv B [(s2.heap.objs.size, LCg.lst its)] σ1 H' s' /\ Vals ys its /\ tn i s'.heap /\ (∀ b ∈ fp, H' b = none) /\ ys.length <= sizeLine /\ W i n ys σ1 H') ?_ m0
     ⟨0, [], [], _, H2, I3, .nil, st₁, fun b hb => (f2 b hb).1, Nat.zero_le _, w0⟩
   rintro n s' ⟨i, ys', its, σ1, H', I', rv, st', fr', hz, w'⟩
   have rl := rv.length
   rcases turn i n ys' σ1 H' w' with ⟨stop, qn⟩ | ⟨go, hz', step⟩
   · have q := T.done B pB wB kB cB i _ s' σ1 H' (fun _ _ => False) I' (statB I' fr') st' stop
     rw [aB] at q
     refine thn q fun r s4 ⟨hr, I4⟩ => ?_
     subst hr
     have pD := (I4.pin (s2.heap.objs.size, LCg.lst its) (List.mem_append_right _ List.mem_cons_self))
     have hDn : H' s2.heap.objs.size = none := pD.2.1
     have ub := I4.base
     rw [fB, exB, hB, sB] at ub
     have neD : ∀ {b : Addr} {o : HO}, H' b = some o -> b ≠ s2.heap.objs.size := fun e z => by rw [z, hDn] at e; cases e
     have upk : ∀ {b : Addr} {o : HO}, H' b = some o -> upd H' s2.heap.objs.size (.lst ys') b = some o := fun e => by rw [zU (neD e)]; exact e
     have u : Un (frs X.stack) fp H2 (upd H' s2.heap.objs.size (.lst ys')) s2.heap s4.heap :=
       ⟨ub.keep, ub.slot, fun b o e n hx => by rw [zU (below b (Heap.lt_size e)).2]; exact ub.free b o e n hx, ub.there, fun b zs e => upk (ub.tups b zs e), fun b o zs e => upk (ub.frzs b o zs e), fun b ps e => let ⟨more, q⟩ := ub.tbls b ps e; ⟨more, upk q⟩⟩
     have hok4 : HOk X.prog X.w H' s4.heap := by have := I4.hok; rw [pB, wB] at this; exact this
     have hok : HOk X.prog X.w (upd H' s2.heap.objs.size (.lst ys')) s4.heap := fun b o e => by
       by_cases hb : b = s2.heap.objs.size
       · subst hb
         rw [zC] at e
         cases e
         exact ⟨hz, its, its.length, rv, pD.1⟩
       · rw [zU hb] at e
         exact (hok4 b o e).stay (fun _ _ _ q => q) (fun _ q => upk q) fun _ _ q => upk q
     have I5 : Inv X pins σ (upd H' s2.heap.objs.size (.lst ys')) s4 := I2.call' (ch := fp) (by rw [I4.os, sB]) u hok I4.bare fun b hb => let f := f2 b hb; ⟨f.2.2.2.1, f.2.1, f.2.2.2.2.1, f.2.2.2.2.2⟩
     refine fin s2.heap.objs.size G.objs.size _ s4 ⟨I5, ?_, ?_, ?_, Nat.le_trans I2.sz hCle, fun x c e z => ?_, fun p hp z => ?_⟩ (qn _ hDn)
     · obtain ⟨m, hn, _⟩ := I4.loc
       rw [eB] at hn
       exact ⟨m, hn⟩
     · have fr := I4.free
       rw [eB] at fr
       rw [zU (Ne.symm hDC)]
       exact fr
     · exact Ne.symm (below _ I2.lt).1
     · obtain ⟨_, o, ho, _⟩ := I2.cell x c e
       exact (below c (Heap.lt_size ho)).1 z
     · exact (below p.1 (Heap.lt_size (I2.pin p hp).1)).1 z
   · have q := T.item B pB wB kB cB i _ s' σ1 H' (fun _ _ => False) I' (statB I' fr') st' go
     rw [aB] at q
     refine thn q fun r s4 ⟨u, hr, h4⟩ => ?_
     subst hr
     refine thn h4 fun _ s5 ⟨x, H5, I5, r5, y5, st5, fr5⟩ => ?_
     have I5' := I5.pinned (statB I5 fr5) (T.obj _ _ st5)
     have q5 := gB _ s5 σ1 H5 x u _ I5' r5 (step x H5 y5)
     rw [pB, wB, aB, eB, xB] at q5
     refine thn q5 fun _ s6 ⟨σ6, H6, I6, q6⟩ => ?_
     have last : ∀ {s7 : Shared} {H7 : Hp}, Inv B ([(s2.heap.objs.size, LCg.lst its)] ++ xF fp s5.heap) σ6 H7 s7 -> (te σ6 H7 fun y H8 => ∃ m', m' < n /\ W (i + 1) m' (ys' ++ [y]) σ6 H8) ->
         wpAny (model X.prog X.w) X.A (eval elt (compEnvC scope (yT X.env scope.names []) G.objs.size X.env)) (fun x s₄ =>
             wpAny (model X.prog X.w) X.A (call (.builtin "list.append") [.ref s2.heap.objs.size, x]) (fun _ s₅ => ∃ m, m < n /\
               ∃ i ys its σ1 H', Inv B [(s2.heap.objs.size, LCg.lst its)] σ1 H' s₅ /\ Vals ys its /\ tn i s₅.heap /\ (∀ b ∈ fp, H' b = none) /\ ys.length <= sizeLine /\ W i m ys σ1 H') (fun _ _ => False) s₄) (fun _ _ => False) s7 := fun {s7 H7} I7 q7 => by
       have q8 := elB _ s7 σ6 H7 _ I7 q7
       rw [pB, wB, aB, eB, xB] at q8
       refine thn q8 fun uy s8 ⟨y, H8, I8, r8, m', hm', w8⟩ => ?_
       have pD := (I8.pin (s2.heap.objs.size, LCg.lst its) (List.mem_append_right _ (List.mem_append_left _ List.mem_cons_self)))
       refine append_at (its := its.toArray) (n := its.length) pD.1 (fun h9 hs9 hd9 => ?_) (by rw [List.size_toArray, ← rl]; exact hz)
       have dropped : Inv B (xF fp s5.heap) σ6 H8 s8 := I8.pins_of fun p hp => I8.pin p (List.mem_append_right _ (List.mem_append_right _ hp))
       have apart : ∀ p ∈ B.pn ++ xF fp s5.heap, p.1 ≠ s2.heap.objs.size := fun p hp => by
         rw [pnB] at hp
         exact Nat.ne_of_lt (fo _ (uS (show p ∈ xF fp s5.heap from hp)).1)
       have I9 : Inv B (xF fp s5.heap) σ6 H8 { s8 with heap := h9 } := dropped.turned (t' := s8.toks) (fun b o hb e => hs9.extBut b o hb e) pD.2.1 pD.2.2.1 (.inr (by rw [sB]; exact Nat.le_refl _)) (fun x c e => by
         intro z
         obtain ⟨v, o, ho, hd⟩ := I8.cell x c e
         rw [z, pD.1] at ho
         cases ho
         cases hd) apart
       have I9' : Inv B [(s2.heap.objs.size, LCg.lst (its ++ [uy]))] σ6 H8 { s8 with heap := h9 } := I9.pins_of fun p hp => by
         have e := List.mem_singleton.mp hp
         subst e
         exact ⟨hd9.trans (congrArg some (LCg.lst_snoc its uy)), pD.2.1, pD.2.2.1, pD.2.2.2.1, by intro v hv; cases hv⟩
       refine ⟨m', hm', i + 1, ys' ++ [y], its ++ [uy], σ6, H8, I9', Vals.append rv (.cons r8 .nil), T.keep _ _ _ st5 fun b hb o e => ?_, fun b hb => ?_, by rw [List.length_append]; exact hz', w8⟩
       · exact (I9.pin (b, o) (List.mem_append_right _ (yU hb e))).1
       · obtain ⟨o, e, d⟩ := T.obj _ _ st5 b hb
         exact (I9.pin (b, o) (List.mem_append_right _ (yU hb e))).2.1
     have again : ∀ {s7 : Shared} {H7 : Hp}, Inv B ([(s2.heap.objs.size, LCg.lst its)] ++ xF fp s5.heap) σ6 H7 s7 -> (∃ m', m' < n /\ W (i + 1) m' ys' σ6 H7) -> ∃ m, m < n /\
         ∃ i ys its σ1 H', Inv B [(s2.heap.objs.size, LCg.lst its)] σ1 H' s7 /\ Vals ys its /\ tn i s7.heap /\ (∀ b ∈ fp, H' b = none) /\ ys.length <= sizeLine /\ W i m ys σ1 H' := fun {s7 H7} I7 ⟨m', hm', w7⟩ => by
       refine ⟨m', hm', i + 1, ys', its, σ6, H7, I7.unpinned, rv, T.keep _ _ _ st5 fun b hb o e => (I7.pin (b, o) (List.mem_append_right _ (List.mem_append_right _ (yU hb e)))).1, fun b hb => ?_, hz, w7⟩
       obtain ⟨o, e, d⟩ := T.obj _ _ st5 b hb
       exact (I7.pin (b, o) (List.mem_append_right _ (List.mem_append_right _ (yU hb e)))).2.1
     match ifs, tc, iB, q6 with
     | [], none, _, q6 =>
       refine wpAny_tests_nil ?_
       rw [if_pos rfl]
       exact last I6 q6
     | [c], some t, iB, q6 =>
       have iB : PT B c t := iB
       have q7 := iB _ s6 σ6 H6 _ I6 q6
       rw [pB, wB, aB, eB, xB] at q7
       refine wpAny_tests_one (thn q7 fun b s7 ⟨H7, I7, q7⟩ => ?_)
       cases b with
       | true => rw [if_pos rfl] at q7 ⊢; exact last I7 q7
       | false => rw [if_neg Bool.false_ne_true] at q7 ⊢; exact again I7 q7
 exact codeAny_compStart_list (loop _ rfl) (T.self _ 0 _ _ _ st₁ (loop _ rfl))
theorem pe_lc (hc : X.calm = true) (S : LcScope xs ys scope X.env.scope) (hj : Caps X ys js) (hi : PI X tg iter wi)
   (hg : ∀ C s₀ H₀ fp, PG (yD X xs ys scope C s₀ H₀ fp) tg g) (hif : ∀ C s₀ H₀ fp, PIf (yD X xs ys scope C s₀ H₀ fp) ifs tc) (he : ∀ C s₀ H₀ fp, PE (yD X xs ys scope C s₀ H₀ fp) elt te)
   (hs : ∀ x, foldedSetIterable iter X.env x = pure x := by intro _; rfl) : PE X (.ListComp elt [⟨tg, iter, ifs, 0⟩] scope pos) (tLC xs js wi g tc te) := by
 intro pins s σ H Q I h
 rw [eval_ListComp]
 refine wpAny_comprehension_free (use := none) rfl hs (xY (vV I S)) S.kind S.names ?_
 refine lc_core (RR := fun acc C => compPost (model X.prog X.w) X.A X.xe none (EP X pins σ Q) acc C) hc S hj hi hg hif he I h fun D C H' s' L q => ?_
 obtain ⟨m, hn⟩ := L.ns
 exact ⟨m, hn, fun h'' hs'' => ⟨.ref D, H', L.gone hs'', rfl, q⟩⟩
theorem ps_setLC {i : Nat} {x : Str} {p' p : Pos} (hN : X.N.Nodup) (hx : X.N[i]? = some x) (hl : X.env.scope.names.lookup x = some .local) (hc : X.calm = true) (S : LcScope xs ys scope X.env.scope) (hj : Caps X ys js) (hi : PI X tg iter wi)
   (hg : ∀ C s₀ H₀ fp, PG (yD X xs ys scope C s₀ H₀ fp) tg g) (hif : ∀ C s₀ H₀ fp, PIf (yD X xs ys scope C s₀ H₀ fp) ifs tc) (he : ∀ C s₀ H₀ fp, PE (yD X xs ys scope C s₀ H₀ fp) elt te)
   (hsw : swapsWith (.ListComp elt [⟨tg, iter, ifs, 0⟩] scope pos) (some (.Name x p')) p.line X.env = pure true := by rfl)
   (hs : ∀ x, foldedSetIterable iter X.env x = pure x := by intro _; rfl) : PS X (.Assign [.Name x p'] (.ListComp elt [⟨tg, iter, ifs, 0⟩] scope pos) p) (tAsg (tLC xs js wi g tc te) (gName i)) := by
 intro pins s σ H D I h
 rw [exec_Assign_Name_used _ _ _ _ hsw]
 refine wpAny_bind (wpAny_standAt (wpAny_bind ?_))
 show wpAny _ X.A (do let _ ← comprehension (.ListComp elt [⟨tg, iter, ifs, 0⟩] scope pos) scope X.env _ (newList []) false (eval iter X.env) (some (assign (.Name x p') X.env))) _ _ s
 refine wpAny_bind (wpAny_mono (wpAny_comprehension_free (use := some (assign (.Name x p') X.env)) (Q := fun _ s' => SP X pins D .next s') rfl hs (xY (vV I S)) S.kind S.names ?_) (fun _ s' hq => wpAny_pure (wpAny_pure hq)) fun _ _ e => e)
 refine lc_core (Q := fun v H' => gName i v σ H' D.nx) (RR := fun acc C => compPost (model X.prog X.w) X.A X.xe (some (assign (.Name x p') X.env)) (fun _ s' => SP X pins D .next s') acc C) hc S hj hi hg hif he I h fun A C H' s' L q => ?_
 show wpAny _ X.A (assign (.Name x p') X.env (.ref A)) _ _ _
 refine wpAny_assign_Name (uQ (v := .ref A) L.inv hN hx (.inl hl) rfl (fun s'' I'' ⟨a, sb, ha⟩ => ?_) (.inr hl))
 have cne : ∀ {b : Addr}, (b = X.env.locals \/ X.env.cells.lookup x = some b) -> C ≠ b := fun z e => by
   rcases z with z | z
   · exact L.ne (e.trans z)
   · exact L.cells x _ z e.symm
 obtain ⟨m, hn⟩ := L.ns
 refine ⟨m, hn.sameBut sb (cne ha), fun h'' hs'' => ⟨_, _, ?_, q⟩⟩
 exact LcEnd.gone ⟨I'', ⟨m, hn.sameBut sb (cne ha)⟩, L.free, L.ne, L.up, L.cells, L.pin⟩ hs''
end
def Its (x : Str) : It := ⟨fun i _ => i < x.cps.size, fun i H v H' => H' = H /\ ∃ c, x.cps[i]? = some c /\ v = .str ⟨#[c]⟩, fun i _ => x.cps.size <= i⟩
section
variable {X : Cx} {tg : Expr}
def iStr (tl : TE) : TI := fun σ H R => tl σ H fun x H1 => ∃ z, x = .str z /\ R (Its z) H1
end
def rSlS : V -> Option Int -> Option Int -> Hp -> VK -> Prop := fun x lo hi H Q => ∃ z, x = .str z /\ z.length <= sizeLine /\ Q (.str (Txt.slice z lo hi)) H
section
variable {X : Cx}
theorem call_all : yZ X (.builtin "all") (fun xs H Q => X.calm = true /\ ∃ (p : Addr) (bs : List Bool), xs = [.ref p] /\ SqL X.K H p (bs.map V.bl) /\ Q (.bl (bs.all id)) H) := by
 intro pins s σ H xs us Q I r h
 obtain ⟨hc, p, bs, rfl, hp, q⟩ := h
 obtain ⟨u, rfl, ru⟩ := xN r
 cases ru
 obtain ⟨its, rv, hl, hz⟩ := I.list hp
 have hlt : p < s.heap.objs.size := by obtain ⟨_, e, _⟩ := hl.isList; exact Heap.lt_size e
 have hlen := rv.length
 rw [List.length_map] at hlen
 refine call_all_walk (wpAny_pyIter_list hl.isList ?_)
 refine ⟨_, _, _, _, _, _, fun i => bs.getD i false, rfl, Walks.list (A := X.A.in1) (I.ok.hd hc) s.heap.objs.size p (Nat.ne_of_lt hlt) its.toArray, ⟨⟨_, Heap.get?_push_size _ rfl, rfl, rfl⟩, hl.isList.push _⟩, fun i v s' Q' E' hv q' => ?_, fun h' tk k => ?_⟩
 · have hv : its[i]? = some v := by simpa using hv
   have hi : i < bs.length := by
     have := (List.getElem?_eq_some_iff.mp hv).1
     omega
   obtain ⟨u', hu', ru'⟩ := rv.get (i := i) (x := .bl bs[i]) (by rw [List.getElem?_map, List.getElem?_eq_getElem hi]; rfl)
   rw [hv] at hu'
   cases hu'
   have e : v = Value.bool bs[i] := ru'
   subst e
   refine wpAny_truthy_bool ?_
   have e2 : bs.getD i false = bs[i] := by rw [List.getD_eq_getElem?_getD, List.getElem?_eq_getElem hi]; rfl
   rw [← e2]
   exact q'
 · refine ⟨.bl (bs.all id), H, ?_, ?_, q⟩
   · exact I.kept (h' := h') (t' := tk) fun b o e => k b o (by intro hm; have := List.mem_singleton.mp hm; exact absurd (this ▸ Heap.lt_size e) (Nat.lt_irrefl _)) (Heap.get?_push_of_some _ e)
   · have e : (List.range its.toArray.size).all (fun i => bs.getD i false) = bs.all id := by
       rw [List.size_toArray, ← hlen]
       rw [Bool.eq_iff_iff, List.all_eq_true, List.all_eq_true]
       constructor
       · intro a b hb
         obtain ⟨i, hi, rfl⟩ := List.getElem_of_mem hb
         have := a i (List.mem_range.mpr hi)
         rw [List.getD_eq_getElem?_getD, List.getElem?_eq_getElem hi] at this
         exact this
       · intro a i hi
         have hi := List.mem_range.mp hi
         rw [List.getD_eq_getElem?_getD, List.getElem?_eq_getElem hi]
         exact a _ (List.getElem_mem hi)
     show Value.bool _ = _
     rw [e]
theorem call_isi {T : String} : yZ X (.builtin "isinstance") (fun xs H Q => ∃ x t b, xs = [x, .ty T] /\ TyOf X.K H x t /\ PySem.W.kitOne X.K t (.type T) = some b /\ Q (.bl b) H) := by
 intro pins s σ H xs us Q I r h
 obtain ⟨x, t, b, rfl, ty, e, q⟩ := h
 obtain ⟨u, w', rfl, ru, rw'⟩ := vals2 r
 cases rw'
 exact isinst_ok I ru ty e fun tk => ⟨.bl b, H, I.tok tk, rfl, q⟩
theorem strsAre_of : ∀ {ys : List Str} {us : List Value}, Vals (ys.map V.str) us -> StrsAre us ys
 | [], us, r => by
   rw [List.map_nil] at r
   cases r
   exact .nil
 | y :: ys, us, r => by
   rw [List.map_cons] at r
   cases r with
   | @cons a b as bs h t =>
     obtain ⟨tk, hb⟩ := (show ∃ tk, b = Value.str y tk from h)
     subst hb
     exact .cons y tk (strsAre_of t)
theorem mt_join : MtR X "str.join" (fun x xs H Q => ∃ (z : Str) (p : Addr) (ys : List Str), x = .str z /\ xs = [.ref p] /\ SqL X.K H p (ys.map V.str) /\ (ys.map (·.length)).sum + ys.length * z.length <= 16777216 /\ Q (.str (Txt.join z ys)) H) := by
 intro pins s σ H x xs v us Q I rx rs h
 obtain ⟨z, p, ys, rfl, rfl, hp, hb, q⟩ := h
 obtain ⟨tz, rfl⟩ := rx
 obtain ⟨u, rfl, ru⟩ := xN rs
 cases ru
 obtain ⟨its, rv, hl, hz⟩ := I.list hp
 exact join_list hl.isList (strsAre_of rv) hb fun t' k => ⟨.str (Txt.join z ys), H, I.tok k, ⟨t', rfl⟩, q⟩
end
structure Has (P : Program) (w : World) (K : PySem.W.Frag) (mg : Str -> Option Value) (base : Heap) (k : Nat) (x : Str) (ps : List Str) (sp : Sp) : Prop where
 ex : ∃ f fd, FnOk P w K mg base CX0 k f fd ps sp /\ Binds K fd ps [] /\ PySem.W.keepIn K (.ref f) = true /\ mg x = some (.ref f)
def Gc (mg : Str -> Option Value) (x : Str) (v : V) : Prop := ∃ u, mg x = some u /\ RelV v u
section
variable {X : Cx} {k : Nat} {x : Str} {ps : List Str} {sp : Sp} {p pos : Pos} {e : Expr} {es : List Expr} {t : TA} {v : V}
theorem zK (h : Has X.prog X.w X.K X.mg X.base k x ps sp) (hr : Room k X.A) (hg : Gl X x) (ha : PA X (e :: es) t) (hdb : (x == ("__debug__" : Str)) = false := by decide)
   (he : starEach (e :: es) X.env = (false, eval e X.env) :: starEach es X.env := by rfl) (hpl : (backTo pos (starEach es X.env)).any (·.1) = false := by rfl) : PE X (.Call (.Name x p) (e :: es) [] pos) (tCall sp [] E0 t) := by
 obtain ⟨f, fd, F, b, kp, m⟩ := h.ex
 exact pe_call F hr hg m kp b .nil pass0 ha hdb he hpl
theorem pe_gc (h : Gc X.mg x v) (hg : Gl X x) (hd : (x == ("__debug__" : Str)) = false := by decide) : PE X (.Name x pos) (tC v) := by
 obtain ⟨u, m, r⟩ := h
 exact pe_glob hg m r hd
theorem pe_ty {T : String} (hm : X.mg x = none) (hv : bootBuiltins x = some (.type T)) (hg : Gl X x) (hn : x ≠ "__name__" := by decide) (hd : (x == ("__debug__" : Str)) = false := by decide) : PE X (.Name x pos) (tC (.ty T)) :=
 pe_bltn hg hm hv rfl hn hd
end
theorem yI {X : Cx} : PIf X [] none := trivial
theorem pif_one {X : Cx} {c : Expr} {t : TT} (h : PT X c t) : PIf X [c] (some t) := h
def lcOk (xs ys : List Str) (scope around : Scope) : Bool :=
 (scope.kind == .function) && decide (xs ++ ys).Nodup && xs.all (fun x => scope.names.lookup x == some .local) &&
 ys.all (fun y => (scope.names.lookup y == some .free) && ((around.names.lookup y == some .cell) || (around.names.lookup y == some .free))) &&
 scope.names.all (fun y => (y.2 != .cell) && ((y.2 != .local) || (scope.names.lookup y.1 == some .local)) && ((y.2 != .free) || ys.contains y.1))
theorem lcOk.scope {xs ys : List Str} {scope around : Scope} (h : lcOk xs ys scope around = true) : LcScope xs ys scope around := by
 unfold lcOk at h
 simp only [Bool.and_eq_true, beq_iff_eq, decide_eq_true_eq, List.all_eq_true, Bool.or_eq_true, bne_iff_ne, List.contains_iff_mem] at h
 obtain ⟨⟨⟨⟨h1, h2⟩, h3⟩, h4⟩, h5⟩ := h
 exact ⟨h1, h2, h3, h4, fun y hy => (h5 y hy).1.1, fun y hy hl => (h5 y hy).1.2.resolve_left (fun z => z hl), fun y hy hf => (h5 y hy).2.resolve_left (fun z => z hf)⟩
def capOk (N ys : List Str) (js : List Nat) : Bool := (js.length == ys.length) && (ys.zip js).all fun p => N[p.2]? == some p.1
theorem capOk.caps {X : Cx} {ys : List Str} {js : List Nat} (h : capOk X.N ys js = true) : Caps X ys js := by
 unfold capOk at h
 simp only [Bool.and_eq_true, beq_iff_eq, List.all_eq_true] at h
 refine ⟨h.1, fun i y j hy hj => ?_⟩
 refine h.2 (y, j) (List.mem_of_getElem? (i := i) ?_)
 rw [List.getElem?_zip_eq_some]
 exact ⟨hy, hj⟩
section
variable {X : Cx} {xs ys : List Str} {scope : Scope} {js : List Nat} {tg iter elt : Expr} {ifs : List Expr} {pos : Pos} {wi : TI} {g : TG} {tc : Option TT} {te : TE}
theorem yP (xs ys : List Str) (js : List Nat) (hi : PI X tg iter wi)
   (hg : ∀ C s₀ H₀ fp, (xs ++ ys).Nodup -> PG (yD X xs ys scope C s₀ H₀ fp) tg g) (hif : ∀ C s₀ H₀ fp, PIf (yD X xs ys scope C s₀ H₀ fp) ifs tc) (he : ∀ C s₀ H₀ fp, PE (yD X xs ys scope C s₀ H₀ fp) elt te)
   (hc : X.calm = true := by rfl) (S : lcOk xs ys scope X.env.scope = true := by rfl) (hj : capOk X.N ys js = true := by rfl)
   (hs : ∀ x, foldedSetIterable iter X.env x = pure x := by intro _; rfl) : PE X (.ListComp elt [⟨tg, iter, ifs, 0⟩] scope pos) (tLC xs js wi g tc te) :=
 pe_lc hc (lcOk.scope S) (capOk.caps hj) hi (fun C s₀ H₀ fp => hg C s₀ H₀ fp (lcOk.scope S).nd) hif he hs
theorem qI {i : Nat} {x : Str} {p' p : Pos} (xs ys : List Str) (js : List Nat) (hN : X.N.Nodup) (hx : X.N[i]? = some x) (hi : PI X tg iter wi)
   (hg : ∀ C s₀ H₀ fp, (xs ++ ys).Nodup -> PG (yD X xs ys scope C s₀ H₀ fp) tg g) (hif : ∀ C s₀ H₀ fp, PIf (yD X xs ys scope C s₀ H₀ fp) ifs tc) (he : ∀ C s₀ H₀ fp, PE (yD X xs ys scope C s₀ H₀ fp) elt te)
   (hl : X.env.scope.names.lookup x = some .local := by rfl) (hc : X.calm = true := by rfl) (S : lcOk xs ys scope X.env.scope = true := by rfl) (hj : capOk X.N ys js = true := by rfl)
   (hsw : swapsWith (.ListComp elt [⟨tg, iter, ifs, 0⟩] scope pos) (some (.Name x p')) p.line X.env = pure true := by rfl)
   (hs : ∀ x, foldedSetIterable iter X.env x = pure x := by intro _; rfl) : PS X (.Assign [.Name x p'] (.ListComp elt [⟨tg, iter, ifs, 0⟩] scope pos) p) (tAsg (tLC xs js wi g tc te) (gName i)) :=
 ps_setLC hN hx hl hc (lcOk.scope S) (capOk.caps hj) hi (fun C s₀ H₀ fp => hg C s₀ H₀ fp (lcOk.scope S).nd) hif he hsw hs
end
theorem bt_len : bootBuiltins "len" = some (.builtin "len") := by decide +kernel
theorem bt_isinstance : bootBuiltins "isinstance" = some (.builtin "isinstance") := by decide +kernel
theorem bt_all : bootBuiltins "all" = some (.builtin "all") := by decide +kernel
theorem bt_sorted : bootBuiltins "sorted" = some (.builtin "sorted") := by decide +kernel
theorem bt_tuple : bootBuiltins "tuple" = some (.type "tuple") := by decide +kernel
theorem bt_list : bootBuiltins "list" = some (.type "list") := by decide +kernel
theorem bt_set : bootBuiltins "set" = some (.type "set") := by decide +kernel
theorem bt_int : bootBuiltins "int" = some (.type "int") := by decide +kernel
theorem bt_bool : bootBuiltins "bool" = some (.type "bool") := by decide +kernel
theorem bt_dict : bootBuiltins "dict" = some (.type "dict") := by decide +kernel
theorem cx_K {CX : CXT} {P : Program} {w : World} {K : PySem.W.Frag} {mg : Str -> Option Value} {base : Heap} {N : List Str} {qual : Str} {scope : Scope} {f : Addr} {cd : Value} {A : Around} {outer : List Env} {s : Shared} {H : Hp} {E : XK} : (xW CX P w K mg base N qual scope f cd A outer s H E).K = K := rfl
theorem cx_calm {CX : CXT} {P : Program} {w : World} {K : PySem.W.Frag} {mg : Str -> Option Value} {base : Heap} {N : List Str} {qual : Str} {scope : Scope} {f : Addr} {cd : Value} {A : Around} {outer : List Env} {s : Shared} {H : Hp} {E : XK} : (xW CX P w K mg base N qual scope f cd A outer s H E).calm = true := rfl
theorem bk_calm {X : Cx} {xs ys : List Str} {scope : Scope} {C : Addr} {s₀ : Shared} {H₀ : Hp} {fp : List Addr} : (yD X xs ys scope C s₀ H₀ fp).calm = X.calm := rfl
theorem lenV_str {K : PySem.W.Frag} {y : Str} {H : Hp} {n : Nat} : LenV K (.str y) H n ↔ (y.length <= sizeLine /\ n = y.length) := Iff.rfl
theorem bk_K {X : Cx} {xs ys : List Str} {scope : Scope} {C : Addr} {s₀ : Shared} {H₀ : Hp} {fp : List Addr} : (yD X xs ys scope C s₀ H₀ fp).K = X.K := rfl
theorem lc_by {J : It} {n : Nat} {ns : List Str} {js : List Nat} {g : TG} {te : TE} {σ : St} {H : Hp} {Q : VK} (Pv : Nat -> List V -> St -> Hp -> Prop) (h0 : Pv 0 [] (lcSt ns js σ) H) (hn : n <= sizeLine) (hl : ∀ i ys σ H, Pv i ys σ H -> ys.length <= i)
   (hgo : ∀ i ys σ H, i < n -> Pv i ys σ H -> J.go i H) (hst : ∀ ys σ H, Pv n ys σ H -> J.stop n H)
   (hs : ∀ i ys σ H x H' (C : V -> St -> Hp -> Prop), i < n -> Pv i ys σ H -> J.yld i H x H' -> (∀ y σ2 H3, Pv (i + 1) (ys ++ [y]) σ2 H3 -> C y σ2 H3) -> g x σ H' fun σ2 H2 => te σ2 H2 fun y H3 => C y σ2 H3)
   (hd : ∀ ys σ H, Pv n ys σ H -> ∀ p, H p = none -> Q (.ref p) (upd H p (.lst ys))) :
   LcW J ns js g none te σ H Q := by
 refine ⟨fun i m ys σ H => i + m = n /\ Pv i ys σ H, ⟨n, by omega, h0⟩, fun i m ys σ H ⟨e, w⟩ => ?_⟩
 by_cases hi : i < n
 · refine .inr ⟨hgo i ys σ H hi w, Nat.lt_of_le_of_lt (hl _ _ _ _ w) (by omega), fun x H' hy => ?_⟩
   exact hs i ys σ H x H' (fun y σ2 H3 => ∃ m', m' < m /\ i + 1 + m' = n /\ Pv (i + 1) (ys ++ [y]) σ2 H3) hi w hy fun y σ2 H3 q => ⟨m - 1, by omega, by omega, q⟩
 · have : i = n := by omega
   subst this
   exact .inl ⟨hst ys σ H w, hd ys σ H w⟩
theorem lc_range {lo : Int} {n : Nat} {ns : List Str} {js : List Nat} {g : TG} {te : TE} {σ : St} {H : Hp} {Q : VK} (Pv : Nat -> List V -> St -> Hp -> Prop) (h0 : Pv 0 [] (lcSt ns js σ) H) (hz : n <= sizeLine) (hl : ∀ i ys σ H, Pv i ys σ H -> ys.length <= i)
   (hs : ∀ (i : Nat) ys σ H (C : V -> St -> Hp -> Prop), i < n -> Pv i ys σ H -> (∀ y σ2 H3, Pv (i + 1) (ys ++ [y]) σ2 H3 -> C y σ2 H3) -> g (.int (lo + i)) σ H fun σ2 H2 => te σ2 H2 fun y H3 => C y σ2 H3)
   (hd : ∀ ys σ H, Pv n ys σ H -> ∀ p, H p = none -> Q (.ref p) (upd H p (.lst ys))) :
   LcW (Itr lo n) ns js g none te σ H Q :=
 lc_by (n := n) Pv h0 hz hl (fun _ _ _ _ h _ => h) (fun _ _ _ _ => Nat.le_refl _) (fun i ys σ H x H' C hi w ⟨e, hx⟩ hC => by subst e; subst hx; exact hs i ys σ _ C hi w hC) hd
theorem lc_tup {K : PySem.W.Frag} {a : Addr} {xs : List V} {ns : List Str} {js : List Nat} {g : TG} {te : TE} {σ : St} {H : Hp} {Q : VK} (Pv : Nat -> List V -> St -> Hp -> Prop) (h0 : Pv 0 [] (lcSt ns js σ) H) (hz : xs.length <= sizeLine) (hl : ∀ i ys σ H, Pv i ys σ H -> ys.length <= i)
   (hK : ∀ i ys σ H, Pv i ys σ H -> SqT K H a xs)
   (hs : ∀ (i : Nat) x ys σ H (C : V -> St -> Hp -> Prop), xs[i]? = some x -> Pv i ys σ H -> (∀ y σ2 H3, Pv (i + 1) (ys ++ [y]) σ2 H3 -> C y σ2 H3) -> g x σ H fun σ2 H2 => te σ2 H2 fun y H3 => C y σ2 H3)
   (hd : ∀ ys σ H, Pv xs.length ys σ H -> ∀ p, H p = none -> Q (.ref p) (upd H p (.lst ys))) :
   LcW (Itt K a) ns js g none te σ H Q :=
 lc_by (n := xs.length) Pv h0 hz hl (fun i ys σ H hi w => ⟨xs, xs[i], hK i ys σ H w, List.getElem?_eq_getElem hi⟩) (fun ys σ H w => ⟨xs, hK _ ys σ H w, Nat.le_refl _⟩)
   (fun i ys σ H x H' C hi w ⟨e, hx⟩ hC => by subst e; exact hs i x ys σ _ C (hx xs (hK i ys σ _ w)) w hC) hd
theorem yS {K : PySem.W.Frag} {a : Addr} {xs : List V} {ns : List Str} {js : List Nat} {g : TG} {te : TE} {σ : St} {H : Hp} {Q : VK} (Pv : Nat -> List V -> St -> Hp -> Prop) (h0 : Pv 0 [] (lcSt ns js σ) H) (hz : xs.length <= sizeLine) (hl : ∀ i ys σ H, Pv i ys σ H -> ys.length <= i)
   (hK : ∀ i ys σ H, Pv i ys σ H -> SqL K H a xs)
   (hs : ∀ (i : Nat) x ys σ H (C : V -> St -> Hp -> Prop), xs[i]? = some x -> Pv i ys σ H -> (∀ y σ2 H3, Pv (i + 1) (ys ++ [y]) σ2 H3 -> C y σ2 H3) -> g x σ H fun σ2 H2 => te σ2 H2 fun y H3 => C y σ2 H3)
   (hd : ∀ ys σ H, Pv xs.length ys σ H -> ∀ p, H p = none -> Q (.ref p) (upd H p (.lst ys))) :
   LcW (Itl K a) ns js g none te σ H Q :=
 lc_by (n := xs.length) Pv h0 hz hl (fun i ys σ H hi w => ⟨xs, xs[i], hK i ys σ H w, List.getElem?_eq_getElem hi⟩) (fun ys σ H w => ⟨xs, hK _ ys σ H w, Nat.le_refl _⟩)
   (fun i ys σ H x H' C hi w ⟨e, hx⟩ hC => by subst e; exact hs i x ys σ _ C (hx xs (hK i ys σ _ w)) w hC) hd
def ForW (J : It) (g : TG) (tb : TS) (D : Ends) (σ : St) (H : Hp) : Prop := ∃ W : Nat -> Nat -> St -> Hp -> Prop, (∃ m, W 0 m σ H) /\ ∀ i m σ H, W i m σ H ->
 (J.stop i H /\ D.nx σ H) \/ (J.go i H /\ ∃ N : St -> Hp -> Prop, (∀ σ' H', N σ' H' -> ∃ m', m' < m /\ W (i + 1) m' σ' H') /\ ∀ x H', J.yld i H x H' -> g x σ H' fun σ2 H2 => tb { D with nx := N, ct := N, bk := D.nx } σ2 H2)
theorem tFor_eq {wi : TI} {g : TG} {tb : TS} {D : Ends} {σ : St} {H : Hp} : tFor wi g tb D σ H = wi σ H fun J H1 => ForW J g tb D σ H1 := rfl
theorem tLC_eq {n : List Str} {js : List Nat} {wi : TI} {g : TG} {tc : Option TT} {te : TE} {σ : St} {H : Hp} {Q : VK} : tLC n js wi g tc te σ H Q = wi σ H fun J H1 => LcW J n js g tc te σ H1 Q := rfl
theorem yX {K : PySem.W.Frag} {a : Addr} {xs : List V} {g : TG} {tb : TS} {D : Ends} {σ : St} {H : Hp} (Pv : Nat -> St -> Hp -> Prop) (h0 : Pv 0 σ H) (hl : ∀ i σ H, i <= xs.length -> Pv i σ H -> SqL K H a xs)
   (hs : ∀ i x σ H, xs[i]? = some x -> Pv i σ H -> g x σ H fun σ2 H2 => tb { D with nx := Pv (i + 1), ct := Pv (i + 1), bk := D.nx } σ2 H2) (hd : ∀ σ H, Pv xs.length σ H -> D.nx σ H) : ForW (Itl K a) g tb D σ H := for_list Pv h0 hl hs hd
theorem fw_tup {K : PySem.W.Frag} {a : Addr} {xs : List V} {g : TG} {tb : TS} {D : Ends} {σ : St} {H : Hp} (Pv : Nat -> St -> Hp -> Prop) (h0 : Pv 0 σ H) (hl : ∀ i σ H, i <= xs.length -> Pv i σ H -> SqT K H a xs)
   (hs : ∀ i x σ H, xs[i]? = some x -> Pv i σ H -> g x σ H fun σ2 H2 => tb { D with nx := Pv (i + 1), ct := Pv (i + 1), bk := D.nx } σ2 H2) (hd : ∀ σ H, Pv xs.length σ H -> D.nx σ H) : ForW (Itt K a) g tb D σ H := for_tup Pv h0 hl hs hd
theorem xH {lo : Int} {n : Nat} {g : TG} {tb : TS} {D : Ends} {σ : St} {H : Hp} (Pv : Nat -> St -> Hp -> Prop) (h0 : Pv 0 σ H)
   (hs : ∀ i σ H, i < n -> Pv i σ H -> g (.int (lo + i)) σ H fun σ2 H2 => tb { D with nx := Pv (i + 1), ct := Pv (i + 1), bk := D.nx } σ2 H2) (hd : ∀ σ H, Pv n σ H -> D.nx σ H) : ForW (Itr lo n) g tb D σ H := for_range Pv h0 hs hd
theorem zH {t u : TS} {D : Ends} {σ : St} {H : Hp} (h : ∀ N : St -> Hp -> Prop, (∀ σ H, u D σ H -> N σ H) -> t { D with nx := N } σ H) : tSeq t u D σ H := h (u D) fun _ _ z => z
theorem if_abs {c : TT} {t u : TS} {D : Ends} {σ : St} {H : Hp} (h : ∀ T U : Hp -> Prop, (∀ H1, t D σ H1 -> T H1) -> (∀ H1, u D σ H1 -> U H1) -> c σ H fun b H1 => if b = true then T H1 else U H1) : tIfS c t u D σ H := h (t D σ) (u D σ) (fun _ z => z) fun _ z => z
theorem zW {t u : TS} {D : Ends} {σ : St} {H : Hp} (J : St -> Hp -> Prop) (h1 : ∀ N : St -> Hp -> Prop, (∀ σ H, J σ H -> N σ H) -> t { D with nx := N } σ H) (h2 : ∀ σ H, J σ H -> u D σ H) : tSeq t u D σ H := h1 (u D) h2
structure Bi (mg : Str -> Option Value) : Prop where
 len : mg "len" = none
 range : mg "range" = none
 isinstance : mg "isinstance" = none
 max : mg "max" = none
 sum : mg "sum" = none
 all : mg "all" = none
 tuple : mg "tuple" = none
 list : mg "list" = none
 sorted : mg "sorted" = none
 set : mg "set" = none
 int : mg "int" = none
 bool : mg "bool" = none
 str : mg "str" = none
 dict : mg "dict" = none
theorem yB {P : Program} {w : World} {K : PySem.W.Frag} {mg : Str -> Option Value} {base : Heap} {k : Nat} {x : Str} {ps : List Str} {sp : Sp} {st : Stmt} {f : Addr} {fd : FuncData} (F : Fun K x x st f fd) (ok : FnOk P w K mg base CX0 k f fd ps sp) (b : Binds K fd ps [])
   (m : mg x = some (.ref f)) : Has P w K mg base k x ps sp := ⟨f, fd, ok, b, F.kp, m⟩
inductive Dt where
 | non | bl (b : Bool) | int (i : Int) | str (x : Str) | tup (ds : List Dt) | lst (ds : List Dt)
mutual
def DAt (H : Hp) : Dt -> V -> Prop
 | .non, v => v = .non
 | .bl b, v => v = .bl b
 | .int i, v => v = .int i
 | .str x, v => v = .str x
 | .tup ds, v => ∃ a vs, v = .ref a /\ H a = some (.tup vs) /\ DAts H ds vs
 | .lst ds, v => ∃ a vs, v = .ref a /\ H a = some (.lst vs) /\ DAts H ds vs
def DAts (H : Hp) : List Dt -> List V -> Prop
 | [], vs => vs = []
 | d :: ds, vs => ∃ v r, vs = v :: r /\ DAt H d v /\ DAts H ds r
end
mutual
theorem DAt.same {H H' : Hp} (e : Same H H') : ∀ {d : Dt} {v : V}, DAt H d v -> DAt H' d v
 | .non, _, h => h
 | .bl _, _, h => h
 | .int _, _, h => h
 | .str _, _, h => h
 | .tup ds, v, h => by
   obtain ⟨a, vs, e1, e2, e3⟩ := h
   exact ⟨a, vs, e1, e _ _ e2, DAts.same e e3⟩
 | .lst ds, v, h => by
   obtain ⟨a, vs, e1, e2, e3⟩ := h
   exact ⟨a, vs, e1, e _ _ e2, DAts.same e e3⟩
theorem DAts.same {H H' : Hp} (e : Same H H') : ∀ {ds : List Dt} {vs : List V}, DAts H ds vs -> DAts H' ds vs
 | [], _, h => h
 | d :: ds, vs, h => by
   obtain ⟨v, r, e1, e2, e3⟩ := h
   exact ⟨v, r, e1, DAt.same e e2, DAts.same e e3⟩
end
theorem DAts.length {H : Hp} : ∀ {ds : List Dt} {vs : List V}, DAts H ds vs -> vs.length = ds.length
 | [], vs, h => by
   have h : vs = [] := h
   rw [h]
   rfl
 | d :: ds, vs, h => by
   obtain ⟨v, r, e1, e2, e3⟩ := h
   rw [e1, List.length_cons, List.length_cons, DAts.length e3]
theorem DAts.get {H : Hp} : ∀ {ds : List Dt} {vs : List V} {i : Nat} {d : Dt}, DAts H ds vs -> ds[i]? = some d -> ∃ v, vs[i]? = some v /\ DAt H d v
 | [], vs, i, d, _, e => by simp at e
 | d :: ds, vs, 0, d', h, e => by
   obtain ⟨v, r, e1, e2, e3⟩ := h
   simp at e
   subst e; subst e1
   exact ⟨v, rfl, e2⟩
 | d :: ds, vs, i + 1, d', h, e => by
   obtain ⟨v, r, e1, e2, e3⟩ := h
   subst e1
   simp at e
   obtain ⟨u, h1, h2⟩ := DAts.get e3 e
   exact ⟨u, by simpa using h1, h2⟩
theorem DAts.append {H : Hp} : ∀ {ds es : List Dt} {vs us : List V}, DAts H ds vs -> DAts H es us -> DAts H (ds ++ es) (vs ++ us)
 | [], es, vs, us, h, h' => by
   have h : vs = [] := h
   subst h
   exact h'
 | d :: ds, es, vs, us, h, h' => by
   obtain ⟨v, r, e1, e2, e3⟩ := h
   subst e1
   exact ⟨v, r ++ us, rfl, e2, DAts.append e3 h'⟩
theorem DAts.take {H : Hp} : ∀ {ds : List Dt} {vs : List V} (n : Nat), DAts H ds vs -> DAts H (ds.take n) (vs.take n)
 | ds, vs, 0, _ => rfl
 | [], vs, n + 1, h => by
   have h : vs = [] := h
   subst h
   rfl
 | d :: ds, vs, n + 1, h => by
   obtain ⟨v, r, e1, e2, e3⟩ := h
   subst e1
   exact ⟨v, r.take n, rfl, e2, DAts.take n e3⟩
theorem DAts.drop {H : Hp} : ∀ {ds : List Dt} {vs : List V} (n : Nat), DAts H ds vs -> DAts H (ds.drop n) (vs.drop n)
 | ds, vs, 0, h => by simpa using h
 | [], vs, n + 1, h => by
   have h : vs = [] := h
   subst h
   rfl
 | d :: ds, vs, n + 1, h => by
   obtain ⟨v, r, e1, e2, e3⟩ := h
   subst e1
   simpa using DAts.drop n e3
theorem DAts.one {H : Hp} {d : Dt} {v : V} (h : DAt H d v) : DAts H [d] [v] := ⟨v, [], rfl, h, rfl⟩
def DFit : Nat -> Dt -> Prop
 | n + 1, .tup ds => ds.length <= 1000 /\ ∀ d ∈ ds, DFit n d
 | n + 1, .lst ds => ds.length <= 1000 /\ ∀ d ∈ ds, DFit n d
 | 0, .tup _ => False
 | 0, .lst _ => False
 | _, _ => True
inductive Tm where
 | name (x : Str)
 | node (w : Str) (ts : List Tm)
mutual
def toD : Tm -> Dt
 | .name x => .tup [.str "name", .str x]
 | .node w ts => .tup (.str w :: toDs ts)
def toDs : List Tm -> List Dt
 | [] => []
 | t :: ts => toD t :: toDs ts
end
theorem toDs_map : ∀ ts : List Tm, toDs ts = ts.map toD
 | [] => rfl
 | t :: ts => by rw [toDs, toDs_map ts, List.map_cons]
theorem qL (w : Str) (ts : List Tm) : toD (.node w ts) = .tup (.str w :: ts.map toD) := by rw [toD, toDs_map]
abbrev TAt (H : Hp) (t : Tm) (v : V) : Prop := DAt H (toD t) v
abbrev TAts (H : Hp) (ts : List Tm) (vs : List V) : Prop := DAts H (ts.map toD) vs
theorem TAt.name {H : Hp} {x : Str} {v : V} (h : TAt H (.name x) v) : ∃ a, v = .ref a /\ H a = some (.tup [.str "name", .str x]) := by
 obtain ⟨a, vs, e1, e2, u, r, e3, e4, e5⟩ := h
 obtain ⟨u2, r2, e6, e7, e8⟩ := e5
 have e4 : u = .str "name" := e4
 have e7 : u2 = .str x := e7
 have e8 : r2 = [] := e8
 subst e3; subst e4; subst e6; subst e7; subst e8
 exact ⟨a, e1, e2⟩
theorem TAt.mkName {H : Hp} {x : Str} {a : Addr} (h : H a = some (.tup [.str "name", .str x])) : TAt H (.name x) (.ref a) :=
 ⟨a, _, rfl, h, _, _, rfl, rfl, _, _, rfl, rfl, rfl⟩
theorem TAt.node {H : Hp} {w : Str} {ts : List Tm} {v : V} (h : TAt H (.node w ts) v) : ∃ a vs, v = .ref a /\ H a = some (.tup (.str w :: vs)) /\ TAts H ts vs := by
 unfold TAt at h
 rw [qL] at h
 obtain ⟨a, vs, e1, e2, u, r, e3, e4, e5⟩ := h
 have e4 : u = .str w := e4
 subst e3; subst e4
 exact ⟨a, r, e1, e2, e5⟩
theorem TAt.mkNode {H : Hp} {w : Str} {ts : List Tm} {a : Addr} {vs : List V} (h : H a = some (.tup (.str w :: vs))) (hs : TAts H ts vs) : TAt H (.node w ts) (.ref a) := by
 unfold TAt
 rw [qL]
 exact ⟨a, _, rfl, h, _, _, rfl, rfl, hs⟩
def Wrd (w : Str) : Prop := w = "none" \/ w = "all" \/ w = "not" \/ w = "both" \/ w = "either"
theorem Wrd.ne {w : Str} (h : Wrd w) : w ≠ "name" := by
 rcases h with rfl | rfl | rfl | rfl | rfl <;> decide +kernel
def Sh (w : Str) (n : Nat) : Prop := (w = "none" /\ n = 0) \/ (w = "all" /\ n = 0) \/ (w = "not" /\ n = 1) \/ (w = "both" /\ 2 <= n) \/ (w = "either" /\ 2 <= n)
theorem Sh.wrd {w : Str} {n : Nat} (h : Sh w n) : Wrd w := by
 rcases h with h | h | h | h | h
 · exact .inl h.1
 · exact .inr (.inl h.1)
 · exact .inr (.inr (.inl h.1))
 · exact .inr (.inr (.inr (.inl h.1)))
 · exact .inr (.inr (.inr (.inr h.1)))
structure Nm (x : Str) : Prop where
 pos : 1 <= x.length
 most : x.length <= 8
 low : ∀ c ∈ x.cps.toList, 97 <= c /\ c <= 122
 nn : x ≠ "none"
 na : x ≠ "all"
def Fit : Nat -> Tm -> Prop
 | _, .name x => Nm x
 | 0, .node w ts => Sh w ts.length /\ ts = []
 | n + 1, .node w ts => Sh w ts.length /\ ∀ t ∈ ts, Fit n t
theorem Fit.up : ∀ {n : Nat} {t : Tm}, Fit n t -> Fit (n + 1) t
 | n, .name _, h => by unfold Fit at h ⊢; exact h
 | 0, .node w ts, h => by
   unfold Fit at h
   obtain ⟨h1, h2⟩ := h
   subst h2
   exact ⟨h1, fun _ z => nomatch z⟩
 | n + 1, .node w ts, h => by
   unfold Fit at h ⊢
   exact ⟨h.1, fun t ht => Fit.up (h.2 t ht)⟩
theorem Fit.mono {n m : Nat} {t : Tm} (h : Fit n t) (hm : n <= m) : Fit m t := by
 obtain ⟨k, rfl⟩ := Nat.le.dest hm
 induction k with
 | zero => exact h
 | succ k ih => exact Fit.up (ih (by omega))
theorem Fit.sh {n : Nat} {w : Str} {ts : List Tm} (h : Fit n (.node w ts)) : Sh w ts.length := by
 cases n with
 | zero => exact h.1
 | succ n => exact h.1
theorem Fit.wrd {n : Nat} {w : Str} {ts : List Tm} (h : Fit n (.node w ts)) : Wrd w := h.sh.wrd
theorem Fit.part {n : Nat} {w : Str} {ts : List Tm} {t : Tm} (h : Fit (n + 1) (.node w ts)) (ht : t ∈ ts) : Fit n t := h.2 t ht
mutual
def wt : Tm -> Nat
 | .name _ => 1
 | .node _ ts => 1 + wts ts
def wts : List Tm -> Nat
 | [] => 0
 | t :: ts => wt t + wts ts
end
theorem wt_pos : ∀ t : Tm, 1 <= wt t
 | .name _ => by rw [wt]; omega
 | .node _ _ => by rw [wt]; omega
theorem wts_len : ∀ ts : List Tm, ts.length <= wts ts
 | [] => by simp
 | t :: ts => by
   have := wts_len ts
   have := wt_pos t
   rw [wts, List.length_cons]
   omega
theorem wts_mem : ∀ {ts : List Tm} {t : Tm}, t ∈ ts -> wt t <= wts ts
 | u :: ts, t, h => by
   rw [wts]
   rcases List.mem_cons.mp h with h | h
   · subst h; omega
   · have := wts_mem h; omega
theorem wts_append : ∀ ts us : List Tm, wts (ts ++ us) = wts ts + wts us
 | [], us => by simp [wts]
 | t :: ts, us => by rw [List.cons_append, wts, wts, wts_append ts us]; omega
theorem Fit.dfit : ∀ {n : Nat} {t : Tm}, Fit n t -> wt t <= 900 -> DFit (n + 1) (toD t)
 | n, .name x, _, _ => by
   rw [toD]
   unfold DFit
   refine ⟨by simp, fun d hd => ?_⟩
   rcases List.mem_cons.mp hd with rfl | hd
   · cases n <;> trivial
   · rw [List.mem_singleton.mp hd]
     cases n <;> trivial
 | n, .node w ts, h, hw => by
   rw [qL]
   rw [wt] at hw
   have hl := wts_len ts
   unfold DFit
   refine ⟨by rw [List.length_cons, List.length_map]; omega, fun d hd => ?_⟩
   rcases List.mem_cons.mp hd with rfl | hd
   · cases n <;> trivial
   · obtain ⟨t, ht, rfl⟩ := List.mem_map.mp hd
     have hm := wts_mem ht
     cases n with
     | zero => rw [h.2] at ht; cases ht
     | succ n => exact Fit.dfit (h.2 t ht) (by omega)
theorem zB {H : Hp} {p : Addr} (h : H p = none) (o : HO) : Same H (upd H p o) := fun b u q => by rw [zU (yH q h)]; exact q
theorem str_ext {x y : Str} (h : x.cps = y.cps) : x = y := by
 cases x; cases y; cases h; rfl
theorem len_app (p q : Str) : (p ++ q).length = p.length + q.length := by
 show (p.cps ++ q.cps).size = p.cps.size + q.cps.size
 rw [Array.size_append]
theorem cps_app (p q : Str) : (p ++ q).cps.toList = p.cps.toList ++ q.cps.toList := by
 show (p.cps ++ q.cps).toList = _
 rw [Array.toList_append]
theorem zI {n : Nat} (h : n <= 1000) : n <= sizeLine := Nat.le_of_lt (jR h)
theorem TAts.one {H : Hp} {t : Tm} {v : V} (h : TAt H t v) : TAts H [t] [v] := DAts.one h
theorem TAts.append {H : Hp} {ts us : List Tm} {vs ws : List V} (h : TAts H ts vs) (h' : TAts H us ws) : TAts H (ts ++ us) (vs ++ ws) := by
 unfold TAts
 rw [List.map_append]
 exact DAts.append h h'
theorem TAts.take {H : Hp} {ts : List Tm} {vs : List V} (n : Nat) (h : TAts H ts vs) : TAts H (ts.take n) (vs.take n) := by
 unfold TAts
 rw [List.map_take]
 exact DAts.take n h
theorem TAts.drop {H : Hp} {ts : List Tm} {vs : List V} (n : Nat) (h : TAts H ts vs) : TAts H (ts.drop n) (vs.drop n) := by
 unfold TAts
 rw [List.map_drop]
 exact DAts.drop n h
theorem TAts.length {H : Hp} {ts : List Tm} {vs : List V} (h : TAts H ts vs) : vs.length = ts.length := by
 have := DAts.length h
 rw [List.length_map] at this
 exact this
theorem TAts.get {H : Hp} {ts : List Tm} {vs : List V} {i : Nat} {t : Tm} (h : TAts H ts vs) (ht : ts[i]? = some t) : ∃ v, vs[i]? = some v /\ TAt H t v :=
 DAts.get (d := toD t) h (by rw [List.getElem?_map, ht]; rfl)
theorem TAts.getV {H : Hp} {ts : List Tm} {vs : List V} {i : Nat} {v : V} (h : TAts H ts vs) (hv : vs[i]? = some v) : ∃ t, ts[i]? = some t /\ TAt H t v := by
 have hi : i < ts.length := by rw [← h.length]; exact (List.getElem?_eq_some_iff.mp hv).1
 obtain ⟨u, h1, h2⟩ := h.get (List.getElem?_eq_getElem hi)
 rw [hv] at h1
 cases h1
 exact ⟨_, List.getElem?_eq_getElem hi, h2⟩
def TupSame (H H' : Hp) : Prop := ∀ b xs, H b = some (.tup xs) -> H' b = some (.tup xs)
theorem TupSame.trans {H H1 H2 : Hp} (a : TupSame H H1) (b : TupSame H1 H2) : TupSame H H2 := fun c o h => b c o (a c o h)
theorem Same.tups {H H' : Hp} (e : Same H H') : TupSame H H' := fun b xs h => e b _ h
theorem Same.upd {H H1 : Hp} {a : Addr} {o : HO} (e : Same H H1) (h : H a = none) : Same H (upd H1 a o) := fun b u hb => by
 rw [zU (yH hb h)]
 exact e _ _ hb
mutual
theorem TAt.tups {H H' : Hp} (e : TupSame H H') : ∀ {t : Tm} {v : V}, TAt H t v -> TAt H' t v
 | .name x, v, h => by
   obtain ⟨a, e1, h2⟩ := TAt.name h
   subst e1
   exact TAt.mkName (e _ _ h2)
 | .node w ts, v, h => by
   obtain ⟨a, vs, e1, h2, hs⟩ := TAt.node h
   subst e1
   exact TAt.mkNode (e _ _ h2) (TAts.tups e hs)
theorem TAts.tups {H H' : Hp} (e : TupSame H H') : ∀ {ts : List Tm} {vs : List V}, TAts H ts vs -> TAts H' ts vs
 | [], vs, h => h
 | t :: ts, vs, h => by
   obtain ⟨v, r, e1, e2, e3⟩ := h
   exact ⟨v, r, e1, TAt.tups e e2, TAts.tups e e3⟩
end
structure KD (w : World) (K : PySem.W.Frag) (a : Addr) (kvs : List (Key × V)) : Prop where
 dict : ∀ (P : Program) (h : Heap), K.In h -> ∃ vs, KV kvs vs /\ h.DictOf (yF P w) a vs
def tKGet (w : World) (K : PySem.W.Frag) (td ty : TE) : TE := fun σ H Q => td σ H fun x H1 => ty σ H1 fun y H2 => ∃ a kvs k v, x = .ref a /\ y = kV k /\ KD w K a kvs /\ yQ kvs k = some v /\ Q v H2
def entOk (w : World) : List DictEntry -> List (Str × Str) -> Prop
 | [], r => r = []
 | e :: es, r => ∃ x y t u r', r = (x, y) :: r' /\ e.hash = hashStr w x /\ e.key = .str x t /\ e.val = .str y u /\ entOk w es r'
theorem entOk.keys {w : World} {P : Program} : ∀ {es : List DictEntry} {r : List (Str × Str)}, entOk w es r -> ∀ e ∈ es, ∃ k, (yF P w).is k e.key = true /\ e.hash = (yF P w).hash k
 | [], _, _, e, he => nomatch he
 | e :: es, r, h, e', he => by
   obtain ⟨x, y, t, u, r', _, h1, h2, _, h4⟩ := h
   rcases List.mem_cons.mp he with rfl | he
   · exact ⟨.inr x, by rw [h2]; exact jZ P w x t, h1⟩
   · exact entOk.keys h4 e' he
theorem cx_w {CX : CXT} {P : Program} {w : World} {K : PySem.W.Frag} {mg : Str -> Option Value} {base : Heap} {N : List Str} {qual : Str} {scope : Scope} {f : Addr} {cd : Value} {A : Around} {outer : List Env} {s : Shared} {H : Hp} {E : XK} : (xW CX P w K mg base N qual scope f cd A outer s H E).w = w := rfl
theorem bk_w {X : Cx} {xs ys : List Str} {scope : Scope} {C : Addr} {s₀ : Shared} {H₀ : Hp} {fp : List Addr} : (yD X xs ys scope C s₀ H₀ fp).w = X.w := rfl
theorem qV {K : PySem.W.Frag} {T : String} : PySem.W.kitOne K (.type T) (.type T) = some true := by
 unfold PySem.W.kitOne
 rw [if_pos (by simp)]
theorem qO {P : Program} {w : World} {K : PySem.W.Frag} {mg : Str -> Option Value} {base : Heap} {x : Str} {ps : List Str} {st : Stmt} {f : Addr} {fd : FuncData} {sp : Nat -> Sp} (F : Fun K x x st f fd) (b : Binds K fd ps []) (m : mg x = some (.ref f))
   (h0 : ∀ vs H Q E, ¬ sp 0 vs H Q E) (step : ∀ n, Has P w K mg base n x ps (sp n) -> FnOk P w K mg base CX0 (n + 1) f fd ps (sp (n + 1))) : ∀ n, FnOk P w K mg base CX0 n f fd ps (sp n)
 | 0 => ⟨fun vs H Q E h => (h0 vs H Q E h).elim, fun A outer s H args us vs Q E _ _ _ _ h => (h0 vs H Q E h).elim⟩
 | n + 1 => step n (yB F (qO F b m h0 step n) b m)
theorem jN (x : V) (xs : List V) : yV (x :: xs) (some 1) none = xs := by
 unfold yV
 have e : HT.sIx (x :: xs).length 0 (some ((1 : Nat) : Int)) = 1 := by rw [HT.sIx_nat, List.length_cons]; omega
 have e : HT.sIx (x :: xs).length 0 (some 1) = 1 := e
 rw [e, HT.sIx_none, List.drop_one, List.tail_cons, List.take_of_length_le (by rw [List.length_cons]; omega)]
theorem yR (x : V) (xs : List V) : ¬ (HT.sIx (x :: xs).length 0 (some 1) = 0 /\ HT.sIx (x :: xs).length (x :: xs).length none = (x :: xs).length) := by
 have e : HT.sIx (x :: xs).length 0 (some ((1 : Nat) : Int)) = 1 := by rw [HT.sIx_nat, List.length_cons]; omega
 have e : HT.sIx (x :: xs).length 0 (some 1) = 1 := e
 rw [e]
 omega
theorem Same.tup {K : PySem.W.Frag} {H H' : Hp} {a : Addr} {xs : List V} (e : Same H H') (h : SqT K H a xs) : SqT K H' a xs := by
 rcases h with (h | ⟨o, h⟩) | h
 · exact .inl (.inl (e _ _ h))
 · exact .inl (.inr ⟨o, e _ _ h⟩)
 · exact .inr h
theorem at0 {α : Type} {x : α} {xs : List α} : atI (x :: xs) 0 = some x := xA (j := 0) (xs := x :: xs) rfl
theorem at1 {α : Type} {x y : α} {xs : List α} : atI (x :: y :: xs) 1 = some y := xA (j := 1) (xs := x :: y :: xs) rfl
def dSay (p : Tm × Tm) : Dt := .tup [toD p.1, toD p.2]
def qX (r : List (Tm × Tm) × (Tm × Tm)) : Dt := .tup [.lst (r.1.map dSay), dSay r.2]
abbrev SAt (H : Hp) (p : Tm × Tm) (v : V) : Prop := DAt H (dSay p) v
abbrev SAts (H : Hp) (ps : List (Tm × Tm)) (vs : List V) : Prop := DAts H (ps.map dSay) vs
abbrev RAt (H : Hp) (r : List (Tm × Tm) × (Tm × Tm)) (v : V) : Prop := DAt H (qX r) v
theorem SAt.out {H : Hp} {p : Tm × Tm} {v : V} (h : SAt H p v) : ∃ a v1 v2, v = .ref a /\ H a = some (.tup [v1, v2]) /\ TAt H p.1 v1 /\ TAt H p.2 v2 := by
 obtain ⟨a, vs, e1, e2, u, r, e3, h1, u2, r2, e4, h2, e5⟩ := h
 have e5 : r2 = [] := e5
 subst e5; subst e4; subst e3
 exact ⟨a, u, u2, e1, e2, h1, h2⟩
theorem RAt.out {H : Hp} {r : List (Tm × Tm) × (Tm × Tm)} {v : V} (h : RAt H r v) : ∃ a l s vs, v = .ref a /\ H a = some (.tup [.ref l, s]) /\ H l = some (.lst vs) /\ SAts H r.1 vs /\ SAt H r.2 s := by
 obtain ⟨a, vs, e1, e2, u, q, e3, ⟨l, ws, e6, e7, h1⟩, u2, r2, e4, h2, e5⟩ := h
 have e5 : r2 = [] := e5
 subst e5; subst e4; subst e3; subst e6
 exact ⟨a, l, u2, ws, e1, e2, e7, h1, h2⟩
theorem SAts.length {H : Hp} {ps : List (Tm × Tm)} {vs : List V} (h : SAts H ps vs) : vs.length = ps.length := by
 have := DAts.length h
 rw [List.length_map] at this
 exact this
theorem SAts.getV {H : Hp} {ps : List (Tm × Tm)} {vs : List V} {i : Nat} {v : V} (h : SAts H ps vs) (hv : vs[i]? = some v) : ∃ p, ps[i]? = some p /\ SAt H p v := by
 have hi : i < ps.length := by rw [← h.length]; exact (List.getElem?_eq_some_iff.mp hv).1
 obtain ⟨u, h1, h2⟩ := DAts.get (d := dSay ps[i]) h (by rw [List.getElem?_map, List.getElem?_eq_getElem hi]; rfl)
 rw [hv] at h1
 cases h1
 exact ⟨_, List.getElem?_eq_getElem hi, h2⟩
def FitS (n m : Nat) (p : Tm × Tm) : Prop := (Fit n p.1 /\ wt p.1 <= m) /\ Fit n p.2 /\ wt p.2 <= m
theorem FitS.dfit {n m : Nat} {p : Tm × Tm} (h : FitS n m p) (hm : m <= 900) : DFit (n + 2) (dSay p) := by
 refine ⟨by simp, fun d hd => ?_⟩
 rcases List.mem_cons.mp hd with rfl | hd
 · exact h.1.1.dfit (Nat.le_trans h.1.2 hm)
 · rw [List.mem_singleton.mp hd]
   exact h.2.1.dfit (Nat.le_trans h.2.2 hm)
theorem DFit.up : ∀ {n : Nat} {d : Dt}, DFit n d -> DFit (n + 1) d
 | n, .non, _ => by cases n <;> trivial
 | n, .bl _, _ => by cases n <;> trivial
 | n, .int _, _ => by cases n <;> trivial
 | n, .str _, _ => by cases n <;> trivial
 | 0, .tup _, h => h.elim
 | 0, .lst _, h => h.elim
 | n + 1, .tup ds, h => ⟨h.1, fun d hd => DFit.up (h.2 d hd)⟩
 | n + 1, .lst ds, h => ⟨h.1, fun d hd => DFit.up (h.2 d hd)⟩
theorem rule_dfit {n m : Nat} {r : List (Tm × Tm) × (Tm × Tm)} (h : ∀ p ∈ r.1, FitS n m p) (h2 : FitS n m r.2) (hm : m <= 900) (hl : r.1.length <= 900) : DFit (n + 4) (qX r) := by
 refine ⟨by simp, fun d hd => ?_⟩
 rcases List.mem_cons.mp hd with rfl | hd
 · refine ⟨by rw [List.length_map]; omega, fun d hd => ?_⟩
   obtain ⟨p, hp, rfl⟩ := List.mem_map.mp hd
   exact (h p hp).dfit hm
 · rw [List.mem_singleton.mp hd]
   exact (h2.dfit hm).up
def cutI (ns : List Int) (lo hi : Option Int) : List Int := (ns.drop (HT.sIx ns.length 0 lo)).take (HT.sIx ns.length ns.length hi - HT.sIx ns.length 0 lo)
theorem cut_ints (ns : List Int) (lo hi : Option Int) : yV (ns.map V.int) lo hi = (cutI ns lo hi).map V.int := by
 unfold yV cutI
 rw [List.length_map, List.map_take, List.map_drop]
theorem DFit.mono {n m : Nat} {d : Dt} (h : DFit n d) (hm : n <= m) : DFit m d := by
 obtain ⟨k, rfl⟩ := Nat.le.dest hm
 induction k with
 | zero => exact h
 | succ k ih => exact DFit.up (ih (by omega))
section
variable {X : Cx} (K : PySem.W.Frag)
theorem ix_listK (h : X.K = K := by rfl) : IxR X (rIxL K) := by subst h; exact ix_list
theorem xT (h : X.K = K := by rfl) : IxR X (rIxT K) := by subst h; exact ix_tup
theorem sl_listK (h : X.K = K := by rfl) : SlR X (rSlL K) := by subst h; exact sl_list
theorem uD (h : X.K = K := by rfl) : OpR X (compareOp .NotIn) (rIn K true) := by subst h; exact op_notIn_seq
theorem uK (h : X.K = K := by rfl) : yZ X (.type "list") (fun xs H Q => ∃ p ys, xs = [.ref p] /\ (SqL K H p ys \/ SqT K H p ys) /\ ∀ l, H l = none -> Q (.ref l) (upd H l (.lst ys))) := by subst h; exact call_list_of
end
end L2
namespace L2
open PySem
abbrev Cs := List Nat
def glue (j : Cs) : List Cs -> Cs
 | [] => []
 | [s] => s
 | s :: r :: q => s ++ j ++ glue j (r :: q)
def jAnd : Cs := [32, 38, 32]
def jOr : Cs := [32, 124, 32]
def jOf (w : Str) : Cs := if w = "both" then jAnd else jOr
def wrN (w : Str) (ss : List Cs) : Cs := if w = "not" then 33 :: ss.headD [] else if ss = [] then w.cps.toList else 40 :: (glue (jOf w) ss ++ [41])
mutual
def wr : Tm -> Cs
 | .name x => x.cps.toList
 | .node w ts => wrN w (wrs ts)
def wrs : List Tm -> List Cs
 | [] => []
 | t :: ts => wr t :: wrs ts
end
def xZ (j : Cs) : List Cs -> Cs
 | [] => []
 | s :: r => j ++ s ++ xZ j r
theorem uV (j : Cs) : ∀ (s : Cs) (r : List Cs), glue j (s :: r) = s ++ xZ j r
 | s, [] => by simp [glue, xZ]
 | s, a :: r => by
   rw [glue, uV j a r, xZ]
   simp
end L2
namespace L2
open PySem
def toS (s : Cs) : Str := ⟨s.toArray⟩
theorem qW (j : Cs) : ∀ (r : List Cs) (acc : Cs), ((r.map toS).foldl (fun acc p => acc ++ (toS j).cps ++ p.cps) acc.toArray) = (acc ++ xZ j r).toArray
 | [], acc => by simp [xZ]
 | s :: r, acc => by
   rw [List.map_cons, List.foldl_cons]
   have e : acc.toArray ++ (toS j).cps ++ (toS s).cps = (acc ++ j ++ s).toArray := by simp [toS]
   rw [e, qW j r, xZ]
   simp
theorem glued_toS (j : Cs) (ss : List Cs) : Builtin.Str.glued (toS j) (ss.map toS) = toS (glue j ss) := by
 cases ss with
 | nil => rfl
 | cons s r =>
   show (⟨(r.map toS).foldl (fun acc p => acc ++ (toS j).cps ++ p.cps) (toS s).cps⟩ : Str) = _
   rw [uV, show (toS s).cps = s.toArray from rfl, qW]
   rfl
end L2
namespace L2
open PySem PySem.Builtin PySem.Builtin.Str PySem.StrLaws
structure Mark (y : Cs) (k m : Nat) : Prop where
 at_ : y[k]? = some m
 once : ∀ j, y[j]? = some m -> j = k
end L2
namespace L2
open PySem PySem.Spec PyProof.Rows PySem.Builtin PySem.Builtin.Str
section
variable {X : Cx}
end
structure HasM (P : Program) (w : World) (K : PySem.W.Frag) (mg : Str -> Option Value) (base : Heap) (k : Nat) (C : Addr) (m : Str) (ps : List Str) (sp : Sp) : Prop where
 ex : ∃ f fd, FnOk P w K mg base CX0 k f fd ps sp /\ Binds K fd ps [] /\ Meth K C m f
structure HasI (P : Program) (w : World) (K : PySem.W.Frag) (mg : Str -> Option Value) (base : Heap) (k : Nat) (C : Addr) (x : Str) (ps : List Str) (sp : Sp) : Prop where
 ex : ∃ f fd, FnOk P w K mg base CX0 k f fd ps sp /\ Binds K fd ps [] /\ Mk K C f /\ mg x = some (.ref C)
section
variable {X : Cx} {k : Nat} {C : Addr} {x m : Str} {ps : List Str} {sp : Sp} {p pos apos : Pos} {e o : Expr} {es : List Expr} {ta : TE} {t : TA}
end
def rdF (x : Cs) (k : Nat) : List (Str × V) := [("text", .str (toS x)), ("at", .int k)]
def RdAt (C : Addr) (H : Hp) (r : Addr) (x : Cs) (k : Nat) : Prop := ∃ dx, H r = some (.ins C dx (rdF x k))
def SameX (r : Addr) (H H' : Hp) : Prop := ∀ b o, H b = some o -> b ≠ r -> H' b = some o
theorem SameX.trans {r : Addr} {H H1 H2 : Hp} (a : SameX r H H1) (b : SameX r H1 H2) : SameX r H H2 := fun c o h n => b c o (a c o h n) n
theorem Same.x {r : Addr} {H H' : Hp} (a : Same H H') : SameX r H H' := fun c o h _ => a c o h
theorem SameX.upd {r : Addr} {H H1 : Hp} {o : HO} (a : SameX r H H1) : SameX r H (L2.upd H1 r o) := fun c o' h n => by
 rw [zU n]
 exact a c o' h n
theorem SameX.tups {r : Addr} {H H' : Hp} {C : Addr} {x : Cs} {k : Nat} (a : SameX r H H') (h : RdAt C H r x k) : TupSame H H' := fun b xs e => by
 obtain ⟨dx, h⟩ := h
 exact a b _ e (ne_of e h (by intro z; cases z))
theorem F.lk_list_keys : typeLookup (.type "list") "keys" = pure none := by rw [typeLookup_type, PySem.builtinLookup_eq_fast]; kernel_rfl
theorem F.lk_list_ga : typeLookup (.type "list") "__getattr__" = pure none := by rw [typeLookup_type, PySem.builtinLookup_eq_fast]; kernel_rfl
theorem F.sub_ae : isSubtype (.type "AttributeError") (.type "AttributeError") = pure true := by rw [isSubtype_type]; kernel_rfl
def AeAt (h h' : Heap) (e : Addr) : Prop := (∀ b u, h.get? b = some u -> h'.get? b = some u) /\ ∃ o, h'.get? e = some o /\ o.cls = .type "AttributeError"
section
variable {prog : Program} {w : World} {A : Around} {E : Value -> Shared -> Prop} {s : Shared} {a : Addr} {its : Array Value} {n : Nat} {sl : Array (Option Value)}
theorem raiseAttr {α : Type} {o : Value} {name msg : Str} {Q : α -> Shared -> Prop} (hA : A.handled = none) (hm : msg.length <= sizeLine)
   (hq : ∀ h' t' e, AeAt s.heap h' e -> E (.ref e) { s with heap := h', toks := t' }) : wpAny (model prog w) A (raiseAttrError o name msg : Sem α) Q E s := by
 unfold raiseAttrError
 refine wpAny_bind (wpAny_mkStr (wpAny_bind ?_) hm)
 unfold newExc newTuple
 refine wpAny_bind (wpAny_newObj_type ?_ (by size_fits))
 refine wpAny_bind (m := firstArgMember _ _) (wpAny_of_eq (a := Value.none) (by
   simp only [firstArgMember]
   rw [show ((Manifest.find? "AttributeError").elim false fun t => t.mro.contains "StopIteration" || t.mro.contains "SystemExit") = false by decide +kernel]
   rfl) ?_)
 refine wpAny_newObj_type ?_ (by size_fits)
 refine wpAny_bind (wpAny_mkText ?_)
 refine wpAny_bind ?_
 obtain ⟨h, g, d, t, os⟩ := s
 dsimp only at hq ⊢
 have hk1 : ∀ b u, h.get? b = some u -> (h.push { cls := Value.type "tuple", data := Data.seq #[Value.str msg t] }).get? b = some u := fun b u e => Heap.get?_push_of_some _ e
 generalize h.push { cls := Value.type "tuple", data := Data.seq #[Value.str msg t] } = h1 at hk1 ⊢
 have hE := Heap.get?_push_size h1 (o := { cls := Value.type "AttributeError", data := Data.fields (#[Value.ref h.objs.size, Value.none, Value.none, Value.none, Value.bool false, Value.none] ++ ownMembersOf (Value.type "AttributeError") [Value.str msg t]) }) rfl
 have hk2 : ∀ b u, h1.get? b = some u -> (h1.push { cls := Value.type "AttributeError", data := Data.fields (#[Value.ref h.objs.size, Value.none, Value.none, Value.none, Value.bool false, Value.none] ++ ownMembersOf (Value.type "AttributeError") [Value.str msg t]) }).get? b = some u := fun b u e => Heap.get?_push_of_some _ e
 have hne : ∀ b u, h1.get? b = some u -> b ≠ h1.objs.size := fun b u e => Nat.ne_of_lt (Heap.lt_size e)
 generalize h1.push { cls := Value.type "AttributeError", data := Data.fields (#[Value.ref h.objs.size, Value.none, Value.none, Value.none, Value.bool false, Value.none] ++ ownMembersOf (Value.type "AttributeError") [Value.str msg t]) } = h2 at hE hk2 ⊢
 generalize h1.objs.size = e at hE hne ⊢
 have hT : (⟨h2, g, d, t + 1 + 1, os⟩ : Shared).TypeIs (.ref e) "AttributeError" := ⟨_, hE, rfl⟩
 have f1 := F.sub_ae
 unfold noteAttr
 dsimp only
 refine wpAny_bind ?_
 unfold lacksNameAndObj
 dsimp only
 refine wpAny_bind (wpAny_isInstance hT f1 ?_)
 rw [if_neg (by decide)]
 refine wpAny_bind (wpAny_load hE ?_)
 dsimp only
 rw [if_neg (by simp [ownMembersOf, unsetMember, rawInt]), if_neg (by simp [ownMembersOf, unsetMember, doubtfulMember, rawInt])]
 refine wpAny_pure ?_
 rw [if_pos rfl]
 refine wpAny_bind (wpAny_rule ?_)
 refine wpAny_bind (wpAny_typeOf hT ?_)
 dsimp only
 unfold layMembers
 refine wpAny_bind (wpAny_load hE ?_)
 dsimp only
 refine wpAny_update hE ?_
 refine wpAny_raiseNew_none hA (hq _ _ _ ⟨fun b u hb => ?_, ⟨_, Heap.get?_update_self _ hE (Obj.isFreed_of_fields (Obj.data_mapFields rfl _)), Obj.cls_mapFields _ _⟩⟩)
 exact (Heap.get?_update_other _ _ (Ne.symm (hne b u (hk1 b u hb)))).trans (hk2 b u (hk1 b u hb))
end
section
variable {prog : Program} {w : World} {A : Around} {E : Value -> Shared -> Prop} {h : Heap} {g : Array GenState} {d : Drawn} {t : Nat} {os : OsState} {a : Addr} {its : Array Value} {n : Nat} {sl : Array (Option Value)}
theorem vQ {tk : Tok} {Q : PySem.Fin -> Shared -> Prop} (hA : A.handled = none) (hx : h.get? a = some ⟨.type "list", none, .seq its n, sl⟩)
   (hq : ∀ h' t' e, AeAt h h' e -> E (.ref e) ⟨h', g, d, t', os⟩) :
   wpAny (model prog w) A (Builtin.«object.__getattribute__» ⟨[.ref a, .str "keys" tk], []⟩) Q E ⟨h, g, d, t, os⟩ := by
 have hT : (⟨h, g, d, t, os⟩ : Shared).TypeIs (.ref a) "list" := ⟨_, hx, rfl⟩
 have f4 := F.lk_list_keys
 repeat (any_goals (first | assumption | wp_step))
 exact raiseAttr hA (by decide +kernel) hq
theorem nokeys_call {tk : Tok} {R : Result -> Shared -> Prop} (hA : A.handled = none) (hx : h.get? a = some ⟨.type "list", none, .seq its n, sl⟩)
   (hq : ∀ h' t' e, AeAt h h' e -> R (.error (.ref e)) ⟨h', g, d, t', os⟩) :
   codeAny (model prog w) A (.call (.builtin "list.__getattribute__") ⟨[.ref a, .str "keys" tk], []⟩) R ⟨h, g, d, t, os⟩ :=
 codeAny_call_builtin PySem.F.slot_list_getattribute.plain PySem.F.entry_list_ga (PySem.F.slot_list_getattribute.check _ _ _ _ _ _ _ _ (show (⟨h, g, d, t, os⟩ : Shared).TypeIs (.ref a) "list" from ⟨_, hx, rfl⟩) (PySem.F.args_list_getattribute_2 _ _) (vQ hA hx hq))
theorem nokeys_by {tk : Tok} {Q : Value -> Shared -> Prop} (hA : A.handled = none) (hx : h.get? a = some ⟨.type "list", none, .seq its n, sl⟩)
   (hq : ∀ h' t' e, AeAt h h' e -> E (.ref e) ⟨h', g, d, t', os⟩) : wpAny (model prog w) A (getAttrBy (.ref a) (.str "keys" tk) false) Q E ⟨h, g, d, t, os⟩ := by
 have hT : (⟨h, g, d, t, os⟩ : Shared).TypeIs (.ref a) "list" := ⟨_, hx, rfl⟩
 have f2 := PySem.F.slot_list_getattribute.lookup
 have f3 := PySem.F.slot_list_getattribute.bind (.ref a)
 have f5 := F.lk_list_ga
 have f6 := F.sub_ae
 repeat (any_goals (first | assumption | wp_step))
 refine nokeys_call hA hx fun h' t' e ae => ?_
 have hT2 : (⟨h', g, d, t', os⟩ : Shared).TypeIs (.ref e) "AttributeError" := ae.2
 repeat (any_goals (first | assumption | exact hq _ _ _ ae | wp_step))
theorem nokeys {Q : Option Value -> Shared -> Prop} (hA : A.handled = none) (hx : h.get? a = some ⟨.type "list", none, .seq its n, sl⟩)
   (hq : ∀ h' t', (∀ b u, h.get? b = some u -> h'.get? b = some u) -> Q none ⟨h', g, d, t', os⟩) : wpAny (model prog w) A (getAttr? (.ref a) "keys") Q E ⟨h, g, d, t, os⟩ := by
 unfold getAttr? getAttrBy?
 refine wpAny_bind (wpAny_mkText (wpAny_bind (wpAny_attempt (nokeys_by hA hx fun h' t' e ae => ?_))))
 dsimp only
 have hT2 : (⟨h', g, d, t', os⟩ : Shared).TypeIs (.ref e) "AttributeError" := ae.2
 refine wpAny_bind (wpAny_isInstance hT2 F.sub_ae ?_)
 rw [if_pos rfl]
 exact wpAny_pure (hq _ _ ae.1)
end
theorem F.plain_dul : plainId "dict.update.loop" = true := by decide +kernel
theorem F.entry_dul : entryFor table "dict.update.loop" = some Builtin.«dict.update.loop» := entryFor_of_tree (by kernel_rfl)
section
variable {prog : Program} {w : World} {Kt : Type} [DecidableEq Kt] {knd : KeyKind prog w Kt} {A : Around} {E : Value -> Shared -> Prop} {s : Shared}
theorem stored_take {kvs : List (Kt × Value)} (hn : (kvs.map (·.1)).Nodup) {i : Nat} {k : Kt} {v : Value} (h : kvs[i]? = some (k, v)) : stored (kvs.take i) k v = kvs.take (i + 1) := by
 obtain ⟨il, ie⟩ := List.getElem?_eq_some_iff.mp h
 have hno : (kvs.take i).any (fun kv => kv.1 = k) = false := by
   rw [Bool.eq_false_iff]
   intro z
   obtain ⟨x, hx, hk⟩ := List.any_eq_true.mp z
   have hk : x.1 = k := by simpa using hk
   obtain ⟨j, hj, e⟩ := List.getElem_of_mem hx
   rw [List.length_take] at hj
   rw [List.getElem_take] at e
   exact List.pairwise_iff_getElem.mp hn j i (by rw [List.length_map]; omega) (by rw [List.length_map]; omega) (by omega) (by simp [e, ie, hk])
 unfold stored
 rw [hno, List.take_succ_eq_append_getElem il, ie]
 rfl
theorem pairs_loop {R : Result -> Shared -> Prop} {d it l : Addr} {its : Array Value} {kvs : List (Kt × Value)} {h0 : Heap} (hA : A.handled = none) (hdi : d ≠ it) (hl : h0.IsList l its) (hd0 : ∀ u, h0.get? d ≠ some u) (hi0 : ∀ u, h0.get? it ≠ some u)
   (hn : (kvs.map (·.1)).Nodup) (hsz : kvs.length <= sizeLine) (hlen : its.size = kvs.length) (hp : ∀ (i : Nat) (k : Kt) (v : Value), kvs[i]? = some (k, v) -> ∃ (a : Addr) (key : Value), its[i]? = some (Value.ref a) /\ IsTup h0 a #[key, v] /\ knd.is k key = true) :
   ∀ (m i : Nat) (t : Tok) (s : Shared), kvs.length - i = m -> i <= kvs.length -> s.heap.IsListIter it l i -> s.heap.DictOf knd d (kvs.take i) -> (∀ b u, h0.get? b = some u -> s.heap.get? b = some u) ->
   (∀ h' t', (∀ b u, h0.get? b = some u -> h'.get? b = some u) -> h'.DictOf knd d kvs -> R (.ok (.ret .none)) { s with heap := h', toks := t' }) ->
   codeAny (model prog w) A (.builtin "dict.update.loop" ⟨[.ref d, .ref it, .int i t, .none], []⟩) R s := by
 intro m
 induction m with
 | zero =>
   intro i t s hm hi hit hd hk hR
   have hin : i = kvs.length := by omega
   subst hin
   have hl' : s.heap.IsList l its := by obtain ⟨o, ho, r⟩ := hl; exact ⟨o, hk _ _ ho, r⟩
   refine codeAny_builtin F.entry_dul ?_
   rw [Around.under_plainId F.plain_dul _]
   show wpAny _ A.in1 (pyNext (.ref it) >>= _) _ _ s
   refine wpAny_bind (wpAny_pyNext_list_end (A := A.in1) hA hit hl' (by rw [Array.getElem?_eq_none_iff]; omega) fun h' he => ?_)
   rw [List.take_of_length_le (Nat.le_refl _)] at hd
   show wpAny _ A.in1 (Builtin.Dict.addKeywords d [] >>= _) _ _ _
   refine wpAny_bind (wpAny_pure (wpAny_pure (hR h' s.toks (fun b u hb => he b u (fun z => hi0 u (by rw [← z]; exact hb)) (hk b u hb)) (hd.extBut he hdi))))
 | succ m ih =>
   intro i t s hm hi hit hd hk hR
   have hlt : i < kvs.length := by omega
   have hl' : s.heap.IsList l its := by obtain ⟨o, ho, r⟩ := hl; exact ⟨o, hk _ _ ho, r⟩
   obtain ⟨a, key, ha, ht, hkey⟩ := hp i kvs[i].1 kvs[i].2 (List.getElem?_eq_getElem hlt)
   refine codeAny_builtin F.entry_dul ?_
   rw [Around.under_plainId F.plain_dul _]
   show wpAny _ A.in1 (pyNext (.ref it) >>= _) _ _ s
   refine wpAny_bind (wpAny_pyNext_list_item (A := A.in1) hit hl' ha fun h1 hit1 hs1 => ?_)
   have hk1 : ∀ b u, h0.get? b = some u -> h1.get? b = some u := fun b u hb => (hs1.2 b (fun z => hi0 u (by rw [← z]; exact hb))).trans (hk b u hb)
   have hd1 : h1.DictOf knd d (kvs.take i) := hd.sameBut hs1 hdi
   obtain ⟨ot, hot, hct, nt, hdt⟩ := ht
   have hot1 := hk1 _ _ hot
   have hT : ({ s with heap := h1 } : Shared).TypeIs (.ref a) "tuple" := ⟨_, hot1, hct⟩
   refine wpAny_bind (wpAny_holding (wpAny_bind ?_))
   refine wpAny_tryCatch ?_
   unfold Builtin.Dict.pairItems
   refine wpAny_bind (wpAny_typeOf hT ?_)
   rw [if_pos (by decide)]
   refine wpAny_bind (wpAny_seqItems hot1 hdt (wpAny_pure ?_))
   refine wpAny_holding (wpAny_dictSet_pairs (kvs := kvs.take i) hkey hd1 (fun h2 hd2 hs2 => ?_) (by rw [List.length_take]; omega))
   rw [stored_take hn (show kvs[i]? = some (kvs[i].1, kvs[i].2) from List.getElem?_eq_getElem hlt)] at hd2
   refine wpAny_pure ⟨plainId_quiet F.plain_dul _, ?_⟩
   have hk2 : ∀ b u, h0.get? b = some u -> h2.get? b = some u := fun b u hb => (hs2.2 b (fun z => hd0 u (by rw [← z]; exact hb))).trans (hk1 b u hb)
   have hit2 : h2.IsListIter it l (i + 1) := by obtain ⟨o, ho, r⟩ := hit1; exact ⟨o, (hs2.2 _ (Ne.symm hdi)).trans ho, r⟩
   exact ih (i + 1) _ { s with heap := h2, toks := s.toks + 1 } (by omega) hlt hit2 hd2 hk2 hR
theorem qG {l : Addr} {its : Array Value} {kvs : List (Kt × Value)} {Q : Value -> Shared -> Prop} (hA : A.handled = none) (hl : PlainL s.heap l its)
   (hn : (kvs.map (·.1)).Nodup) (hsz : kvs.length <= sizeLine) (hlen : its.size = kvs.length) (hp : ∀ (i : Nat) (k : Kt) (v : Value), kvs[i]? = some (k, v) -> ∃ (a : Addr) (key : Value), its[i]? = some (Value.ref a) /\ IsTup s.heap a #[key, v] /\ knd.is k key = true)
   (h : ∀ h' t', (∀ b u, s.heap.get? b = some u -> h'.get? b = some u) -> h'.DictOf knd s.heap.objs.size kvs -> Q (.ref s.heap.objs.size) { s with heap := h', toks := t' }) :
   wpAny (model prog w) A (call (.type "dict") [.ref l]) Q E s := by
 refine callType_codes (Q₁ := fun obj s₁ => obj = .ref s.heap.objs.size /\ s₁ = { s with heap := s.heap.push { cls := .type "dict", data := .dict #[] } }) PySem.F.kt_called_dict (PySem.F.kt_typeCall_dict_1 _) PySem.F.entry_dict_init (kt_code_dict_new _ ⟨rfl, rfl⟩) ?_
 rintro obj s₁ ⟨rfl, rfl⟩
 have hnew : (s.heap.push { cls := .type "dict", data := .dict #[] }).DictOf knd s.heap.objs.size [] := Heap.DictOf.new s.heap
 refine ⟨hnew.typeIs, PySem.F.args_dict_init_2 _ _, ?_⟩
 obtain ⟨ol, nl, hol, hlc, hld, hls⟩ := hl
 have hol1 : (s.heap.push { cls := .type "dict", data := .dict #[] }).get? l = some ol := Heap.get?_push_of_some _ hol
 have hT : ({ s with heap := s.heap.push { cls := .type "dict", data := .dict #[] } } : Shared).TypeIs (.ref l) "list" := ⟨_, hol1, hlc⟩
 unfold Builtin.«dict.__init__»
 refine wpAny_bind ?_
 unfold Builtin.Dict.selfAndRest
 refine wpAny_bind (wpAny_notOrdered_dict hnew.typeIs ?_)
 show wpAny _ _ (pure (s.heap.objs.size, [Value.ref l])) _ _ _
 refine wpAny_pure ?_
 show wpAny _ _ (Builtin.Dict.updateFrom "dict.__init__" s.heap.objs.size (.ref l) [] .none) _ _ _
 unfold Builtin.Dict.updateFrom
 refine wpAny_bind (wpAny_typeOf hT ?_)
 rw [if_pos (by decide)]
 have hkd : ∀ b u, s.heap.get? b = some u -> (s.heap.push { cls := .type "dict", data := .dict #[] }).get? b = some u := fun b u e => Heap.get?_push_of_some _ e
 have hd0 : ∀ u, s.heap.get? s.heap.objs.size ≠ some u := fun u z => Nat.lt_irrefl _ (Heap.lt_size z)
 obtain ⟨hp0, g, d, t, os⟩ := s
 dsimp only at *
 generalize hp0.push { cls := .type "dict", data := .dict #[] } = h1 at hnew hol1 hT hkd ⊢
 generalize hp0.objs.size = D at hnew hd0 h ⊢
 obtain ⟨c1, c2, c3, c4⟩ := ol
 dsimp only at hlc hld hls
 subst hlc hld hls
 refine wpAny_bind (nokeys (A := A.in1.in1) hA hol1 fun h2 t2 hk2 => ?_)
 rw [if_pos (by rfl)]
 refine wpAny_bind (wpAny_rule ?_)
 have hl2 : h2.IsList l its := ⟨_, hk2 _ _ hol1, rfl, _, rfl⟩
 refine wpAny_bind (wpAny_pyIter_list hl2 ?_)
 refine wpAny_pure ⟨plainId_quiet F.plain_dul _, ?_⟩
 have hd2 := hnew.keep hk2
 have hit0 : ∀ u, hp0.get? h2.objs.size ≠ some u := fun u z => Nat.lt_irrefl _ (Heap.lt_size (hk2 _ _ (hkd _ _ z)))
 have hDi : D ≠ h2.objs.size := fun z => by
   obtain ⟨o, _, _, ho, _⟩ := hd2
   exact Nat.lt_irrefl _ (by have := Heap.lt_size ho; rw [z] at this; exact this)
 refine pairs_loop (h0 := hp0) (kvs := kvs) (A := A.in1) hA hDi ⟨_, hol, rfl, _, rfl⟩ hd0 hit0 hn hsz hlen hp kvs.length 0 _ _ (by omega) (Nat.zero_le _) ⟨_, Heap.get?_push_size _ rfl, rfl, rfl⟩ (hd2.push _) (fun b u hb => Heap.get?_push_of_some _ (hk2 _ _ (hkd _ _ hb))) fun h' t' hk' hd' => ?_
 exact ⟨rfl, h h' t' hk' hd'⟩
end
section
variable {X : Cx}
theorem pairs_of {P : Program} {w : World} {h : Heap} : ∀ (kvs : List (Key × V)) (as : List Addr), (∀ (i : Nat) (k : Key) (v : V), kvs[i]? = some (k, v) -> ∃ a its, as[i]? = some a /\ Vals [kV k, v] its /\ IsTup h a its.toArray) ->
   ∃ vs : List (Key × Value), KV kvs vs /\ ∀ (i : Nat) (k : Key) (v : Value), vs[i]? = some (k, v) -> ∃ (a : Addr) (key : Value), as[i]? = some a /\ IsTup h a #[key, v] /\ (yF P w).is k key = true
 | [], as, _ => ⟨[], .nil, fun i k v e => by simp at e⟩
 | (k, v) :: kvs, as, hh => by
   obtain ⟨a, its, h1, h2, h3⟩ := hh 0 k v rfl
   cases as with
   | nil => simp at h1
   | cons a0 as =>
     simp at h1
     subst h1
     obtain ⟨ku, vu, rfl, rk, rv⟩ := h2.two
     obtain ⟨vs, g1, g2⟩ := pairs_of (P := P) (w := w) kvs as fun i k v e => by
       obtain ⟨a, its, e1, e2⟩ := hh (i + 1) k v (by simpa using e)
       exact ⟨a, its, by simpa using e1, e2⟩
     refine ⟨(k, vu) :: vs, .cons ⟨rfl, rv⟩ g1, fun i k' v' e => ?_⟩
     cases i with
     | zero =>
       simp at e
       obtain ⟨rfl, rfl⟩ := e
       exact ⟨a0, ku, rfl, h3, kV_is rk⟩
     | succ i =>
       obtain ⟨a, key, e1, e2⟩ := g2 i k' v' (by simpa using e)
       exact ⟨a, key, by simpa using e1, e2⟩
theorem vR {κ : Type} : ∀ {kvs : List (κ × V)} {vs : List (κ × Value)}, KV kvs vs -> vs.map (·.1) = kvs.map (·.1)
 | _, _, .nil => rfl
 | _, _, .cons h r => by rw [List.map_cons, List.map_cons, vR r, h.1]
theorem call_dictP : yZ X (.type "dict") (fun xs H Q => X.calm = true /\ ∃ (p : Addr) (as : List Addr) (kvs : List (Key × V)), xs = [.ref p] /\ SqL X.K H p (as.map V.ref) /\ as.length = kvs.length /\ (kvs.map (·.1)).Nodup /\
   (∀ (i : Nat) (k : Key) (v : V), kvs[i]? = some (k, v) -> ∃ a, as[i]? = some a /\ SqT X.K H a [kV k, v]) /\ ∀ l, H l = none -> Q (.ref l) (upd H l (.dK kvs))) := by
 intro pins s σ H xs us Q I r h
 obtain ⟨hc, p, as, kvs, rfl, hp, hlen, hn, hk, q⟩ := h
 obtain ⟨u, rfl, ru⟩ := xN r
 cases ru
 obtain ⟨its, rv, hl, hz⟩ := I.list hp
 have hil := rv.length
 rw [List.length_map] at hil hz
 obtain ⟨vs, g1, g2⟩ := pairs_of (P := X.prog) (w := X.w) (h := s.heap) kvs as fun i k v e => by
   obtain ⟨a, e1, e2⟩ := hk i k v e
   obtain ⟨its, r2, t2, _⟩ := I.tuple e2
   exact ⟨a, its, e1, r2, t2⟩
 have hvl : kvs.length = vs.length := Paired.length g1
 refine qG (knd := yF X.prog X.w) (kvs := vs) (I.ok.hd hc) hl (by rw [vR g1]; exact hn) (by omega) (by rw [List.size_toArray]; omega) (fun i k v e => ?_) fun h' t' hk' hd' => ?_
 · obtain ⟨a, key, e1, e2, e3⟩ := g2 i k v e
   obtain ⟨u, h1, h2⟩ := rv.get (i := i) (x := V.ref a) (by rw [List.getElem?_map, e1]; rfl)
   cases h2
   exact ⟨a, key, by simpa using h1, e2, e3⟩
 · exact ⟨.ref s.heap.objs.size, _, I.laid (a := s.heap.objs.size) (o := .dK kvs) (t' := t') hk' (Nat.le_refl _) (dk_new (by omega) (beq_eq_false_iff_ne.mpr (Ne.symm (Nat.ne_of_lt I.big))) g1 hd'), rfl, q _ (I.hok.fresh (Nat.le_refl _))⟩
end
end L2
namespace L2
open PySem PySem.Spec PyProof.Rows PySem.W
section
variable {prog : Program} {w : World} {A : Around} {E : Value -> Shared -> Prop} {s : Shared} {T : String} {r d : Addr} {n : Nat} {P : Nat -> Value -> Prop} {OK : Heap -> Prop}
theorem strs_of : ∀ {vs : List Value} {ss : List Str}, vs.length = ss.length -> (∀ (i : Nat) (v : Value) (x : Str), vs[i]? = some v -> ss[i]? = some x -> ∃ t, v = .str x t) -> StrsAre vs ss
 | [], [], _, _ => .nil
 | [], _ :: _, h, _ => by simp at h
 | _ :: _, [], h, _ => by simp at h
 | v :: vs, x :: ss, h, hh => by
   obtain ⟨t, rfl⟩ := hh 0 v x rfl rfl
   exact .cons x t (strs_of (by simpa using h) fun i v' x' h1 h2 => hh (i + 1) v' x' (by simpa using h1) (by simpa using h2))
theorem strs_vals : ∀ {vs : List Value} {ss : List Str}, StrsAre vs ss -> Vals (ss.map V.str) vs
 | _, _, .nil => .nil
 | _, _, .cons y t h => .cons ⟨t, rfl⟩ (strs_vals h)
theorem sorted_src {Q : Value -> Shared -> Prop} (K : KdlSrc prog w T r d n P OK) (hh : A.handled = none) (hok : OK s.heap) (hn : n < 64) {ss : List Str} (hl : ss.length = n) (hP : ∀ (i : Nat) (v : Value) (x : Str), P i v -> ss[i]? = some x -> ∃ t, v = .str x t)
   (h : ∀ (h1 h' : Heap) (tk : Nat) (vs' : List Value) (ss' : List Str) (e : Nat), (∀ b o, s.heap.get? b = some o -> h1.get? b = some o) -> (∀ b o, h1.get? b = some o -> h'.get? b = some o) -> h'.get? h1.objs.size = some { cls := .type "list", data := .seq vs'.toArray e } -> StrsAre vs' ss' -> ss'.Perm ss -> sortedS ss' = true -> Q (.ref h1.objs.size) { s with heap := h', toks := tk }) :
   wpAny (model prog w) A (call (.builtin "sorted") [.ref r]) Q E s := by
 have hs : sizeLine = 16777216 := sizeLine_eq
 refine Calls.call_function_entry kind_sorted plain_sorted entry_sorted (args_sorted1 _) ?_
 unfold Builtin.«sorted»
 refine wpAny_bind (m := checkCount "sorted" 1 1 _) (wpAny_pure ?_)
 refine wpAny_bind (kdu_collect (A := A.in1) K hh hok (by omega) fun h' tk acc hk hacc => ?_)
 have hl2 : acc.toList.length = n := by rw [Array.length_toList]; exact hacc.1
 have hS : StrsAre acc.toList ss := strs_of (by omega) fun i v x h1 h2 => hP i v x (hacc.2 i v (by rw [← Array.getElem?_toList]; exact h1)) h2
 generalize acc.toList = vs at hl2 hS
 refine wpAny_bind (wpAny_newList ?_ (by omega))
 have hoL : (h'.push (seqObj "list" vs.toArray 0)).get? h'.objs.size = some (seqObj "list" vs.toArray 0) := Heap.get?_push_size _ rfl
 show wpAny _ _ _ _ _ { s with heap := h'.push (seqObj "list" vs.toArray 0), toks := tk }
 refine wpAny_bind (wpAny_holding (wpAny_call_entry slot_list_sort ⟨_, hoL, rfl⟩ entry_list_sort (list_sort_treeK (A := A.in1.in1) strKind_oneLt hoL hS.keysOf (fun v₁ v₂ rest e => keyKind_strs (by rw [← e]; exact hS)) (by omega) fun st' a1 a2 => ⟨_, rfl, ?_⟩) (args_list_sort _)))
 obtain ⟨ss', h1, h2, h3⟩ := sorted_out_str hS a1 a2
 obtain ⟨e, he⟩ := sortedHeap_at (out := (arrOf st').map (·.2)) hoL
 refine wpAny_pure ⟨_, rfl, h h' _ tk _ ss' e hk (fun b o hb' => ?_) (by rw [Array.toArray_toList]; exact he) h1 h2 h3⟩
 have hlt := Heap.lt_size hb'
 rw [sortedHeap_old (Nat.ne_of_lt hlt) (by rw [size_push']; exact Nat.lt_succ_of_lt hlt)]
 exact Heap.get?_push_of_some _ hb'
end
section
variable {X : Cx}
theorem call_sortedD : yZ X (.builtin "sorted") (fun xs H Q => X.calm = true /\ ∃ (p : Addr) (kvs : List (Key × V)) (zs : List Str), xs = [.ref p] /\ H p = some (.dK kvs) /\ kvs.map (·.1) = zs.map Sum.inr /\ zs.length < 64 /\
   ∀ l zs', H l = none -> zs'.Perm zs -> sortedS zs' = true -> Q (.ref l) (upd H l (.lst (zs'.map V.str)))) := by
 intro pins s σ H xs us Q I r h
 obtain ⟨hc, p, kvs, zs, rfl, hp, hk, h64, q⟩ := h
 obtain ⟨u, rfl, ru⟩ := xN r
 cases ru
 obtain ⟨z, hd, vs, rel, dd⟩ := dk_rd I.hok (.inl hp)
 obtain ⟨ep, hat⟩ := dd.dictAt
 have hvl : kvs.length = vs.length := Paired.length rel
 have hkl : kvs.length = zs.length := by have := congrArg List.length hk; rwa [List.length_map, List.length_map] at this
 have hkeys : vs.map (·.1) = zs.map Sum.inr := (vR rel).trans hk
 refine sorted_src (kdl_dict (knd := yF X.prog X.w) (kvs := vs) (ep := ep) hd) (I.ok.hd hc) hat (by omega) (ss := zs) (by omega) (fun i v x hP hx => ?_) fun h1 h' tk vs' ss' e k1 k2 hB hS hp2 hs2 => ?_
 · obtain ⟨k, y, h1, h2⟩ := hP
   have e1 : (vs.map (·.1))[i]? = some k := by rw [List.getElem?_map, h1]; rfl
   rw [hkeys, List.getElem?_map, hx] at e1
   cases e1
   have h2 : keyIs (.inr x) v = true := h2
   rcases keyIs_shape h2 with ⟨_, _, e, _⟩ | ⟨x', t, e, e2⟩
   · cases e
   · cases e
     exact ⟨t, e2⟩
 · have I1 : Inv X pins σ H { s with heap := h1, toks := tk } := I.kept k1
   have hlen : ss'.length = zs.length := hp2.length_eq
   exact ⟨.ref h1.objs.size, _, I1.laid (a := h1.objs.size) (o := .lst (ss'.map V.str)) (t' := tk) k2 (Nat.le_refl _) ⟨by rw [List.length_map, sizeLine_eq]; omega, vs', e, strs_vals hS, hB⟩, rfl, q _ _ (I1.hok.fresh (Nat.le_refl _)) hp2 hs2⟩
end
theorem extend_tup (l : Addr) (items : Array Value) (n : Nat) (b : Addr) (dd : Option Addr) (sl : Array (Option Value)) (items2 : Array Value) (n2 : Nat) (hs0 : ¬(!items.isEmpty && Builtin.List.listTooLong (items.size + items2.size)) = true) (hs1 : items.size <= sizeLine) (hs2 : items.size + items2.size <= sizeLine + 1) :
   Meets (Builtin.«list.extend» ⟨[.ref l, .ref b], []⟩) (fun _ R s => s.heap.get? l = some { cls := .type "list", dict := none, data := .seq items n, slots := #[] } /\ s.heap.get? b = some ⟨.type "tuple", dd, .seq items2 n2, sl⟩ /\ R (.ok (.ret Value.none)) { s with heap := s.heap.update l (Obj.mapSeq fun x => x ++ items2), toks := s.toks }) :=
 .of_wp fun prog w A R s h => by
   obtain ⟨hp, g, d, tk, os⟩ := s
   obtain ⟨hl, hb, h⟩ := h
   have f2 := PySem.AutoSeq1.sub_tuple_tuple
   have f4 := PySem.AutoSeq1.sub_tuple_list
   have hz' : (items ++ items2).size <= sizeLine + 1 := by rw [Array.size_append]; exact hs2
   wp_walk using (wpAny_updateSeq hl rfl (hz := hs1) (_hz' := hz')), PySem.AutoSeq1.wpAny_loadPart' hl, PySem.AutoSeq1.wpAny_loadPart' hb
   exact ⟨_, rfl, h⟩
section
variable {X : Cx}
def jK (K : PySem.W.Frag) : V -> List V -> Hp -> VK -> Prop := fun x vs H Q => ∃ l b xs zs, x = .ref l /\ vs = [.ref b] /\ H l = some (.lst xs) /\ SqT K H b zs /\ xs.length + zs.length <= sizeLine /\ Q .non (upd H l (.lst (xs ++ zs)))
theorem mt_extendT : MtM X "list.extend" (jK X.K) := by
 intro pins s σ H x vs v us Q I rx rv h
 obtain ⟨l, b, xs, zs, rfl, rfl, hH, hB, hz, q⟩ := h
 cases rx
 obtain ⟨u, rfl, ru⟩ := rv.one
 cases ru
 obtain ⟨z, its, n, r, hl, e⟩ := I.lstM hH
 obtain ⟨its2, r2, ⟨o2, e2, c2, n2, d2⟩, z2⟩ := I.tuple hB
 obtain ⟨k1, k2, k3, k4⟩ := o2
 dsimp only at c2 d2
 subst c2 d2
 have hl2 := r2.length
 have hsz : its.toArray.size + its2.toArray.size <= sizeLine := by rw [List.size_toArray, List.size_toArray]; omega
 have hlong : ¬ (!its.toArray.isEmpty && Builtin.List.listTooLong (its.toArray.size + its2.toArray.size)) = true := by
   rw [notLongL hsz, Bool.and_false]
   exact Bool.false_ne_true
 refine call_meets PySem.F.slot_list_extend ⟨_, e, rfl⟩ PySem.F.entry_list_extend (PySem.F.args_list_extend_2 _ _)
   (extend_tup l its.toArray n b k2 k4 its2.toArray n2 hlong (by rw [List.size_toArray]; omega) (by omega)) ⟨e, e2, ?_⟩
 refine ⟨.non, _, I.lset (its' := its ++ its2) hH e (by simp) (r.append r2) ?_, rfl, q⟩
 rw [List.length_append]
 omega
end
end L2
namespace L2
open PySem PyProof.Rows
def txv : Value -> Option Str
 | .str z _ => some z
 | _ => none
def txs (l : List (Int × Value)) : List Str := l.filterMap fun e => txv e.2
def jY (w : World) : Bool := w.params.followText "set-order"
section
variable {prog : Program} {w : World} {A : Around} {E : Value -> Shared -> Prop} {s : Shared}
def TxSet (prog : Program) (w : World) (h : Heap) (a : Addr) (zs : List Str) : Prop :=
 ∃ o es ep t, h.get? a = some o /\ o.ExactSet /\ o.data = .set es ep t /\ ElemsOf (strKind prog w) es.toList /\ zs = txs es.toList /\ zs.Nodup /\ es.size < scanBound /\ t.fits es.size = true /\
   (jY w = true \/ t.led = true /\ (es.size = 0 \/ t.plain = false))
theorem lay_led (t : SetTable) (es : Array (Int × Value)) (h : Int) (x : Value) : (layNew t es h x).2.1.led = t.led := by
 unfold layNew
 split
 · dsimp only
   unfold SetTable.orStandIn
   split <;> rfl
 · rfl
theorem lay_plain (t : SetTable) (es : Array (Int × Value)) (h : Int) (x : Value) (hp : t.plain = false) : (layNew t es h x).2.1.plain = false := by
 unfold layNew
 split
 · dsimp only
   unfold SetTable.orStandIn
   split
   · exact hp
   · rfl
 · rfl
theorem jI {t t' : SetTable} {hs : Array Int} {n : Nat} {o : Array Nat} (h : t.relaid hs n = some (t', o)) : t'.led = t.led /\ t'.plain = t.plain := by
 unfold SetTable.relaid SetTable.laid at h
 cases hc : SetTable.layClean (SetTable.sizeAbove n - 1) hs with
 | none => rw [hc] at h; cases h
 | some ow =>
   rw [hc] at h
   have h := Option.some.inj h
   have e := congrArg Prod.fst h
   dsimp only at e
   rw [← e]
   exact ⟨rfl, rfl⟩
theorem relay_led (t : SetTable) (es : Array (Int × Value)) (n : Nat) : (relayAll t es n).2.1.led = t.led := by
 unfold relayAll
 split
 · rename_i t' o hr
   dsimp only
   split
   · exact (jI hr).1
   · rfl
 · rfl
theorem relay_plain (t : SetTable) (es : Array (Int × Value)) (n : Nat) (hp : t.plain = false) : (relayAll t es n).2.1.plain = false := by
 unfold relayAll
 split
 · rename_i t' o hr
   dsimp only
   split
   · exact (jI hr).2.trans hp
   · rfl
 · rfl
theorem vH {k : Str} {v : Value} (h : (strKind prog w).is k v = true) : ∃ t, v = .str k t := Value.isStrOf_shape h
theorem is_str (k : Str) (t : Tok) : (strKind prog w).is k (.str k t) = true := by simp [PySem.strKind, Value.isStrOf]
theorem mem_txs {l : List (Int × Value)} (he : ElemsOf (strKind prog w) l) (k : Str) : k ∈ txs l ↔ ∃ e ∈ l, (strKind prog w).is k e.2 = true := by
 unfold txs
 rw [List.mem_filterMap]
 constructor
 · rintro ⟨e, h1, h2⟩
   obtain ⟨⟨k', hk, _⟩, _⟩ := he e h1
   obtain ⟨t, ht⟩ := vH hk
   rw [ht] at h2
   cases h2
   exact ⟨e, h1, hk⟩
 · rintro ⟨e, h1, h2⟩
   obtain ⟨t, ht⟩ := vH h2
   exact ⟨e, h1, by rw [ht]; rfl⟩
theorem xI {l : List (Int × Value)} (he : ElemsOf (strKind prog w) l) : (txs l).length = l.length := by
 induction l with
 | nil => rfl
 | cons e l ih =>
   obtain ⟨⟨k, hk, _⟩, _⟩ := he.head
   obtain ⟨t, ht⟩ := vH hk
   have : txs (e :: l) = k :: txs l := by
     unfold txs
     rw [List.filterMap_cons_some (b := k) (by rw [ht]; rfl)]
   rw [this, List.length_cons, List.length_cons, ih he.tail]
theorem vF {l : List (Int × Value)} (he : ElemsOf (strKind prog w) l) {i : Nat} {e : Int × Value} (h : l[i]? = some e) : ∃ z t, e.2 = .str z t /\ (txs l)[i]? = some z := by
 induction l generalizing i with
 | nil => cases h
 | cons e' l ih =>
   obtain ⟨⟨k, hk, _⟩, _⟩ := he.head
   obtain ⟨t, ht⟩ := vH hk
   have : txs (e' :: l) = k :: txs l := by
     unfold txs
     rw [List.filterMap_cons_some (b := k) (by rw [ht]; rfl)]
   rw [this]
   cases i with
   | zero => cases h; exact ⟨k, t, ht, rfl⟩
   | succ i => exact ih he.tail h
theorem tx_fresh (led : Bool) (hl : jY w = true \/ led = true) {h : Heap} {a : Addr} (ho : h.get? a = some { cls := .type "set", dict := none, data := .set #[] 0 (.fresh 0 0 led) }) : TxSet prog w h a [] :=
 ⟨_, #[], 0, .fresh 0 0 led, ho, ⟨rfl, rfl, rfl⟩, rfl, fun e he => by simp at he, rfl, List.Pairwise.nil, by decide, by rfl, hl.elim .inl fun h => .inr ⟨h, .inl rfl⟩⟩
theorem TxSet.kept {h h' : Heap} {a : Addr} {zs : List Str} (hS : TxSet prog w h a zs) (k : ∀ o, h.get? a = some o -> h'.get? a = some o) : TxSet prog w h' a zs := by
 obtain ⟨o, es, ep, t, ho, r⟩ := hS
 exact ⟨o, es, ep, t, k _ ho, r⟩
theorem uN {h : Heap} {a : Addr} {o : Obj} {es es' : Array (Int × Value)} {ep : Nat} {t t' : SetTable} (ho : h.get? a = some o) (hx : o.ExactSet) (hd : o.data = .set es ep t)
   (he : ElemsOf (strKind prog w) es'.toList) (hn : (txs es'.toList).Nodup) (hb : es'.size < scanBound) (hf : t'.fits es'.size = true) (hfl : jY w = true \/ t'.led = true /\ t'.plain = false) :
   (h.update a (Obj.putSet es' t')).get? a = some { o with data := .set es' (ep + 1) t' } /\ TxSet prog w (h.update a (Obj.putSet es' t')) a (txs es'.toList) := by
 have hg : (h.update a (Obj.putSet es' t')).get? a = some { o with data := .set es' (ep + 1) t' } := by
   have q := Heap.get?_update_self (Obj.putSet es' t') ho (by rw [putSet_of es' t' hd]; rfl)
   rw [putSet_of es' t' hd] at q
   exact q
 exact ⟨hg, _, es', ep + 1, t', hg, hx, rfl, he, rfl, hn, hb, hf, hfl.imp id fun x => ⟨x.1, .inr x.2⟩⟩
theorem tx_tail {g : Bool -> Sem Unit} (hg : ∀ (b : Bool) (s₁ : Shared) (Q' : Unit -> Shared -> Prop), Q' () s₁ -> wpAny (model prog w) A (g b) Q' E s₁)
   {a : Addr} {o : Obj} {es es1 : Array (Int × Value)} {ep : Nat} {t t2 : SetTable} {wd : Bool} {R : Option Bool -> Shared -> Prop}
   (ho : s.heap.get? a = some o) (hx : o.ExactSet) (hd : o.data = .set es ep t) (he1 : ElemsOf (strKind prog w) es1.toList) (hn1 : (txs es1.toList).Nodup) (hb1 : es1.size < scanBound)
   (hf2 : t2.fits es1.size = true) (hfl2 : jY w = true \/ t2.led = true /\ t2.plain = false)
   (h : ∀ h' zs', Heap.SameBut a s.heap h' -> TxSet prog w h' a zs' -> zs'.Perm (txs es1.toList) -> R (some true) { s with heap := h' }) :
   wpAny (model prog w) A (storeSet a es1 t2 >>= fun _ =>
     if (!wd && t2.tooFull) = true then
       g (relayAll t2 es1 (SetTable.grown es1.size)).2.2 >>= fun _ =>
         storeSet a (relayAll t2 es1 (SetTable.grown es1.size)).1 (relayAll t2 es1 (SetTable.grown es1.size)).2.1 >>= fun _ => pure (some true)
     else pure (some true)) R E s := by
 refine wpAny_bind (wpAny_storeSet_of ho hd ?_ (fits_of_scanBound hb1))
 obtain ⟨ho1, hS1⟩ := uN (prog := prog) (w := w) ho hx hd he1 hn1 hb1 hf2 hfl2
 have sb1 := Heap.SameBut.update s.heap a (Obj.putSet es1 t2)
 split
 · have hp2 := relayAll_perm t2 es1 (SetTable.grown es1.size)
   have hf3 := relayAll_fits t2 es1 (SetTable.grown es1.size)
   have hl3 := relay_led t2 es1 (SetTable.grown es1.size)
   have hl4 := relay_plain t2 es1 (SetTable.grown es1.size)
   generalize relayAll t2 es1 (SetTable.grown es1.size) = L2 at hp2 hf3 hl3 hl4 ⊢
   obtain ⟨es2, t3, g2⟩ := L2
   dsimp only at hp2 hf3 hl3 hl4 ⊢
   have hsz2 : es2.size = es1.size := by rw [← Array.length_toList, hp2.length_eq, Array.length_toList]
   have hzp2 : (txs es2.toList).Perm (txs es1.toList) := hp2.filterMap _
   refine wpAny_bind (hg _ _ _ ?_)
   refine wpAny_bind (wpAny_storeSet_of ho1 rfl ?_ (fits_of_scanBound (by omega)))
   obtain ⟨_, hS2⟩ := uN (prog := prog) (w := w) ho1 hx rfl (he1.perm hp2) (hzp2.nodup_iff.mpr hn1) (by omega) hf3 (hfl2.imp id fun y => ⟨hl3.trans y.1, hl4 y.2⟩)
   exact wpAny_pure (h _ _ (sb1.trans (Heap.SameBut.update _ a _)) hS2 hzp2)
 · exact wpAny_pure (h _ _ sb1 hS1 (List.Perm.refl _))
theorem tx_add {a : Addr} {zs : List Str} {k : Str} {tk : Tok} {Q : Bool -> Shared -> Prop} (hS : TxSet prog w s.heap a zs) (room : zs.length + 1 < scanBound)
   (h : ∀ h' zs', Heap.SameBut a s.heap h' -> TxSet prog w h' a zs' -> zs'.length <= zs.length + 1 -> (∀ z, z ∈ zs' ↔ z ∈ zs \/ z = k) -> ∀ b, Q b { s with heap := h' }) :
   wpAny (model prog w) A (setAddHashed a (.str k tk) ((strKind prog w).hash k)) Q E s := by
 obtain ⟨o, es, ep, t, ho, hx, hd, he, hz, hn, hb, hf, hfl⟩ := hS
 have hlen : zs.length = es.size := by rw [hz, xI he, Array.length_toList]
 have hkey : (strKind prog w).is k (.str k tk) = true := is_str k tk
 unfold setAddHashed setAddHashedIn
 refine wpAny_holding (wpAny_bind (wpAny_setState_of ho hd hf ?_))
 dsimp only
 rw [byScan_of rfl hb he]
 simp only [↓reduceIte]
 unfold setAddByScan
 refine wpAny_bind (wpAny_bind (wpAny_rule (wpAny_bind (wpAny_setScan_of hkey ho hd hf he ?_))))
 cases hr : List.findIdx? (fun e => (strKind prog w).is k e.2) es.toList with
 | some j =>
   dsimp only
   obtain ⟨hj, hpj, _⟩ := List.findIdx?_eq_some_iff_getElem.mp hr
   have hk : k ∈ zs := by rw [hz, mem_txs he]; exact ⟨_, List.getElem_mem hj, hpj⟩
   refine wpAny_pure (wpAny_pure ?_)
   have q := h s.heap zs (Heap.SameBut.refl a s.heap) ⟨o, es, ep, t, ho, hx, hd, he, hz, hn, hb, hf, hfl⟩ (Nat.le_succ _) (fun z => ⟨.inl, fun y => y.elim id fun y => y ▸ hk⟩) false
   cases s
   exact q
 | none =>
   dsimp only
   have hk : k ∉ zs := by
     rw [hz, mem_txs he]
     rintro ⟨e, h1, h2⟩
     have := List.findIdx?_eq_none_iff.mp hr e h1
     rw [h2] at this
     cases this
   have hp := layNew_perm t es ((strKind prog w).hash k) (.str k tk)
   have hfi := layNew_fits t es ((strKind prog w).hash k) (.str k tk)
   have hl1 := lay_led t es ((strKind prog w).hash k) (.str k tk)
   have hl2 := lay_plain t es ((strKind prog w).hash k) (.str k tk)
   generalize layNew t es ((strKind prog w).hash k) (.str k tk) = L at hp hfi hl1 hl2 ⊢
   obtain ⟨es1, t1, wd, gv⟩ := L
   dsimp only at hp hfi hl1 hl2 ⊢
   rw [Array.toList_push] at hp
   have he1 : ElemsOf (strKind prog w) es1.toList := (he.push hkey rfl).perm hp
   have hsz : es1.size = es.size + 1 := by rw [← Array.length_toList, hp.length_eq, List.length_append, Array.length_toList]; rfl
   have hzp : (txs es1.toList).Perm (zs ++ [k]) := by
     have := hp.filterMap (fun e : Int × Value => txv e.2)
     rw [List.filterMap_append] at this
     rw [hz]
     exact this
   have hn1 : (txs es1.toList).Nodup := by
     refine hzp.nodup_iff.mpr (List.nodup_append.mpr ⟨hn, by simp, fun a ha b hb => ?_⟩)
     rw [List.mem_singleton] at hb
     rintro rfl
     exact hk (hb ▸ ha)
   have hm1 : ∀ z, z ∈ txs es1.toList ↔ z ∈ zs \/ z = k := fun z => by rw [hzp.mem_iff, List.mem_append, List.mem_singleton]
   have hle1 : (txs es1.toList).length <= zs.length + 1 := by rw [hzp.length_eq, List.length_append]; exact Nat.le_refl _
   have hb1 : es1.size < scanBound := by omega
   have hgw : ∀ (b : Bool) {s₁ : Shared} {Q' : Unit -> Shared -> Prop}, Q' () s₁ -> wpAny (model prog w) A (match b with | true => rule "set.scan.the-table-gave-way" | false => pure ()) Q' E s₁ :=
     fun b s₁ Q' hq => by cases b <;> first | exact wpAny_pure hq | exact wpAny_rule hq
   refine wpAny_bind (hgw _ ?_)
   have fin : ∀ h' zs', Heap.SameBut a s.heap h' -> TxSet prog w h' a zs' -> zs'.Perm (txs es1.toList) -> ∀ b, Q b { s with heap := h' } := fun h' zs' sb hS hp2 =>
     h h' zs' sb hS (by rw [hp2.length_eq]; exact hle1) fun z => by rw [hp2.mem_iff]; exact hm1 z
   have hq : ∀ (b : Bool) (s₁ : Shared) (Q' : Unit -> Shared -> Prop), Q' () s₁ -> wpAny (model prog w) A (match b with | true => rule "set.scan.the-table-gave-way" | false => pure ()) Q' E s₁ := fun b s₁ Q' hq => hgw b hq
   split
   · refine wpAny_bind ?_
     rw [hashByValue_scannable 8 (x := Value.str k tk) rfl]
     refine wpAny_pure ?_
     refine tx_tail hq ho hx hd he1 hn1 hb1 (SetTable.fits_plain_off hfi) ?_ fun h' zs' sb hS hp2 => wpAny_pure (fin h' zs' sb hS hp2 _)
     exact hfl.imp id fun y => ⟨hl1.trans y.1, rfl⟩
   · rename_i hpl
     refine wpAny_bind (wpAny_pure ?_)
     simp only [↓reduceIte]
     refine tx_tail hq ho hx hd he1 hn1 hb1 hfi ?_ fun h' zs' sb hS hp2 => wpAny_pure (fin h' zs' sb hS hp2 _)
     exact hfl.imp id fun y => ⟨hl1.trans y.1, by simpa using hpl⟩
end
end L2
namespace L2
open PySem PyProof.Rows
theorem slot_setit : Slot "set_iterator" "__next__" "set_iterator.__next__" :=
 .of (owner := "set_iterator") (n := "__next__") (by rw [typeLookup_type, builtinLookup_eq_fast]; kernel_rfl) (by decide +kernel) (by decide +kernel) (by decide +kernel)
   (by first | exact .inl (by decide +kernel) | exact .inr (by decide +kernel)) (by rw [isSubtype_type]; kernel_rfl)
theorem slot_setit2 : Slot "set_iterator" "__iter__" "set_iterator.__iter__" :=
 .of (owner := "set_iterator") (n := "__iter__") (by rw [typeLookup_type, builtinLookup_eq_fast]; kernel_rfl) (by decide +kernel) (by decide +kernel) (by decide +kernel)
   (by first | exact .inl (by decide +kernel) | exact .inr (by decide +kernel)) (by rw [isSubtype_type]; kernel_rfl)
theorem entry_setit : entryFor table "set_iterator.__next__" = some Builtin.«set_iterator.__next__» := entryFor_of_tree (by kernel_rfl)
theorem entry_setit2 : entryFor table "set_iterator.__iter__" = some Builtin.«dict_keyiterator.__iter__» :=
 entryFor_alias (id' := "dict_keyiterator.__iter__") (by kernel_rfl) rfl (by decide +kernel) (by kernel_rfl)
theorem entry_setiter : entryFor table "set.__iter__" = some Builtin.«frozenset.__iter__» :=
 entryFor_alias (id' := "frozenset.__iter__") (by kernel_rfl) rfl (by decide +kernel) (by kernel_rfl)
theorem owner_setit : Manifest.owners.lookup (String.ofList ['r', 'o', 't', 'a', 'r', 'e', 't', 'i', '_', 't', 'e', 's'].reverse) = some Manifest.sig_set_iterator := by kernel_rfl
theorem qZ (a : Value) : argsOk "set_iterator.__next__" ⟨[a], []⟩ := by
 unfold argsOk; rw [signature?_of (id := "set_iterator.__next__") (n := ['_', '_', 't', 'x', 'e', 'n', '_', '_']) (o := ['r', 'o', 't', 'a', 'r', 'e', 't', 'i', '_', 't', 'e', 's']) (by kernel_rfl) owner_setit]; kernel_rfl
theorem args_setit2 (a : Value) : argsOk "set_iterator.__iter__" ⟨[a], []⟩ := by
 unfold argsOk; rw [signature?_of (id := "set_iterator.__iter__") (n := ['_', '_', 'r', 'e', 't', 'i', '_', '_']) (o := ['r', 'o', 't', 'a', 'r', 'e', 't', 'i', '_', 't', 'e', 's']) (by kernel_rfl) owner_setit]; kernel_rfl
theorem jB {α : Type} : ∀ (l : List α) (i : Nat) (h : i < l.length), (l[i] :: l.eraseIdx i).Perm l
 | [], i, h => by simp at h
 | x :: l, 0, h => List.Perm.refl _
 | x :: l, i + 1, h => by
   have := jB l i (by simpa using h)
   simp only [List.getElem_cons_succ, List.eraseIdx_cons_succ]
   exact (List.Perm.swap _ _ _).trans (List.Perm.cons _ this)
theorem xC {α : Type} (f : Nat -> Nat) (xs : Array α) : (pickOrder f xs).toList.Perm xs.toList := by
 have key : ∀ (n k : Nat) (left : List α) (out : Array α), left.length = n -> (pickOrder.go f n k left out).toList.Perm (out.toList ++ left) := by
   intro n
   induction n with
   | zero =>
     intro k left out hl
     have : left = [] := List.length_eq_zero_iff.mp hl
     subst this
     unfold pickOrder.go
     simp
   | succ n ih =>
     intro k left out hl
     unfold pickOrder.go
     have hlt : f k % left.length < left.length := Nat.mod_lt _ (by omega)
     rw [List.getElem?_eq_getElem hlt]
     dsimp only
     refine (ih (k + 1) _ _ (by rw [List.length_eraseIdx_of_lt hlt]; omega)).trans ?_
     rw [Array.toList_push, List.append_assoc]
     refine List.Perm.append_left _ ?_
     exact jB _ _ hlt
 unfold pickOrder
 have := key xs.size 0 xs.toList #[] (by simp)
 simpa using this
section
variable {prog : Program} {w : World} {A : Around} {E : Value -> Shared -> Prop} {s : Shared}
theorem wp_choose {M : Model} {src : Source} {n : Nat} {Q : Nat -> Shared -> Prop} (hn : n ≠ 0) (h : ∀ i d, i < n -> Q i { s with drawn := d }) : wpAny M A (choose src n) Q E s :=
 fun Γ p _ => ⟨hn, h _ _ (Nat.mod_lt _ (Nat.pos_of_ne_zero hn))⟩
theorem uX {M : Model} {α : Type} : ∀ (n : Nat) (xs : List α) {Q : List α -> Shared -> Prop} {s : Shared}, xs.length = n -> (∀ ys d, ys.Perm xs -> Q ys { s with drawn := d }) -> wpAny M A (drawOrder n xs) Q E s
 | 0, xs, Q, s, hl, h => by
   have : xs = [] := List.length_eq_zero_iff.mp hl
   subst this
   unfold drawOrder
   have := h [] s.drawn (List.Perm.refl _)
   cases s
   exact wpAny_pure this
 | n + 1, [], Q, s, hl, h => by simp at hl
 | n + 1, x :: xs, Q, s, hl, h => by
   unfold drawOrder
   refine wpAny_bind (wp_choose (by simp) fun i d hi => ?_)
   rw [List.getElem?_eq_getElem hi]
   dsimp only
   refine wpAny_bind (uX n _ (by rw [List.length_eraseIdx_of_lt hi]; simp at hl ⊢; omega) fun ys d2 hp => ?_)
   refine wpAny_pure (h _ d2 ?_)
   exact (List.Perm.cons _ hp).trans (jB _ _ hi)
def Mode (w : World) (a T : Addr) (es : Array (Int × Value)) (ep : Nat) (t : SetTable) (ord : List Str) (h : Heap) (i : Nat) (fst : Value) : Prop :=
 (jY w = true /\ fst = .int 0 0 /\ ord = txs (pickOrder (w.params.setOrder a ep) es).toList) \/
 (jY w = false /\ es.size <= 1 /\ t.led = true /\ ord = txs es.toList /\ fst = .int ((if i = 0 then 0 else t.place.getD 0 0 + 1 : Nat) : Int) 0) \/
 (jY w = false /\ ∃ pl : List Nat, h.get? T = some { cls := .type "tuple", data := .seq (pl.map fun i : Nat => rawInt i).toArray } /\ pl.Perm (List.range es.size) /\ fst = .ref T /\
   ord.map some = pl.map fun j => (txs es.toList)[j]?)
def uA (h : Heap) (I a : Addr) (fst : Value) (i n ep : Nat) : Prop := h.get? I = some { cls := .type "set_iterator", data := .fields #[fst, .int i 0, .ref a, .int n 0, .int ep 0] }
theorem uW {t : SetTable} {n : Nat} (h : t.fits n = true) : t.place.size = n := by
 simp only [SetTable.fits, Bool.and_eq_true, beq_iff_eq] at h
 exact h.1
theorem wp_setDrawn {a : Addr} {o : Obj} {es : Array (Int × Value)} {ep : Nat} {t : SetTable} {Q : Bool -> Shared -> Prop} (ho : s.heap.get? a = some o) (hd : o.data = .set es ep t) (hf : t.fits es.size = true)
   (h : Q (!jY w && (!t.plain && decide (es.size > 1))) s) : wpAny (model prog w) A (setDrawn a) Q E s := by
 unfold setDrawn
 refine wpAny_bind (wpAny_setState_of ho hd hf ?_)
 dsimp only
 unfold setsByText
 refine wpAny_bind (wpAny_bind (wpAny_askSetting (wpAny_pure ?_)))
 exact wpAny_pure h
theorem wp_sizeOf {a : Addr} {o : Obj} {es : Array (Int × Value)} {ep : Nat} {t : SetTable} {Q : Nat -> Shared -> Prop} (ho : s.heap.get? a = some o) (hd : o.data = .set es ep t) (hf : t.fits es.size = true)
   (h : Q es.size s) : wpAny (model prog w) A (Builtin.Frozenset.sizeOf a) Q E s := by
 unfold Builtin.Frozenset.sizeOf setEntries
 refine wpAny_bind (wpAny_bind (wpAny_setState_of ho hd hf (wpAny_pure ?_)))
 exact wpAny_pure h
theorem iter_tx {a : Addr} {zs : List Str} {Q : Value -> Shared -> Prop} (hS : TxSet prog w s.heap a zs)
   (h : ∀ (h' : Heap) d o es ep t I T fst ord, (∀ b o, s.heap.get? b = some o -> h'.get? b = some o) -> s.heap.objs.size <= I -> (T = a \/ s.heap.objs.size <= T /\ T ≠ I) -> I ≠ a -> h'.get? a = some o -> o.data = .set es ep t -> t.fits es.size = true -> ElemsOf (strKind prog w) es.toList -> es.size = zs.length -> uA h' I a fst 0 es.size ep -> Mode w a T es ep t ord h' 0 fst -> ord.Perm zs ->
     Q (.ref I) { s with heap := h', drawn := d }) :
   wpAny (model prog w) A (pyIter (.ref a)) Q E s := by
 obtain ⟨o, es, ep, t, ho, hx, hd, he, hz, hn, hb, hf, hfl⟩ := hS
 have hlen : zs.length = es.size := by rw [hz, xI he, Array.length_toList]
 have hT : s.TypeIs (.ref a) "set" := ⟨o, ho, hx.1⟩
 have halt : a < s.heap.objs.size := Heap.lt_size ho
 refine wpAny_pyIter_slot hT F.slot_set_iter (wpAny_call_entry F.slot_set_iter hT entry_setiter ?_ (F.args_set_iter_1 _))
 unfold Builtin.«frozenset.__iter__»
 refine wpAny_bind (m := Builtin.Frozenset.slot0 _ _) (wpAny_pure ?_)
 refine wpAny_bind (wp_sizeOf ho hd hf ?_)
 refine wpAny_bind (wp_setDrawn ho hd hf ?_)
 have fin : ∀ (h1 : Heap) d (T : Addr) (fst : Value) (ord : List Str), (∀ b o, s.heap.get? b = some o -> h1.get? b = some o) -> (T = a \/ s.heap.objs.size <= T /\ T < h1.objs.size) ->
     s.heap.objs.size <= h1.objs.size -> Mode w a T es ep t ord (h1.push { cls := .type "set_iterator", data := .fields #[fst, .int 0 0, .ref a, .int es.size 0, .int ep 0] }) 0 fst -> ord.Perm zs ->
     Q (.ref h1.objs.size) { s with heap := h1.push { cls := .type "set_iterator", data := .fields #[fst, .int 0 0, .ref a, .int es.size 0, .int ep 0] }, drawn := d } := by
   intro h1 d T fst ord k1 hT1 hle hm hp
   refine h _ d o es ep t _ T fst ord (fun b o q => Heap.get?_push_of_some _ (k1 b o q)) hle ?_ (Nat.ne_of_gt (Nat.lt_of_lt_of_le halt hle)) (Heap.get?_push_of_some _ (k1 _ _ ho)) hd hf he hlen.symm (Heap.get?_push_size _ rfl) hm hp
   rcases hT1 with e | ⟨e1, e2⟩
   · exact .inl e
   · exact .inr ⟨e1, Nat.ne_of_lt e2⟩
 cases hB : jY w with
 | true =>
   simp only [Bool.not_true, Bool.false_and, Bool.false_eq_true, if_false]
   refine wpAny_bind (wpAny_pure ?_)
   refine wpAny_bind (wpAny_setEpoch_of ho hd hf ?_)
   refine wpAny_bind (m := newFields _ _) (wpAny_newObj_type ?_)
   refine wpAny_pure ⟨_, rfl, "set_iterator", _, ⟨_, Heap.get?_push_size _ rfl, rfl⟩, slot_setit.lookup, ?_⟩
   have q := fin s.heap s.drawn a (.int 0 0) _ (fun _ _ q => q) (.inl rfl) (Nat.le_refl _) (.inl ⟨hB, rfl, rfl⟩) (by rw [hz]; exact (xC _ _).filterMap _)
   cases s
   exact q
 | false =>
   have hfl : t.led = true /\ (es.size = 0 \/ t.plain = false) := hfl.resolve_left (by rw [hB]; exact Bool.false_ne_true)
   by_cases h1 : es.size > 1
   · have hp : t.plain = false := hfl.2.resolve_left (by omega)
     rw [hp]
     simp only [Bool.not_false, Bool.true_and, decide_eq_true h1, if_true]
     refine wpAny_bind (uX es.size (List.range es.size) List.length_range fun ys d hpy => ?_)
     have hyl : ys.length = es.size := by rw [hpy.length_eq, List.length_range]
     refine wpAny_bind (wpAny_newTuple ?_ (by rw [List.length_map, hyl]; exact fits_of_scanBound hb))
     have hoT : (s.heap.push { cls := .type "tuple", data := .seq (ys.map fun i : Nat => rawInt i).toArray }).get? a = some o := Heap.get?_push_of_some _ ho
     refine wpAny_bind (wpAny_setEpoch_of (s := { s with heap := s.heap.push { cls := .type "tuple", data := .seq (ys.map fun i : Nat => rawInt i).toArray }, drawn := d }) hoT hd hf ?_)
     refine wpAny_bind (m := newFields _ _) (wpAny_newObj_type ?_)
     refine wpAny_pure ⟨_, rfl, "set_iterator", _, ⟨_, Heap.get?_push_size _ rfl, rfl⟩, slot_setit.lookup, ?_⟩
     have hord : ∃ ord : List Str, (ord.map some = ys.map fun j => (txs es.toList)[j]?) /\ ord.Perm zs := by
       refine ⟨ys.filterMap fun j => (txs es.toList)[j]?, ?_, ?_⟩
       · have : ∀ (l : List Nat), (∀ j ∈ l, j < es.size) -> (l.filterMap fun j => (txs es.toList)[j]?).map some = l.map fun j => (txs es.toList)[j]? := by
           intro l
           induction l with
           | nil => intro _; rfl
           | cons j l ih =>
             intro hl
             have hj : j < (txs es.toList).length := by rw [← hz, hlen]; exact hl j List.mem_cons_self
             rw [List.filterMap_cons_some (b := (txs es.toList)[j]) (List.getElem?_eq_getElem hj), List.map_cons, List.map_cons, ih fun i hi => hl i (List.mem_cons_of_mem _ hi), List.getElem?_eq_getElem hj]
         exact this ys fun j hj => by simpa using hpy.mem_iff.mp hj
       · refine (hpy.filterMap _).trans ?_
         rw [← hlen, hz, List.filterMap_getElem?_range_length]
     obtain ⟨ord, ho1, ho2⟩ := hord
     exact fin (s.heap.push { cls := .type "tuple", data := .seq (ys.map fun i : Nat => rawInt i).toArray }) d s.heap.objs.size (.ref s.heap.objs.size) ord (fun b o q => Heap.get?_push_of_some _ q) (.inr ⟨Nat.le_refl _, by rw [Heap.size_push]; exact Nat.lt_succ_self _⟩) (by rw [Heap.size_push]; exact Nat.le_succ _)
       (.inr (.inr ⟨hB, ys, Heap.get?_push_of_some _ (Heap.get?_push_size _ rfl), hpy, rfl, ho1⟩)) ho2
   · have e1 : decide (es.size > 1) = false := decide_eq_false h1
     rw [e1]
     simp only [Bool.and_false, Bool.false_eq_true, if_false]
     refine wpAny_bind (wpAny_pure ?_)
     refine wpAny_bind (wpAny_setEpoch_of ho hd hf ?_)
     refine wpAny_bind (m := newFields _ _) (wpAny_newObj_type ?_)
     refine wpAny_pure ⟨_, rfl, "set_iterator", _, ⟨_, Heap.get?_push_size _ rfl, rfl⟩, slot_setit.lookup, ?_⟩
     have q := fin s.heap s.drawn a (.int 0 0) zs (fun _ _ q => q) (.inl rfl) (Nat.le_refl _) (.inr (.inl ⟨hB, by omega, hfl.1, hz, rfl⟩)) (List.Perm.refl _)
     cases s
     exact q
end
end L2
namespace L2
open PySem PyProof.Rows
section
variable {prog : Program} {w : World} {A : Around} {E : Value -> Shared -> Prop} {s : Shared}
theorem vD (p : Array Nat) (h : p.size = 1) : SetTable.below p 0 = 0 /\ SetTable.below p (p.getD 0 0 + 1) = 1 := by
 obtain ⟨l⟩ := p
 match l, h with
 | [x], _ =>
   refine ⟨rfl, ?_⟩
   show SetTable.below.go #[x] (x + 1) 1 0 1 = 1
   unfold SetTable.below.go
   simp [SetTable.below.go]
theorem below_none (p : Array Nat) (h : p.size = 0) (j : Nat) : SetTable.below p j = 0 := by
 obtain ⟨l⟩ := p
 match l, h with
 | [], _ => rfl
theorem vM {a T : Addr} {es : Array (Int × Value)} {ep : Nat} {t : SetTable} {ord : List Str} {h : Heap} {i : Nat} {fst : Value} (he : ElemsOf (strKind prog w) es.toList) (hm : Mode w a T es ep t ord h i fst) : ord.length = es.size := by
 rcases hm with ⟨_, _, e⟩ | ⟨_, _, _, e, _⟩ | ⟨_, pl, _, hp, _, e⟩
 · rw [e, xI (he.perm (xC _ _)), (xC _ _).length_eq, Array.length_toList]
 · rw [e, xI he, Array.length_toList]
 · have := congrArg List.length e
   rw [List.length_map, List.length_map, hp.length_eq, List.length_range] at this
   exact this
theorem next_by {a : Addr} {o : Obj} {es : Array (Int × Value)} {ep slot g : Nat} {t : SetTable} {Q : Option (Value × Nat) -> Shared -> Prop} (ho : s.heap.get? a = some o) (hd : o.data = .set es ep t) (hf : t.fits es.size = true) (hB : jY w = true)
   (h : Q (((pickOrder (w.params.setOrder a ep) es)[g]?).map fun e => (e.2, slot)) s) : wpAny (model prog w) A (setNext a slot g ep) Q E s := by
 have hB' : w.params.followText "set-order" = true := hB
 unfold setNext
 refine wpAny_bind (wpAny_setState_of ho hd hf ?_)
 dsimp only
 unfold setsByText
 refine wpAny_bind (wpAny_bind (wpAny_askSetting (wpAny_pure ?_)))
 show wpAny _ _ (if w.params.followText "set-order" = true then _ else _) _ _ _
 rw [if_pos hB', if_neg (by simp)]
 unfold setWalk
 refine wpAny_bind (wpAny_bind (wpAny_setState_of ho hd hf ?_))
 dsimp only
 unfold setsByText
 refine wpAny_bind (wpAny_bind (wpAny_askSetting (wpAny_pure ?_)))
 show wpAny _ _ (if w.params.followText "set-order" = true then _ else _) _ _ _
 rw [if_pos hB']
 refine wpAny_bind (wpAny_askSetting (wpAny_pure ?_))
 exact wpAny_pure h
theorem next_pl {a : Addr} {o : Obj} {es : Array (Int × Value)} {ep slot g : Nat} {t : SetTable} {Q : Option (Value × Nat) -> Shared -> Prop} (ho : s.heap.get? a = some o) (hd : o.data = .set es ep t) (hf : t.fits es.size = true) (hB : jY w = false)
   (hs : es.size <= 1) (hl : t.led = true)
   (h : Q (match es[SetTable.below t.place slot]?, t.place[SetTable.below t.place slot]? with | some (_, x), some j => some (x, j + 1) | _, _ => none) s) : wpAny (model prog w) A (setNext a slot g ep) Q E s := by
 have hB' : w.params.followText "set-order" = false := hB
 unfold setNext
 refine wpAny_bind (wpAny_setState_of ho hd hf ?_)
 dsimp only
 unfold setsByText
 refine wpAny_bind (wpAny_bind (wpAny_askSetting (wpAny_pure ?_)))
 show wpAny _ _ (if w.params.followText "set-order" = true then _ else _) _ _ _
 rw [hB', if_neg Bool.false_ne_true]
 show wpAny _ _ (if (!t.plain && decide (es.size > 1)) = true then _ else _) _ _ _
 rw [if_neg (by simp; intro _; omega)]
 refine wpAny_bind (show wpAny _ _ (if (!t.led && !es.isEmpty) = true then _ else _) _ _ _ from ?_)
 rw [hl, if_neg (by simp)]
 exact wpAny_pure (wpAny_pure h)
theorem next_tx {a I T : Addr} {o : Obj} {es : Array (Int × Value)} {ep : Nat} {t : SetTable} {ord : List Str} {fst : Value} {i : Nat} {z : Str} {Q : Option Value -> Shared -> Prop}
   (ho : s.heap.get? a = some o) (hd : o.data = .set es ep t) (hf : t.fits es.size = true) (he : ElemsOf (strKind prog w) es.toList) (hit : uA s.heap I a fst i es.size ep) (hm : Mode w a T es ep t ord s.heap i fst)
   (hz : ord[i]? = some z) (hTI : T ≠ I) (haI : a ≠ I)
   (h : ∀ h' fst' tk, (∀ b o, b ≠ I -> s.heap.get? b = some o -> h'.get? b = some o) -> uA h' I a fst' (i + 1) es.size ep -> Mode w a T es ep t ord h' (i + 1) fst' -> Q (some (.str z tk)) { s with heap := h' }) :
   wpAny (model prog w) A (pyNext (.ref I)) Q E s := by
 have hol := vM he hm
 have hi : i < es.size := by rw [← hol]; exact (List.getElem?_eq_some_iff.mp hz).1
 have hT : s.TypeIs (.ref I) "set_iterator" := ⟨_, hit, rfl⟩
 unfold pyNext
 refine wpAny_bind (wpAny_attempt (wpAny_callSpecial?_slot (name := Str.ofString "__next__") hT slot_setit (wpAny_call_entry slot_setit hT entry_setit ?_ (qZ _))))
 unfold Builtin.«set_iterator.__next__»
 refine wpAny_bind (m := slotArgs _ _ _) (wpAny_pure ?_)
 refine wpAny_bind (wpAny_fieldsOf hit rfl ?_)
 dsimp only
 unfold setEntries
 refine wpAny_bind (wpAny_bind (wpAny_setState_of ho hd hf (wpAny_pure ?_)))
 rw [if_neg (by simp)]
 refine wpAny_bind (wpAny_pure ?_)
 have two : ∀ (E' : Value -> Shared -> Prop) (nx : Nat) (v : Value) (hm' : ∀ h' : Heap, (∀ b o, b ≠ I -> s.heap.get? b = some o -> h'.get? b = some o) -> Mode w a T es ep t ord h' (i + 1) (.int nx 0)), (∃ tk, v = .str z tk) ->
     wpAny (model prog w) A.in1 (do setField (.ref I) 0 (rawInt nx); setField (.ref I) 1 (rawInt ((i : Int) + 1)); ret v)
       (fun fin s' => ∃ v, fin = Fin.done (Flow.ret v) /\ wpAny (model prog w) A (pure (some v)) Q E s') E' s := by
   rintro E' nx v hm' ⟨tk, rfl⟩
   refine wpAny_bind (wpAny_setField_rec hit (by simp) fun h1 e1 sb1 => ?_)
   refine wpAny_bind (wpAny_setField_rec (s := { s with heap := h1 }) e1 (by simp) fun h2 e2 sb2 => ?_)
   have k : ∀ b o, b ≠ I -> s.heap.get? b = some o -> h2.get? b = some o := fun b o hb q => sb2.extBut b o hb (sb1.extBut b o hb q)
   exact wpAny_pure ⟨_, rfl, wpAny_pure (h h2 (.int nx 0) tk k (by simpa [uA, rawInt] using e2) (hm' h2 k))⟩
 rcases hm with ⟨hB, rfl, rfl⟩ | ⟨hB, h1, hl, rfl, rfl⟩ | ⟨hB, pl, hoT, hp, rfl, hor⟩
 · dsimp only
   refine wpAny_bind (next_by ho hd hf hB ?_)
   simp only [Int.toNat_natCast]
   have hsz : (pickOrder (w.params.setOrder a ep) es).size = es.size := by rw [← Array.length_toList, (xC _ _).length_eq, Array.length_toList]
   have hel := Array.getElem?_eq_getElem (xs := pickOrder (w.params.setOrder a ep) es) (i := i) (by omega)
   obtain ⟨z', tk, e1, e2⟩ := vF (he.perm (xC (w.params.setOrder a ep) es)) (by rw [Array.getElem?_toList]; exact hel)
   rw [hz] at e2
   cases e2
   rw [hel]
   dsimp only [Option.map]
   exact two _ 0 _ (fun h' _ => .inl ⟨hB, rfl, rfl⟩) ⟨tk, e1⟩
 · dsimp only
   refine wpAny_bind (next_pl ho hd hf hB h1 hl ?_)
   have hi0 : i = 0 := by omega
   subst hi0
   have hs1 : es.size = 1 := by omega
   have hp1 : t.place.size = 1 := (uW hf).trans hs1
   simp only [if_true, Int.toNat_natCast, (vD t.place hp1).1]
   have hel := Array.getElem?_eq_getElem (xs := es) (i := 0) (by omega)
   have hpe := Array.getElem?_eq_getElem (xs := t.place) (i := 0) (by omega)
   obtain ⟨z', tk, e1, e2⟩ := vF he (by rw [Array.getElem?_toList]; exact hel)
   rw [hz] at e2
   cases e2
   rw [hel, hpe]
   dsimp only
   refine two _ (t.place[0] + 1) _ (fun h' _ => .inr (.inl ⟨hB, h1, hl, rfl, ?_⟩)) ⟨tk, e1⟩
   simp [Array.getD, hp1]
 · dsimp only
   have hpl : i < pl.length := by rw [hp.length_eq, List.length_range]; exact hi
   have hpi : pl[i] < es.size := by simpa using hp.mem_iff.mp (List.getElem_mem hpl)
   refine wpAny_bind (wpAny_seqItems hoT rfl ?_)
   dsimp only
   have hget : ((pl.map fun i : Nat => rawInt i).toArray)[(i : Int).toNat]? = some (.int (pl[i] : Nat) 0) := by
     rw [Int.toNat_natCast, List.getElem?_toArray, List.getElem?_map, List.getElem?_eq_getElem hpl]
     rfl
   rw [hget]
   dsimp only
   unfold setNextDrawn
   refine wpAny_bind (wpAny_bind (wpAny_setState_of ho hd hf ?_))
   dsimp only
   rw [if_neg (by simp)]
   have hel := Array.getElem?_eq_getElem (xs := es) (i := pl[i]) hpi
   obtain ⟨z', tk, e1, e2⟩ := vF he (by rw [Array.getElem?_toList]; exact hel)
   have hzz : z' = z := by
     have : (ord.map some)[i]? = (pl.map fun j => (txs es.toList)[j]?)[i]? := by rw [hor]
     rw [List.getElem?_map, List.getElem?_map, hz, List.getElem?_eq_getElem hpl, Option.map_some, Option.map_some, e2] at this
     cases this
     rfl
   subst hzz
   rw [Int.toNat_natCast, hel]
   dsimp only
   refine wpAny_pure ?_
   refine wpAny_bind (wpAny_setField_rec hit (by simp) fun h1 ee sb1 => ?_)
   have k : ∀ b o, b ≠ I -> s.heap.get? b = some o -> h1.get? b = some o := fun b o hb q => sb1.extBut b o hb q
   rw [e1]
   exact wpAny_pure ⟨_, rfl, wpAny_pure (h h1 (.ref T) tk k (by simpa [uA, rawInt] using ee) (.inr (.inr ⟨hB, pl, k _ _ hTI hoT, hp, rfl, hor⟩)))⟩
theorem end_tx {a I T : Addr} {o : Obj} {es : Array (Int × Value)} {ep : Nat} {t : SetTable} {ord : List Str} {fst : Value} {Q : Option Value -> Shared -> Prop} (hh : A.handled = none)
   (ho : s.heap.get? a = some o) (hd : o.data = .set es ep t) (hf : t.fits es.size = true) (he : ElemsOf (strKind prog w) es.toList) (hit : uA s.heap I a fst es.size es.size ep) (hm : Mode w a T es ep t ord s.heap es.size fst)
   (h : ∀ h', (∀ b o, b ≠ I -> s.heap.get? b = some o -> h'.get? b = some o) -> Q none { s with heap := h' }) :
   wpAny (model prog w) A (pyNext (.ref I)) Q E s := by
 have hT : s.TypeIs (.ref I) "set_iterator" := ⟨_, hit, rfl⟩
 unfold pyNext
 refine wpAny_bind (wpAny_attempt (wpAny_callSpecial?_slot (name := Str.ofString "__next__") hT slot_setit (wpAny_call_entry slot_setit hT entry_setit ?_ (qZ _))))
 unfold Builtin.«set_iterator.__next__»
 refine wpAny_bind (m := slotArgs _ _ _) (wpAny_pure ?_)
 refine wpAny_bind (wpAny_fieldsOf hit rfl ?_)
 dsimp only
 unfold setEntries
 refine wpAny_bind (wpAny_bind (wpAny_setState_of ho hd hf (wpAny_pure ?_)))
 rw [if_neg (by simp)]
 refine wpAny_bind (wpAny_pure ?_)
 have stop : ∀ (h1 : Heap), (∀ b o, b ≠ I -> s.heap.get? b = some o -> h1.get? b = some o) ->
     wpAny (model prog w) A.in1 (newExc (.type "StopIteration") [] >>= fun e => (raiseNew e : Sem Fin)) (fun fin s' => ∃ v, fin = Fin.done (Flow.ret v) /\ wpAny (model prog w) A (pure (some v)) Q E s')
       (fun e s' => wpAny (model prog w) A (do if ← isInstance e (Value.type "StopIteration") then pure none else throw e) Q E s') { s with heap := h1 } := by
   intro h1 k1
   refine wpAny_bind ?_
   simp only [newExc, newTuple]
   refine wpAny_bind (wpAny_newObj_type ?_ (by size_fits))
   refine wpAny_bind (m := firstArgMember _ _) (wpAny_of_eq (a := Value.none) (by first | rfl | (simp only [firstArgMember]; rfl)) ?_)
   refine wpAny_newObj_type ?_ (by size_fits)
   refine wpAny_raiseNew_none (A := A.in1) hh ?_
   refine wpAny_bind (wpAny_isInstance (T := "StopIteration") (b := true) ⟨_, Heap.get?_push_size _ rfl, rfl⟩ isSubtype_stop ?_)
   exact wpAny_pure (h _ fun b o hb q => Heap.get?_push_of_some _ (Heap.get?_push_of_some _ (k1 b o hb q)))
 rcases hm with ⟨hB, rfl, rfl⟩ | ⟨hB, h1, hl, rfl, rfl⟩ | ⟨hB, pl, hoT, hp, rfl, hor⟩
 · dsimp only
   refine wpAny_bind (next_by ho hd hf hB ?_)
   have hsz : (pickOrder (w.params.setOrder a ep) es).size = es.size := by rw [← Array.length_toList, (xC _ _).length_eq, Array.length_toList]
   simp only [Int.toNat_natCast]
   rw [Array.getElem?_eq_none (by omega)]
   dsimp only [Option.map]
   refine wpAny_bind (wpAny_setField_rec hit (by simp) fun h1 e1 sb1 => ?_)
   exact stop h1 fun b o hb q => sb1.extBut b o hb q
 · dsimp only
   refine wpAny_bind (next_pl ho hd hf hB h1 hl ?_)
   have hps := uW hf
   have hbl : SetTable.below t.place ((if es.size = 0 then 0 else t.place.getD 0 0 + 1 : Nat) : Int).toNat = es.size := by
     rw [Int.toNat_natCast]
     by_cases h0 : es.size = 0
     · rw [if_pos h0, below_none t.place (by omega), h0]
     · have h2 : es.size = 1 := by omega
       rw [if_neg h0, (vD t.place (by omega)).2, h2]
   rw [hbl, Array.getElem?_eq_none (Nat.le_refl _)]
   dsimp only
   refine wpAny_bind (wpAny_setField_rec hit (by simp) fun h1 e1 sb1 => ?_)
   exact stop h1 fun b o hb q => sb1.extBut b o hb q
 · dsimp only
   refine wpAny_bind (wpAny_seqItems hoT rfl ?_)
   dsimp only
   have hget : ((pl.map fun i : Nat => rawInt i).toArray)[(es.size : Int).toNat]? = none := by
     rw [Int.toNat_natCast, List.getElem?_toArray, List.getElem?_eq_none (by rw [List.length_map, hp.length_eq, List.length_range]; exact Nat.le_refl _)]
   rw [hget]
   dsimp only
   refine wpAny_bind (wpAny_setField_rec hit (by simp) fun h1 e1 sb1 => ?_)
   refine wpAny_bind (wpAny_setField_rec (s := { s with heap := h1 }) e1 (by simp) fun h2 e2 sb2 => ?_)
   exact stop h2 fun b o hb q => sb2.extBut b o hb (sb1.extBut b o hb q)
theorem walk_tx (hh : A.handled = none) {a I T : Addr} {o : Obj} {es : Array (Int × Value)} {ep : Nat} {t : SetTable} {ord : List Str} (hTI : T ≠ I) (haI : a ≠ I) (hd : o.data = .set es ep t) (hf : t.fits es.size = true) (he : ElemsOf (strKind prog w) es.toList) :
   Walks prog w A I [I, a, T] [I] es.size (fun i v => ∃ z tk, ord[i]? = some z /\ v = .str z tk) (fun i h => h.get? a = some o /\ ∃ fst, uA h I a fst i es.size ep /\ Mode w a T es ep t ord h i fst) where
 sub := fun b hb => by simp at hb; simp [hb]
 frame := fun i h h' st k => by
   obtain ⟨e1, fst, e2, e3⟩ := st
   refine ⟨k a (by simp) _ e1, fst, k I (by simp) _ e2, ?_⟩
   rcases e3 with m | m | ⟨hB, pl, hoT, r⟩
   · exact .inl m
   · exact .inr (.inl m)
   · exact .inr (.inr ⟨hB, pl, k T (by simp) _ hoT, r⟩)
 item := fun i s Q E hi st hQ => by
   obtain ⟨e1, fst, e2, e3⟩ := st
   have hl := vM he e3
   have hz := List.getElem?_eq_getElem (l := ord) (i := i) (by omega)
   refine next_tx e1 hd hf he e2 e3 hz hTI haI fun h' fst' tk k i2 m2 => ?_
   have := hQ (.str ord[i] tk) h' s.toks ⟨_, tk, hz, rfl⟩ ⟨k a o haI e1, fst', i2, m2⟩ fun b o hb q => k b o (by simpa using hb) q
   exact this
 done := fun s Q E st hQ => by
   obtain ⟨e1, fst, e2, e3⟩ := st
   exact end_tx hh e1 hd hf he e2 e3 fun h' k => hQ h' s.toks fun b o hb q => k b o (by simpa using hb) q
 self := fun i s Q E st hQ => by
   obtain ⟨e1, fst, e2, e3⟩ := st
   have hT : s.TypeIs (.ref I) "set_iterator" := ⟨_, e2, rfl⟩
   refine wpAny_pyIter_slot hT slot_setit2 (wpAny_call_entry slot_setit2 hT entry_setit2 ?_ (args_setit2 _))
   show wpAny _ _ (ret (.ref I)) _ _ s
   exact wpAny_pure ⟨_, rfl, "set_iterator", _, hT, slot_setit.lookup, hQ⟩
end
end L2
namespace L2
open PySem PyProof.Rows
section
variable {prog : Program} {w : World} {A : Around} {R : Result -> Shared -> Prop} {I : Addr} {fp wr : List Addr} {G : Array GenState -> Array GenState -> Prop} {n : Nat} {P : Nat -> Value -> Prop} {St : Nat -> Shared -> Prop}
theorem tx_loop (W : WalksS prog w A.in1 I fp wr G n P St) (S : Addr) (hSf : S ∉ fp) (val : Nat -> Str) (hval : ∀ i v, P i v -> ∃ t, v = .str (val i) t) (hb : n + 1 < scanBound) :
   ∀ (k i : Nat) (s : Shared) (zs : List Str), n - i = k -> i <= n -> St i s -> TxSet prog w s.heap S zs -> zs.length <= i -> (∀ z, z ∈ zs ↔ ∃ j, j < i /\ val j = z) ->
     (∀ s' zs', Moved (S :: wr) G s s' -> TxSet prog w s'.heap S zs' -> zs'.length <= n -> (∀ z, z ∈ zs' ↔ ∃ j, j < n /\ val j = z) -> R (.ok (.ret .none)) s') ->
     codeAny (model prog w) A (.builtin "set.update.loop" ⟨[.ref S, .ref I], []⟩) R s := by
 have hSw : S ∉ wr := fun q => hSf (W.sub _ q)
 have hsub : ∀ b ∈ wr, b ∈ S :: wr := fun b q => List.mem_cons_of_mem _ q
 intro k
 induction k with
 | zero =>
   intro i s zs hk hi hst hS hl hz hR
   have hin : i = n := by omega
   subst hin
   refine codeAny_builtin PyProof.Rows.F.entry_set_update_loop ?_
   rw [Around.under_plainId PyProof.Rows.F.plain_set_update_loop _]
   show wpAny _ A.in1 (pyNext (.ref I) >>= _) _ _ s
   refine wpAny_bind (W.done s _ _ hst fun s' hm => ?_)
   show wpAny _ A.in1 (ret Value.none) _ _ s'
   exact wpAny_pure (hR s' zs (hm.mono hsub) (hS.kept fun o q => hm.heap S _ hSw q) hl hz)
 | succ k ih =>
   intro i s zs hk hi hst hS hl hz hR
   have hlt : i < n := by omega
   refine codeAny_builtin PyProof.Rows.F.entry_set_update_loop ?_
   rw [Around.under_plainId PyProof.Rows.F.plain_set_update_loop _]
   show wpAny _ A.in1 (pyNext (.ref I) >>= _) _ _ s
   refine wpAny_bind (W.item i s _ _ hlt hst fun v s' hP hst' hm => ?_)
   obtain ⟨t, rfl⟩ := hval i v hP
   have hS' : TxSet prog w s'.heap S zs := hS.kept fun o q => hm.heap S _ hSw q
   show wpAny _ A.in1 (holding [Value.str (val i) t] (setAdd S (.str (val i) t)) >>= _) _ _ s'
   refine wpAny_bind (wpAny_holding ?_)
   unfold setAdd
   refine wpAny_holding ?_
   refine wpAny_bind ((strKind prog w).pyHash (k := val i) (is_str _ _) ?_)
   refine tx_add (s := { s' with toks := s'.toks + 1 }) hS' (by omega) fun h' zs' sb hS2 hl2 hz2 b => ?_
   refine wpAny_pure ⟨plainId_quiet PyProof.Rows.F.plain_set_update_loop _, ih (i + 1) _ zs' (by omega) hlt (W.frame _ s' _ _ hst' (Nat.le_succ _) fun b hb o q => ?_) hS2 (by omega) (fun z => ?_) fun s'' zs'' hm'' hS'' => ?_⟩
   · rw [sb.2 b (fun y : b = S => hSf (y ▸ hb))]
     exact q
   · rw [hz2, hz]
     constructor
     · rintro (⟨j, h1, h2⟩ | h2)
       · exact ⟨j, by omega, h2⟩
       · exact ⟨i, Nat.lt_succ_self _, h2.symm⟩
     · rintro ⟨j, h1, h2⟩
       by_cases hj : j = i
       · subst hj
         exact .inr h2.symm
       · exact .inl ⟨j, by omega, h2⟩
   · refine hR s'' zs'' (Moved.trans W.gtrans ((hm.mono hsub).then_heap (Nat.le_succ _) fun b o hb q => ?_) hm'') hS''
     rw [sb.2 b (fun y : b = S => hb (by rw [y]; exact List.mem_cons_self))]
     exact q
end
section
variable {prog : Program} {w : World} {A : Around} {E : Value -> Shared -> Prop} {s : Shared}
theorem tx_new (a : Value) {Q₁ : Value -> Shared -> Prop}
   (h : ∀ led : Bool, (jY w = true \/ led = true) -> Q₁ (.ref s.heap.objs.size) { s with heap := s.heap.push { cls := .type "set", dict := none, data := .set #[] 0 (.fresh 0 0 led) } }) :
   codeAny (model prog w) A (.call (.builtin "set.__new__") ⟨[.type "set", a], []⟩) (wants Q₁ E) s := by
 refine codeAny_of_tree ?_
 show wpAny _ A.in1 (do checkBuiltinCall "set.__new__" ⟨[.type "set", a], []⟩; again (.builtin "set.__new__" ⟨[.type "set", a], []⟩)) _ _ s
 refine wpAny_bind (wpAny_of_eq (PySem.F.newCall_set_1 a) (wpAny_pure ⟨plainId_quiet PySem.F.plain_set_new _, codeAny_builtin PySem.F.entry_set_new ?_⟩))
 rw [Around.under_plainId PySem.F.plain_set_new _]
 unfold Builtin.«set.__new__» Builtin.Frozenset.newClass
 have hsub := sub_set_self
 obtain ⟨hp, g, d, tk, os⟩ := s
 dsimp only
 wp_walk
 refine wpAny_askSetting (wpAny_pure ?_)
 dsimp only
 simp only [newObj]
 refine wpAny_bind (wpAny_alloc (wpAny_pure ?_))
 refine wpAny_pure (h _ ?_)
 show w.params.followText "set-order" = true \/ (!w.params.followText "set-order") = true
 cases w.params.followText "set-order"
 · exact .inr rfl
 · exact .inl rfl
set_option maxHeartbeats 3200000 in
theorem tx_call {l : Addr} {items : Array Value} {val : Nat -> Str} {Q : Value -> Shared -> Prop} (hh : A.handled = none) (hl : s.heap.IsList l items) (hi : ∀ (i : Nat) (v : Value), items[i]? = some v -> ∃ t, v = .str (val i) t) (hb : items.size + 1 < scanBound)
   (h : ∀ (h' : Heap) (tk : Nat) (zs : List Str), TxSet prog w h' s.heap.objs.size zs -> zs.length <= items.size -> (∀ z, z ∈ zs ↔ ∃ j, j < items.size /\ val j = z) ->
     (∀ b o, s.heap.get? b = some o -> h'.get? b = some o) -> Q (.ref s.heap.objs.size) { s with heap := h', toks := tk }) :
   wpAny (model prog w) A (call (.type "set") [.ref l]) Q E s := by
 obtain ⟨c, tl, hmro⟩ := PySem.F.called_set.mro
 have hmade := PySem.F.called_set.made
 have hsub := PySem.F.called_set.sub
 refine wpAny_call (codeAny_of_tree ?_)
 show wpAny _ _ (callAny (.type "set") _) _ _ _
 refine wpAny_pure ⟨Code.quiet_builtin _ (by decide +kernel), codeAny_builtin PySem.F.entry_type_call ?_⟩
 rw [Around.under_plain (weight_type_call_type "set" [.ref l] []) rfl]
 have h1 := PySem.F.called_set.notType
 have h2 := PySem.F.called_set.canCreate
 have hct := PySem.F.typeCall_set_1 (.ref l)
 repeat (any_goals (first | assumption | wp_step))
 refine codeAny_mono (tx_new (w := w) (.ref l) (E := E) (Q₁ := fun obj s₁ => ∃ led : Bool, (jY w = true \/ led = true) /\ obj = .ref s.heap.objs.size /\ s₁ = { s with heap := s.heap.push { cls := .type "set", dict := none, data := .set #[] 0 (.fresh 0 0 led) } }) fun led hl => ⟨led, hl, rfl, rfl⟩) fun r s₁ hr => ?_
 cases r with
 | error e => exact hr
 | ok fl =>
   cases fl with
   | ret obj =>
     obtain ⟨led, hled, rfl, rfl⟩ := hr
     have hS : (s.heap.push { cls := .type "set", dict := none, data := .set #[] 0 (.fresh 0 0 led) }).get? s.heap.objs.size = some { cls := .type "set", dict := none, data := .set #[] 0 (.fresh 0 0 led) } := Heap.get?_push_size _ rfl
     have hT : Shared.TypeIs { s with heap := s.heap.push { cls := .type "set", dict := none, data := .set #[] 0 (.fresh 0 0 led) } } (.ref s.heap.objs.size) "set" := ⟨_, hS, rfl⟩
     have hli := PySem.F.called_set.init.lookup
     have hbi := PySem.F.called_set.init.bind (.ref s.heap.objs.size)
     repeat (any_goals (first | assumption | wp_step))
     refine codeAny_mono (codeAny_call_builtin (R := wants (fun r s₂ => r = .none /\ ∃ h' tk zs, s₂ = { s with heap := h', toks := tk } /\ TxSet prog w h' s.heap.objs.size zs /\ zs.length <= items.size /\ (∀ z, z ∈ zs ↔ ∃ j, j < items.size /\ val j = z) /\
         (∀ b o, s.heap.get? b = some o -> h'.get? b = some o)) E) PySem.F.called_set.init.plain PySem.F.entry_set_init (check_set_init_1 hT ?_)) fun r₂ s₂ hr₂ => ?_
     · obtain ⟨ol, hol, hcl, nl, hdl⟩ := hl
       obtain ⟨ocls, odict, odata, oslots⟩ := ol
       simp only at hcl hdl
       subst hcl; subst hdl
       have hol' := Heap.get?_push_of_some { cls := .type "set", dict := none, data := .set #[] 0 (.fresh 0 0 led) } hol
       have hsls := PySem.F.sub_list_set
       have hslf := PySem.F.sub_list_frozenset
       have hne : (Value.type "list" == Value.type "dict") = false := by decide
       have hl1 : (s.heap.push { cls := .type "set", dict := none, data := .set #[] 0 (.fresh 0 0 led) }).IsList l items := ⟨_, hol', rfl, nl, rfl⟩
       unfold Builtin.«set.__init__» noKeywords Builtin.Frozenset.updateFrom
       generalize hPI : pyIter = PI
       wp_walk
       subst hPI
       refine wpAny_pyIter_list hl1 ?_
       refine wpAny_bind (wpAny_runValue ?_)
       have hlS : l < s.heap.objs.size := Heap.lt_size hol
       have hh3 : A.in1.in1.in1.handled = none := by simp [hh]
       have hneI : l ≠ (s.heap.push { cls := .type "set", dict := none, data := .set #[] 0 (.fresh 0 0 led) }).objs.size := by
         rw [Heap.size_push]
         exact Nat.ne_of_lt (Nat.lt_succ_of_lt hlS)
       have hSf : s.heap.objs.size ∉ [(s.heap.push { cls := .type "set", dict := none, data := .set #[] 0 (.fresh 0 0 led) }).objs.size, l] := by
         rw [Heap.size_push]
         simp only [List.mem_cons, List.not_mem_nil, or_false, not_or]
         exact ⟨Nat.ne_of_lt (Nat.lt_succ_self _), Nat.ne_of_gt hlS⟩
       refine tx_loop ((Walks.list hh3 _ l hneI items).toS) s.heap.objs.size hSf val hi hb (items.size - 0) 0 _ [] (by omega) (Nat.zero_le _) ⟨⟨_, Heap.get?_push_size _ rfl, rfl, rfl⟩, (hl1.push _)⟩ ?_ (Nat.zero_le _) (fun z => Iff.intro (fun q => by cases q) fun ⟨j, q, _⟩ => absurd q (Nat.not_lt_zero _)) ?_
       · exact tx_fresh led hled (Heap.get?_push_of_some _ hS)
       · intro s' zs hm hS' hlz hz
         obtain ⟨h', g', d', tk', os'⟩ := s'
         have eg : g' = s.gens := hm.gens
         have ed : d' = s.drawn := hm.drawn
         have eo : os' = s.os := hm.os
         subst eg; subst ed; subst eo
         show wpAny _ _ _ _ _ _
         refine wpAny_pure ?_
         show wpAny _ _ (ret Value.none) _ _ _
         refine wpAny_pure ⟨rfl, h', tk', zs, rfl, hS', hlz, hz, fun b o e => ?_⟩
         have hbl := Heap.lt_size e
         refine hm.heap b o ?_ (Heap.get?_push_of_some _ (Heap.get?_push_of_some _ e))
         rw [Heap.size_push]
         simp only [List.mem_cons, List.not_mem_nil, or_false, not_or]
         exact ⟨Nat.ne_of_lt hbl, Nat.ne_of_lt (Nat.lt_succ_of_lt hbl)⟩
     · cases r₂ with
       | error e => exact hr₂
       | ok fl₂ =>
         cases fl₂ with
         | ret r =>
           obtain ⟨rfl, h', tk, zs, rfl, hS', hlz, hz, hk'⟩ := hr₂
           repeat (any_goals (first | assumption | wp_step))
           exact h _ _ _ hS' hlz hz hk'
         | _ => exact hr₂.elim
   | _ => exact hr.elim
end
end L2
namespace L2
open PySem PyProof.Rows
section
variable {prog : Program} {w : World} {A : Around} {E : Value -> Shared -> Prop} {s : Shared}
theorem strs_ofT : ∀ {vs : List Value} {ss : List Str}, vs.length = ss.length -> (∀ (i : Nat) (v : Value) (x : Str), vs[i]? = some v -> ss[i]? = some x -> ∃ t, v = .str x t) -> StrsAre vs ss
 | [], [], _, _ => .nil
 | [], _ :: _, h, _ => by simp at h
 | _ :: _, [], h, _ => by simp at h
 | v :: vs, x :: ss, h, hh => by
   obtain ⟨t, rfl⟩ := hh 0 v x rfl rfl
   exact .cons x t (strs_ofT (by simpa using h) fun i v' x' h1 h2 => hh (i + 1) v' x' (by simpa using h1) (by simpa using h2))
theorem strs_len : ∀ {vs : List Value} {ss : List Str}, StrsAre vs ss -> vs.length = ss.length
 | _, _, .nil => rfl
 | _, _, .cons y t h => by rw [List.length_cons, List.length_cons, strs_len h]
theorem hint_tx {r : Addr} {Q : Bool -> Shared -> Prop} (hT : s.TypeIs (.ref r) "set") (h : Q false s) : wpAny (model prog w) A (Builtin.List.listLengthHint (.ref r)) Q E s := by
 unfold Builtin.List.listLengthHint
 refine wpAny_bind (wpAny_specialOf hT PySem.F.slot_set_len.lookup ?_)
 generalize hid : ("set.__len__" : String) = id0
 wp_delta
 rw [show splitId id0 = some ("set", "__len__") from by subst hid; decide +kernel]
 subst hid
 refine wpAny_bind (wpAny_isInstance (T := "set") (b := true) hT (by rw [isSubtype_type]; kernel_rfl) ?_)
 refine wpAny_ite_split (fun hab => absurd hab (by decide)) (fun _ => ?_)
 refine wpAny_ite_split (fun _ => ?_) (fun hab => absurd (by decide +kernel) hab)
 refine wpAny_bind (wpAny_typeOf hT ?_)
 exact wpAny_pure h
def Rq (s : Shared) (zs : List Str) (L : Addr) (q : Result) (s' : Shared) : Prop := ∃ (h' : Heap) (tk : Nat) (d : _) (vs : Array Value) (c' : Nat) (ord : List Str), q = .ok (.ret (.ref L)) /\ s' = { s with heap := h', toks := tk, drawn := d } /\
 (∀ b o, s.heap.get? b = some o -> h'.get? b = some o) /\ h'.get? L = some { cls := .type "list", dict := none, data := .seq vs c', slots := #[] } /\ ord.Perm zs /\ StrsAre vs.toList ord
theorem collect_tx {r : Addr} {zs : List Str} {R : List Value -> Shared -> Prop} (hh : A.handled = none) (hS : TxSet prog w s.heap r zs)
   (h : ∀ (h' : Heap) (tk : Nat) d (vs : List Value) (ord : List Str), (∀ b o, s.heap.get? b = some o -> h'.get? b = some o) -> StrsAre vs ord -> ord.Perm zs -> R vs { s with heap := h', toks := tk, drawn := d }) :
   wpAny (model prog w) A (collect (.ref r)) R E s := by
 have hrT : s.TypeIs (.ref r) "set" := by obtain ⟨o, es, ep, t, ho, hx, _⟩ := hS; exact ⟨o, ho, hx.1⟩
 have hrl : r < s.heap.objs.size := by obtain ⟨o, es, ep, t, ho, hx, _⟩ := hS; exact Heap.lt_size ho
 unfold collect
 refine wpAny_bind (wpAny_runValue (codeAny_builtin entry_proto_collect' ?_))
 rw [Around.under_plainId PySem.F.plain_proto_collect _]
 show wpAny _ A.in1 (newList [] >>= fun l => again (.builtin "list.__iadd__" ⟨[l, .ref r], []⟩)) _ _ s
 refine wpAny_bind (wpAny_newObj_type ?_)
 refine wpAny_pure ⟨plainId_quiet PySem.F.plain_list_iadd _, codeAny_builtin entry_list_iadd' ?_⟩
 rw [Around.under_plainId PySem.F.plain_list_iadd _]
 generalize hh1 : s.heap.push { cls := .type "list", data := .seq ([] : List Value).toArray } = h1
 have hS1 : h1.get? s.heap.objs.size = some { cls := .type "list", data := .seq #[] } := by rw [← hh1]; exact Heap.get?_push_size _ rfl
 have k1 : ∀ b o, s.heap.get? b = some o -> h1.get? b = some o := fun b o q => by rw [← hh1]; exact Heap.get?_push_of_some _ q
 have hz1 : h1.objs.size = s.heap.objs.size + 1 := by rw [← hh1, Heap.size_push]
 generalize hL : s.heap.objs.size = L at hS1 hz1 hrl ⊢
 have key : wpAny (model prog w) A.in1 (Builtin.List.listExtendWith (.ref L) (.ref r) (.ref L)) (fun fin s' => match fin with | .done f => Rq s zs L (.ok f) s' | .again c' => c'.quiet = true /\ codeAny (model prog w) A c' (Rq s zs L) s') (fun e s' => Rq s zs L (.error e) s') { s with heap := h1 } := by
   unfold Builtin.List.listExtendWith
   have hr1 : TxSet prog w h1 r zs := hS.kept fun o q => k1 _ _ q
   have hT1 : Shared.TypeIs { s with heap := h1 } (.ref r) "set" := by obtain ⟨o, es, ep, t, ho, hx, _⟩ := hr1; exact ⟨o, ho, hx.1⟩
   refine wpAny_bind (wpAny_typeOf (T := "set") hT1 ?_)
   have hLr : Builtin.List.listSameRef (.ref L) (.ref r) = false := by
     have : L ≠ r := Nat.ne_of_gt hrl
     simp [Builtin.List.listSameRef, this]
   have e1 : (Value.type "set" == Value.type "list") = false := by decide
   have e2 : (Value.type "set" == Value.type "tuple") = false := by decide
   simp only [hLr, e1, e2, Bool.or_false, Bool.false_eq_true, if_false]
   refine wpAny_bind (iter_tx (s := { s with heap := h1 }) hr1 fun h2 d o es ep t I T fst ord k2 hI hTT hIr ho hd hf he hsz hit hm hp => ?_)
   have hT2 : Shared.TypeIs { s with heap := h2, drawn := d } (.ref r) "set" := by
     obtain ⟨o', es', ep', t', ho', hx', _⟩ := hr1
     exact ⟨o', k2 _ _ ho', hx'.1⟩
   refine wpAny_bind (wpAny_holding (hint_tx (s := { s with heap := h2, drawn := d }) hT2 ?_))
   have hI1 : L + 1 <= I := by rw [← hz1]; exact hI
   have hTI : T ≠ I := by
     rcases hTT with e | ⟨_, e⟩
     · rw [e]; exact Nat.ne_of_lt (Nat.lt_of_lt_of_le (Nat.lt_succ_of_lt hrl) hI1)
     · exact e
   have hTL : T ≠ L := by
     rcases hTT with e | ⟨e, _⟩
     · rw [e]; exact Nat.ne_of_lt hrl
     · exact Nat.ne_of_gt (Nat.lt_of_lt_of_le (by rw [show h1.objs.size = L + 1 from hz1]; exact Nat.lt_succ_self _) e)
   have hS2 : h2.get? L = some { cls := .type "list", data := .seq #[] } := k2 _ _ hS1
   have hLf : L ∉ [I, r, T] := by
     simp only [List.mem_cons, List.not_mem_nil, or_false, not_or]
     exact ⟨Nat.ne_of_lt (Nat.lt_of_succ_le hI1), Nat.ne_of_gt hrl, hTL.symm⟩
   have hlen := vM he hm
   have hn : es.size <= sizeLine := by
     obtain ⟨o', es', ep', t', ho', hx', hd', _, hz', _, hb', _⟩ := hr1
     have := k2 _ _ ho'
     rw [ho] at this
     cases this
     rw [hd] at hd'
     cases hd'
     exact fits_of_scanBound hb'
   have go : ∀ (h3 : Heap) (c : Nat), (∀ b o, b ≠ L -> h2.get? b = some o -> h3.get? b = some o) -> h3.get? L = some { cls := .type "list", data := .seq #[] c } ->
       codeAny (model prog w) A (.builtin "list.extend.loop" ⟨[.ref L, .ref I, .ref L], []⟩) (Rq s zs L) { s with heap := h3, drawn := d } := by
     intro h3 c k3 hS3
     have W := walk_tx (prog := prog) (w := w) (A := A.in1) hh (ord := ord) hTI hIr.symm hd hf he
     refine codeAny_extend_loopS W.toS hn L hLf (.ref L) es.size 0 _ #[] c rfl (Nat.zero_le _) ?_ hS3 (ItemsOf.nil _) fun s' acc' c' hm' hS' hacc => ?_
     · exact W.frame 0 h2 h3 ⟨ho, fst, hit, hm⟩ fun b hb o q => k3 b o (fun e => hLf (e ▸ hb)) q
     · obtain ⟨h', g', d', tk', os'⟩ := s'
       have eg : g' = s.gens := hm'.gens
       have ed : d' = d := hm'.drawn
       have eo : os' = s.os := hm'.os
       subst eg; subst ed; subst eo
       refine ⟨h', tk', _, acc', c', ord, rfl, rfl, fun b o q => ?_, hS', hp, strs_ofT (by rw [Array.length_toList, hacc.1, hlen]) fun i v x h1 h2 => ?_⟩
       rotate_left
       · obtain ⟨z, t, e1, e2⟩ := hacc.2 i v (by rw [← Array.getElem?_toList]; exact h1)
         rw [h2] at e1
         cases e1
         exact ⟨t, e2⟩
       have hbl : b < L := by rw [← hL]; exact Heap.lt_size q
       refine hm'.heap b o ?_ (k3 b o (Nat.ne_of_lt hbl) (k2 b o (k1 b o q)))
       simp only [List.mem_cons, List.not_mem_nil, or_false, not_or]
       exact ⟨Nat.ne_of_lt hbl, Nat.ne_of_lt (Nat.lt_trans hbl (Nat.lt_of_succ_le hI1))⟩
   refine wpAny_ite_split (fun _ => ?_) (fun _ => wpAny_pure ⟨plainId_quiet PySem.F.plain_extend_loop _, go h2 0 (fun b o _ q => q) hS2⟩)
   refine wpAny_bind (wpAny_rule ?_)
   refine wpAny_bind ?_
   show wpAny _ _ (updateSeq L (·.push .none) >>= fun _ => updateSeq L (·.pop)) _ _ _
   refine wpAny_bind (wpAny_updateSeq hS2 rfl ?_)
   have hS3 := Heap.get?_update_self (Obj.mapSeq (·.push Value.none)) hS2 rfl
   refine wpAny_updateSeq (hz := by seq_fits) hS3 rfl ?_
   have hS4 := Heap.get?_update_self (Obj.mapSeq (·.pop)) hS3 rfl
   refine wpAny_pure ⟨plainId_quiet PySem.F.plain_extend_loop _, go _ _ (fun b o hb q => ?_) hS4⟩
   exact (Heap.get?_update_other _ _ (Ne.symm hb)).trans ((Heap.get?_update_other _ _ (Ne.symm hb)).trans q)
 refine wpAny_mono key (fun fin s' x => ?_) fun e s' x => ?_
 · cases fin with
   | done f =>
     obtain ⟨h', tk, d, vs, c', ord, e, rfl, k', hL', hp, hst⟩ := x
     cases e
     show wpAny _ A (load L >>= _) _ _ _
     exact wpAny_bind (wpAny_load hL' (wpAny_pure (h h' tk d vs.toList ord k' hst hp)))
   | again c1 =>
     refine ⟨x.1, codeAny_mono x.2 fun q s2 y => ?_⟩
     obtain ⟨h', tk, d, vs, c', ord, rfl, rfl, k', hL', hp, hst⟩ := y
     show wpAny _ A (load L >>= _) _ _ _
     exact wpAny_bind (wpAny_load hL' (wpAny_pure (h h' tk d vs.toList ord k' hst hp)))
 · obtain ⟨_, _, _, _, _, _, e, _⟩ := x
   cases e
theorem sorted_tx {r : Addr} {zs : List Str} {Q : Value -> Shared -> Prop} (hh : A.handled = none) (hS : TxSet prog w s.heap r zs) (hn : zs.length < 64)
   (h : ∀ (h1 h' : Heap) (tk : Nat) d (vs' : List Value) (ss' : List Str) (e : Nat), (∀ b o, s.heap.get? b = some o -> h1.get? b = some o) -> (∀ b o, h1.get? b = some o -> h'.get? b = some o) -> h'.get? h1.objs.size = some { cls := .type "list", data := .seq vs'.toArray e } -> StrsAre vs' ss' -> ss'.Perm zs -> sortedS ss' = true -> Q (.ref h1.objs.size) { s with heap := h', toks := tk, drawn := d }) :
   wpAny (model prog w) A (call (.builtin "sorted") [.ref r]) Q E s := by
 refine Calls.call_function_entry kind_sorted plain_sorted entry_sorted (args_sorted1 _) ?_
 unfold Builtin.«sorted»
 refine wpAny_bind (m := checkCount "sorted" 1 1 _) (wpAny_pure ?_)
 refine wpAny_bind (collect_tx (A := A.in1) hh hS fun h' tk d vs ord hk hA hp => ?_)
 have hl2 : vs.length = zs.length := by rw [strs_len hA, hp.length_eq]
 have hsl : sizeLine = 16777216 := sizeLine_eq
 refine wpAny_bind (wpAny_newList ?_ (by omega))
 have hoL : (h'.push (seqObj "list" vs.toArray 0)).get? h'.objs.size = some (seqObj "list" vs.toArray 0) := Heap.get?_push_size _ rfl
 show wpAny _ _ _ _ _ { s with heap := h'.push (seqObj "list" vs.toArray 0), toks := tk, drawn := d }
 refine wpAny_bind (wpAny_holding (wpAny_call_entry slot_list_sort ⟨_, hoL, rfl⟩ entry_list_sort (list_sort_treeK (A := A.in1.in1) strKind_oneLt hoL hA.keysOf (fun v₁ v₂ rest e => keyKind_strs (by rw [← e]; exact hA)) (by omega) fun st' a1 a2 => ⟨_, rfl, ?_⟩) (args_list_sort _)))
 obtain ⟨ss', h1, h2, h3⟩ := sorted_out_str hA a1 a2
 obtain ⟨e, he⟩ := sortedHeap_at (out := (arrOf st').map (·.2)) hoL
 refine wpAny_pure ⟨_, rfl, h h' _ tk d _ ss' e hk (fun b o hb' => ?_) (by rw [Array.toArray_toList]; exact he) h1 (h2.trans hp) h3⟩
 have hlt := Heap.lt_size hb'
 rw [sortedHeap_old (Nat.ne_of_lt hlt) (by rw [size_push']; exact Nat.lt_succ_of_lt hlt)]
 exact Heap.get?_push_of_some _ hb'
end
end L2
namespace L2
open PySem PySem.Spec PyProof.Rows PySem.SeqAt
mutual
def deq : Dt -> Dt -> Bool
 | .non, .non => true
 | .bl a, .bl b => a == b
 | .int a, .int b => a == b
 | .bl a, .int b => (if a then 1 else 0) == b
 | .int a, .bl b => a == (if b then 1 else 0)
 | .str a, .str b => a == b
 | .tup xs, .tup ys => deqs xs ys
 | .lst xs, .lst ys => deqs xs ys
 | _, _ => false
def deqs : List Dt -> List Dt -> Bool
 | [], [] => true
 | x :: xs, y :: ys => deq x y && deqs xs ys
 | _, _ => false
end
mutual
theorem deq_refl : ∀ d : Dt, deq d d = true
 | .non => rfl
 | .bl a => by simp [deq]
 | .int a => by simp [deq]
 | .str a => by simp [deq]
 | .tup ds => by rw [deq]; exact deqs_refl ds
 | .lst ds => by rw [deq]; exact deqs_refl ds
theorem deqs_refl : ∀ ds : List Dt, deqs ds ds = true
 | [] => rfl
 | d :: ds => by rw [deqs, deq_refl d, deqs_refl ds]; rfl
end
def eat (xs ys : List Dt) (j : Nat) : Bool :=
 match xs[j]?, ys[j]? with
 | some x, some y => deq x y
 | _, _ => false
theorem deqs_all : ∀ xs ys : List Dt, ((List.range (min xs.length ys.length)).all (eat xs ys) && xs.length == ys.length) = deqs xs ys
 | [], [] => rfl
 | [], y :: ys => by simp [deqs]
 | x :: xs, [] => by simp [deqs]
 | x :: xs, y :: ys => by
   rw [deqs, ← deqs_all xs ys, List.length_cons, List.length_cons, Nat.succ_min_succ, List.range_succ_eq_map, List.all_cons, List.all_map]
   have e1 : eat (x :: xs) (y :: ys) 0 = deq x y := rfl
   have e2 : eat (x :: xs) (y :: ys) ∘ Nat.succ = eat xs ys := by funext j; simp [eat]
   rw [e1, e2, Bool.and_assoc]
   congr 2
   rw [Bool.eq_iff_iff]
   simp
mutual
theorem DAt.one_of {H : Hp} : ∀ {d d' : Dt} {v : V}, DAt H d v -> DAt H d' v -> d = d'
 | d, .non, v, h, h' => by have h' : v = .non := h'; subst h'; cases d <;> simp_all [DAt]
 | d, .bl b, v, h, h' => by have h' : v = .bl b := h'; subst h'; cases d <;> simp_all [DAt]
 | d, .int b, v, h, h' => by have h' : v = .int b := h'; subst h'; cases d <;> simp_all [DAt]
 | d, .str b, v, h, h' => by have h' : v = .str b := h'; subst h'; cases d <;> simp_all [DAt]
 | d, .tup ds', v, h, h' => by
   obtain ⟨a, vs, rfl, e2, e3⟩ := h'
   cases d with
   | tup ds =>
     obtain ⟨a', vs', e1', e2', e3'⟩ := h
     cases e1'
     rw [e2] at e2'
     cases e2'
     rw [DAts.one_of e3' e3]
   | lst ds =>
     obtain ⟨a', vs', e1', e2', e3'⟩ := h
     cases e1'
     rw [e2] at e2'
     cases e2'
   | _ => cases h
 | d, .lst ds', v, h, h' => by
   obtain ⟨a, vs, rfl, e2, e3⟩ := h'
   cases d with
   | lst ds =>
     obtain ⟨a', vs', e1', e2', e3'⟩ := h
     cases e1'
     rw [e2] at e2'
     cases e2'
     rw [DAts.one_of e3' e3]
   | tup ds =>
     obtain ⟨a', vs', e1', e2', e3'⟩ := h
     cases e1'
     rw [e2] at e2'
     cases e2'
   | _ => cases h
theorem DAts.one_of {H : Hp} : ∀ {ds ds' : List Dt} {vs : List V}, DAts H ds vs -> DAts H ds' vs -> ds = ds'
 | ds, [], vs, h, h' => by
   have h' : vs = [] := h'
   subst h'
   cases ds with
   | nil => rfl
   | cons d ds => obtain ⟨v, r, e, _⟩ := h; cases e
 | ds, d' :: ds', vs, h, h' => by
   obtain ⟨v, r, rfl, e2, e3⟩ := h'
   cases ds with
   | nil => cases h
   | cons d ds =>
     obtain ⟨v', r', e, e2', e3'⟩ := h
     cases e
     rw [DAt.one_of e2' e2, DAts.one_of e3' e3]
end
section
variable {P : Program} {w : World} {H : Hp} {s : Shared}
theorem DAts.tup_of (ok : HOk P w H s.heap) {a : Addr} {vs : List V} (h : H a = some (.tup vs)) : ∃ its : List Value, Vals vs its /\ s.heap.IsTuple a its.toArray := by
 obtain ⟨z, its, r, p⟩ := ok a _ h
 exact ⟨its, r, p⟩
theorem DAts.lst_of (ok : HOk P w H s.heap) {a : Addr} {vs : List V} (h : H a = some (.lst vs)) : ∃ its : List Value, Vals vs its /\ s.heap.IsList a its.toArray := by
 obtain ⟨z, its, n, r, p⟩ := ok a _ h
 exact ⟨its, r, _, p, rfl, n, rfl⟩
theorem vals_at : ∀ {xs : List V} {us : List Value} {i : Nat} {x : V} {u : Value}, Vals xs us -> xs[i]? = some x -> us[i]? = some u -> RelV x u
 | _, _, _, _, _, .nil, h, _ => by simp at h
 | _, _, 0, _, _, .cons r q, h, h' => by
   simp at h h'
   subst h
   subst h'
   exact r
 | _, _, i + 1, _, _, .cons r q, h, h' => vals_at q (by simpa using h) (by simpa using h')
theorem rc_lists (ok : HOk P w H s.heap) {n : Nat} {A : Around} (ih : ∀ {A : Around} {d d' : Dt} {v v' : V} {u u' : Value}, DAt H d v -> DAt H d' v' -> RelV v u -> RelV v' u' -> DFit n d -> A.units + n < cLine -> EqAt A s u u' (deq d d'))
   {l l' : Addr} {ds ds' : List Dt} {vs vs' : List V} {its its' : List Value} (hs : DAts H ds vs) (hs' : DAts H ds' vs') (rv : Vals vs its) (rv' : Vals vs' its') (hl : s.heap.IsList l its.toArray) (hl' : s.heap.IsList l' its'.toArray)
   (f : ∀ d ∈ ds, DFit n d) (hu : A.units + (n + 1) < cLine) : RcAt A s (.ref l) (.ref l') (deqs ds ds') := by
 have k1 := hs.length
 have k2 := hs'.length
 have k3 := rv.length
 have k4 := rv'.length
 by_cases hz : ds.length = ds'.length
 · have key := RcAt.lists (A := A) (e := eat ds ds') hl hl' (by rw [List.size_toArray, List.size_toArray]; omega) (by omega) fun j h1 h2 => ?_
   · rw [← deqs_all, hz, Nat.min_self, beq_self_eq_true, Bool.and_true]
     rw [List.size_toArray] at key
     rw [show ds'.length = its.length by omega]
     exact key
   · rw [List.size_toArray] at h1 h2
     have hj : j < ds.length := by omega
     have hj' : j < ds'.length := by omega
     obtain ⟨x, x1, x2⟩ := hs.get (List.getElem?_eq_getElem hj)
     obtain ⟨y, y1, y2⟩ := hs'.get (List.getElem?_eq_getElem hj')
     have e1 : eat ds ds' j = deq ds[j] ds'[j] := by unfold eat; rw [List.getElem?_eq_getElem hj, List.getElem?_eq_getElem hj']
     rw [e1]
     refine ih x2 y2 ?_ ?_ (f _ (List.getElem_mem hj)) (by show A.units + 1 + n < cLine; omega)
     · exact vals_at rv x1 (by rw [List.getElem_toArray]; exact List.getElem?_eq_getElem h1)
     · exact vals_at rv' y1 (by rw [List.getElem_toArray]; exact List.getElem?_eq_getElem h2)
 · have hf : deqs ds ds' = false := by rw [← deqs_all, show (ds.length == ds'.length) = false by simpa using hz, Bool.and_false]
   rw [hf]
   exact RcAt.lists_lengths hl hl' (by rw [List.size_toArray, List.size_toArray]; simp; omega) (by omega)
theorem deq_same (ok : HOk P w H s.heap) {A : Around} {d : Dt} {v : V} {u u' : Value} (h : DAt H d v) (r : RelV v u) (r' : RelV v u') : EqAt A s u u' true := by
 cases d with
 | non => have h : v = .non := h; subst h; cases r; cases r'; exact EqAt.same _
 | bl a => have h : v = .bl a := h; subst h; cases r; cases r'; exact EqAt.same _
 | int a =>
   have h : v = .int a := h
   subst h
   obtain ⟨t, rfl⟩ := r
   obtain ⟨t', rfl⟩ := r'
   have := EqAt.int_int (A := A) (s := s) a t a t'
   rwa [beq_self_eq_true] at this
 | str a =>
   have h : v = .str a := h
   subst h
   obtain ⟨t, rfl⟩ := r
   obtain ⟨t', rfl⟩ := r'
   have := EqAt.str_str (A := A) (s := s) a t a t'
   rwa [beq_self_eq_true] at this
 | tup ds => obtain ⟨l, vs, rfl, _⟩ := h; cases r; cases r'; exact EqAt.same _
 | lst ds => obtain ⟨l, vs, rfl, _⟩ := h; cases r; cases r'; exact EqAt.same _
theorem vT (ok : HOk P w H s.heap) {A : Around} {d d' : Dt} {v v' : V} {u u' : Value} (h : DAt H d v) (h' : DAt H d' v') (r : RelV v u) (r' : RelV v' u') (hu : A.units < cLine) (hk : ∀ ds ds', ¬ (d = .tup ds /\ d' = .tup ds') /\ ¬ (d = .lst ds /\ d' = .lst ds')) : EqAt A s u u' (deq d d') := by
 cases d with
 | non =>
   have h : v = .non := h
   subst h
   cases r
   cases d' with
   | non =>
     have h' : v' = .non := h'
     subst h'
     cases r'
     simp only [deq]
     exact EqAt.same _
   | bl b =>
     have h' : v' = .bl b := h'
     subst h'
     cases r'
     simp only [deq]
     exact EqAt.none_bool _
   | int b =>
     have h' : v' = .int b := h'
     subst h'
     obtain ⟨t', rfl⟩ := r'
     simp only [deq]
     exact EqAt.none_int _ _
   | str b =>
     have h' : v' = .str b := h'
     subst h'
     obtain ⟨t', rfl⟩ := r'
     simp only [deq]
     exact EqAt.none_str _ _
   | tup ds' =>
     obtain ⟨l', vs', rfl, e', hs'⟩ := h'
     cases r'
     obtain ⟨its', rv', hl'⟩ := DAts.tup_of ok e'
     simp only [deq]
     exact EqAt.none_tuple hl' hu
   | lst ds' =>
     obtain ⟨l', vs', rfl, e', hs'⟩ := h'
     cases r'
     obtain ⟨its', rv', hl'⟩ := DAts.lst_of ok e'
     simp only [deq]
     exact EqAt.none_list hl' hu
 | bl a =>
   have h : v = .bl a := h
   subst h
   cases r
   cases d' with
   | non =>
     have h' : v' = .non := h'
     subst h'
     cases r'
     simp only [deq]
     exact EqAt.bool_none _
   | bl b =>
     have h' : v' = .bl b := h'
     subst h'
     cases r'
     simp only [deq]
     exact EqAt.bool_bool _ _
   | int b =>
     have h' : v' = .int b := h'
     subst h'
     obtain ⟨t', rfl⟩ := r'
     simp only [deq]
     exact EqAt.bool_int _ _ _
   | str b =>
     have h' : v' = .str b := h'
     subst h'
     obtain ⟨t', rfl⟩ := r'
     simp only [deq]
     exact EqAt.bool_str _ _ _
   | tup ds' =>
     obtain ⟨l', vs', rfl, e', hs'⟩ := h'
     cases r'
     obtain ⟨its', rv', hl'⟩ := DAts.tup_of ok e'
     simp only [deq]
     exact EqAt.bool_tuple _ hl' hu
   | lst ds' =>
     obtain ⟨l', vs', rfl, e', hs'⟩ := h'
     cases r'
     obtain ⟨its', rv', hl'⟩ := DAts.lst_of ok e'
     simp only [deq]
     exact EqAt.bool_list _ hl' hu
 | int a =>
   have h : v = .int a := h
   subst h
   obtain ⟨t, rfl⟩ := r
   cases d' with
   | non =>
     have h' : v' = .non := h'
     subst h'
     cases r'
     simp only [deq]
     exact EqAt.int_none _ _
   | bl b =>
     have h' : v' = .bl b := h'
     subst h'
     cases r'
     simp only [deq]
     exact EqAt.int_bool _ _ _
   | int b =>
     have h' : v' = .int b := h'
     subst h'
     obtain ⟨t', rfl⟩ := r'
     simp only [deq]
     exact EqAt.int_int _ _ _ _
   | str b =>
     have h' : v' = .str b := h'
     subst h'
     obtain ⟨t', rfl⟩ := r'
     simp only [deq]
     exact EqAt.int_str _ _ _ _
   | tup ds' =>
     obtain ⟨l', vs', rfl, e', hs'⟩ := h'
     cases r'
     obtain ⟨its', rv', hl'⟩ := DAts.tup_of ok e'
     simp only [deq]
     exact EqAt.int_tuple _ _ hl' hu
   | lst ds' =>
     obtain ⟨l', vs', rfl, e', hs'⟩ := h'
     cases r'
     obtain ⟨its', rv', hl'⟩ := DAts.lst_of ok e'
     simp only [deq]
     exact EqAt.int_list _ _ hl' hu
 | str a =>
   have h : v = .str a := h
   subst h
   obtain ⟨t, rfl⟩ := r
   cases d' with
   | non =>
     have h' : v' = .non := h'
     subst h'
     cases r'
     simp only [deq]
     exact EqAt.str_none _ _
   | bl b =>
     have h' : v' = .bl b := h'
     subst h'
     cases r'
     simp only [deq]
     exact EqAt.str_bool _ _ _
   | int b =>
     have h' : v' = .int b := h'
     subst h'
     obtain ⟨t', rfl⟩ := r'
     simp only [deq]
     exact EqAt.str_int _ _ _ _
   | str b =>
     have h' : v' = .str b := h'
     subst h'
     obtain ⟨t', rfl⟩ := r'
     simp only [deq]
     exact EqAt.str_str _ _ _ _
   | tup ds' =>
     obtain ⟨l', vs', rfl, e', hs'⟩ := h'
     cases r'
     obtain ⟨its', rv', hl'⟩ := DAts.tup_of ok e'
     simp only [deq]
     exact EqAt.str_tuple _ _ hl' hu
   | lst ds' =>
     obtain ⟨l', vs', rfl, e', hs'⟩ := h'
     cases r'
     obtain ⟨its', rv', hl'⟩ := DAts.lst_of ok e'
     simp only [deq]
     exact EqAt.str_list _ _ hl' hu
 | tup ds =>
   obtain ⟨l, vs, rfl, e, hs⟩ := h
   cases r
   obtain ⟨its, rv, hl⟩ := DAts.tup_of ok e
   cases d' with
   | non =>
     have h' : v' = .non := h'
     subst h'
     cases r'
     simp only [deq]
     exact EqAt.tuple_none hl hu
   | bl b =>
     have h' : v' = .bl b := h'
     subst h'
     cases r'
     simp only [deq]
     exact EqAt.tuple_bool _ hl hu
   | int b =>
     have h' : v' = .int b := h'
     subst h'
     obtain ⟨t', rfl⟩ := r'
     simp only [deq]
     exact EqAt.tuple_int _ _ hl hu
   | str b =>
     have h' : v' = .str b := h'
     subst h'
     obtain ⟨t', rfl⟩ := r'
     simp only [deq]
     exact EqAt.tuple_str _ _ hl hu
   | tup ds' => exact absurd ⟨rfl, rfl⟩ (hk _ _).1
   | lst ds' =>
     obtain ⟨l', vs', rfl, e', hs'⟩ := h'
     cases r'
     obtain ⟨its', rv', hl'⟩ := DAts.lst_of ok e'
     simp only [deq]
     exact EqAt.tuple_list hl hl' hu
 | lst ds =>
   obtain ⟨l, vs, rfl, e, hs⟩ := h
   cases r
   obtain ⟨its, rv, hl⟩ := DAts.lst_of ok e
   cases d' with
   | non =>
     have h' : v' = .non := h'
     subst h'
     cases r'
     simp only [deq]
     exact EqAt.list_none hl hu
   | bl b =>
     have h' : v' = .bl b := h'
     subst h'
     cases r'
     simp only [deq]
     exact EqAt.list_bool _ hl hu
   | int b =>
     have h' : v' = .int b := h'
     subst h'
     obtain ⟨t', rfl⟩ := r'
     simp only [deq]
     exact EqAt.list_int _ _ hl hu
   | str b =>
     have h' : v' = .str b := h'
     subst h'
     obtain ⟨t', rfl⟩ := r'
     simp only [deq]
     exact EqAt.list_str _ _ hl hu
   | tup ds' =>
     obtain ⟨l', vs', rfl, e', hs'⟩ := h'
     cases r'
     obtain ⟨its', rv', hl'⟩ := DAts.tup_of ok e'
     simp only [deq]
     exact EqAt.list_tuple hl hl' hu
   | lst ds' => exact absurd ⟨rfl, rfl⟩ (hk _ _).2
theorem deq_at (ok : HOk P w H s.heap) : ∀ (n : Nat) {A : Around} {d d' : Dt} {v v' : V} {u u' : Value}, DAt H d v -> DAt H d' v' -> RelV v u -> RelV v' u' -> DFit n d -> A.units + n < cLine -> EqAt A s u u' (deq d d') := by
 intro n
 induction n with
 | zero =>
   intro A d d' v v' u u' h h' r r' f hu
   exact vT ok h h' r r' hu fun ds ds' => ⟨fun e => by rw [e.1] at f; exact f, fun e => by rw [e.1] at f; exact f⟩
 | succ n ih =>
   intro A d d' v v' u u' h h' r r' f hu
   by_cases hvv : v = v'
   · subst hvv
     rw [DAt.one_of h h', deq_refl]
     have hd : d = d' := DAt.one_of h h'
     subst hd
     have hx := deq_same ok (A := A) h r r'
     exact hx
   cases d with
   | tup ds =>
     cases d' with
     | tup ds' =>
       obtain ⟨l, vs, rfl, e, hs⟩ := h
       obtain ⟨l', vs', rfl, e', hs'⟩ := h'
       cases r
       cases r'
       obtain ⟨its, rv, hl⟩ := DAts.tup_of ok e
       obtain ⟨its', rv', hl'⟩ := DAts.tup_of ok e'
       have k1 := hs.length
       have k2 := hs'.length
       have k3 := rv.length
       have k4 := rv'.length
       have key := RcAt.tuples (A := A) (e := eat ds ds') hl hl' (by omega) fun j h1 h2 => ?_
       · simp only [deq]
         rw [← deqs_all]
         refine EqAt.of_refs (fun z => hvv (by rw [z])) ?_
         rw [List.size_toArray, List.size_toArray] at key
         rw [← k1, ← k2, k3, k4]
         exact key
       · rw [List.size_toArray] at h1 h2
         have hj : j < ds.length := by omega
         have hj' : j < ds'.length := by omega
         obtain ⟨x, x1, x2⟩ := hs.get (List.getElem?_eq_getElem hj)
         obtain ⟨y, y1, y2⟩ := hs'.get (List.getElem?_eq_getElem hj')
         have e1 : eat ds ds' j = deq ds[j] ds'[j] := by unfold eat; rw [List.getElem?_eq_getElem hj, List.getElem?_eq_getElem hj']
         rw [e1]
         refine ih x2 y2 ?_ ?_ (f.2 _ (List.getElem_mem hj)) (by show A.units + 1 + n < cLine; omega)
         · exact vals_at rv x1 (by rw [List.getElem_toArray]; exact List.getElem?_eq_getElem h1)
         · exact vals_at rv' y1 (by rw [List.getElem_toArray]; exact List.getElem?_eq_getElem h2)
     | _ => exact vT ok h h' r r' (by omega) fun ds ds' => ⟨fun e => (by cases e.2), fun e => (by cases e.1)⟩
   | lst ds =>
     cases d' with
     | lst ds' =>
       obtain ⟨l, vs, rfl, e, hs⟩ := h
       obtain ⟨l', vs', rfl, e', hs'⟩ := h'
       cases r
       cases r'
       obtain ⟨its, rv, hl⟩ := DAts.lst_of ok e
       obtain ⟨its', rv', hl'⟩ := DAts.lst_of ok e'
       simp only [deq]
       exact EqAt.of_refs (fun z => hvv (by rw [z])) (rc_lists ok ih hs hs' rv rv' hl hl' f.2 hu)
     | _ => exact vT ok h h' r r' (by omega) fun ds ds' => ⟨fun e => (by cases e.1), fun e => (by cases e.2)⟩
   | _ => exact vT ok h h' r r' (by omega) fun ds ds' => ⟨fun e => (by cases e.1), fun e => (by cases e.1)⟩
end
section
variable {X : Cx}
def rEqD : R2 := fun x y H Q => ∃ n ds ds', DAt H (.lst ds) x /\ DAt H (.lst ds') y /\ (∀ d ∈ ds, DFit n d) /\ n <= 60 /\ Q (.bl (deqs ds ds')) H
theorem op_eqD (hu : X.A.units + 64 < cLine) : OpR X (compareOp .Eq) rEqD := by
 intro pins s σ H x y v u Q I rx ry h
 obtain ⟨n, ds, ds', ⟨l, vs, rfl, e, hs⟩, ⟨l', vs', rfl, e', hs'⟩, f, hn, q⟩ := h
 cases rx
 cases ry
 obtain ⟨its, rv, hl⟩ := DAts.lst_of I.hok e
 obtain ⟨its', rv', hl'⟩ := DAts.lst_of I.hok e'
 exact rc_lists I.hok (fun a b c d f g => deq_at I.hok n a b c d f g) hs hs' rv rv' hl hl' f (by omega) X.prog X.w _ _ (yN I q rfl)
end
end L2
namespace L2
open PySem PySem.Spec PyProof.Rows PySem.SeqAt
section
variable {X : Cx}
theorem Inv.drawn {pins : List (Addr × Obj)} {σ : St} {H : Hp} {s : Shared} (I : Inv X pins σ H s) (d : _) : Inv X pins σ H { s with drawn := d } := ⟨I.ok, I.os, I.bare, I.base, I.loc, I.cell, I.free, I.freeC, I.pin, I.hok, I.len⟩
def TxO (P : Program) (w : World) (p : Addr) (zs : List Str) : HO := .ext fun h => TxSet P w h p zs
theorem vals_str : ∀ {zs : List Str} {its : List Value}, Vals (zs.map V.str) its -> ∀ (i : Nat) (v : Value), its[i]? = some v -> ∃ z t, zs[i]? = some z /\ v = .str z t
 | [], _, .nil, i, v, h => by simp at h
 | z :: zs, _, .cons r q, 0, v, h => by
   obtain ⟨t, rfl⟩ := r
   simp at h
   exact ⟨z, t, rfl, h.symm⟩
 | z :: zs, _, .cons r q, i + 1, v, h => by
   obtain ⟨z', t, e1, e2⟩ := vals_str q i v (by simpa using h)
   exact ⟨z', t, by simpa using e1, e2⟩
theorem call_setT : yZ X (.type "set") (fun xs H Q => X.calm = true /\ ∃ (p : Addr) (zs : List Str), xs = [.ref p] /\ SqL X.K H p (zs.map V.str) /\ zs.length < 4000 /\
   ∀ l ys, H l = none -> ys.Nodup -> (∀ z, z ∈ ys ↔ z ∈ zs) -> Q (.ref l) (upd H l (TxO X.prog X.w l ys))) := by
 intro pins s σ H xs us Q I r h
 obtain ⟨hc, p, zs, rfl, hp, h4, q⟩ := h
 obtain ⟨u, rfl, ru⟩ := xN r
 cases ru
 obtain ⟨its, rv, ⟨o, n, e1, e2, e3, e4⟩, z⟩ := I.list hp
 have hil : its.length = zs.length := by have := rv.length; rw [List.length_map] at this; omega
 have hsb : scanBound = 4096 := rfl
 refine tx_call (items := its.toArray) (val := fun i => zs.getD i "") (I.ok.hd hc) ⟨o, e1, e2, n, by simpa using e4⟩ (fun i v hv => ?_) (by rw [List.size_toArray]; omega) fun h' tk ys hS hly hz k => ?_
 · obtain ⟨z, t, a1, a2⟩ := vals_str rv i v (by rw [← List.getElem?_toArray]; exact hv)
   exact ⟨t, by rw [a2, List.getD_eq_getElem?_getD, a1]; rfl⟩
 · have hnd : ys.Nodup := by obtain ⟨_, _, _, _, _, _, _, _, _, x, _⟩ := hS; exact x
   have hth : ∃ o, h'.get? s.heap.objs.size = some o := by obtain ⟨o, _, _, _, x, _⟩ := hS; exact ⟨o, x⟩
   refine ⟨.ref _, _, I.laid (a := s.heap.objs.size) (o := TxO X.prog X.w s.heap.objs.size ys) (t' := tk) k (Nat.le_refl _) ⟨hS, hth, fun h1 h2 x y => x.kept y⟩, rfl, q _ _ (I.hok.fresh (Nat.le_refl _)) hnd fun z => ?_⟩
   rw [hz, List.size_toArray, hil]
   constructor
   · rintro ⟨j, hj, rfl⟩
     rw [List.getD_eq_getElem?_getD, List.getElem?_eq_getElem hj]
     exact List.getElem_mem hj
   · intro hm
     obtain ⟨j, hj, e⟩ := List.getElem_of_mem hm
     exact ⟨j, hj, by rw [List.getD_eq_getElem?_getD, List.getElem?_eq_getElem hj]; exact e⟩
theorem call_sortedX : yZ X (.builtin "sorted") (fun xs H Q => X.calm = true /\ ∃ (p : Addr) (ys : List Str), xs = [.ref p] /\ H p = some (TxO X.prog X.w p ys) /\ ys.length < 64 /\
   ∀ l zs', H l = none -> zs'.Perm ys -> sortedS zs' = true -> Q (.ref l) (upd H l (.lst (zs'.map V.str)))) := by
 intro pins s σ H xs us Q I r h
 obtain ⟨hc, p, ys, rfl, hp, h64, q⟩ := h
 obtain ⟨u, rfl, ru⟩ := xN r
 cases ru
 have hS : TxSet X.prog X.w s.heap p ys := (I.hok p _ hp).1
 refine sorted_tx (I.ok.hd hc) hS h64 fun h1 h' tk d vs' ss' e k1 k2 hB hA hp2 hs2 => ?_
 have I1 : Inv X pins σ H { s with heap := h1, toks := tk, drawn := d } := (I.kept k1).drawn d
 have hlen : ss'.length = ys.length := hp2.length_eq
 exact ⟨.ref h1.objs.size, _, I1.laid (a := h1.objs.size) (o := .lst (ss'.map V.str)) (t' := tk) k2 (Nat.le_refl _) ⟨by rw [List.length_map, sizeLine_eq]; omega, vs', e, strs_vals hA, hB⟩, rfl, q _ _ (I1.hok.fresh (Nat.le_refl _)) hp2 hs2⟩
end
theorem str_extL {a b : Str} (h : a.cps.toList = b.cps.toList) : a = b := by
 cases a; cases b
 congr 1
 exact Array.toList_inj.mp h
def leS (a b : Str) : Prop := ltCps b.cps.toList a.cps.toList = false
theorem jL (a b : Str) : leS a b ↔ a.cps.toList <= b.cps.toList := by
 unfold leS
 rw [ltCps_eq, decide_eq_false_iff_not, List.not_lt]
theorem rising_pw : ∀ (p : Str) (l : List Str), risingS p l = true -> (p :: l).Pairwise leS
 | p, [], _ => by simp
 | p, x :: r, h => by
   have h : (!ltCps x.cps.toList p.cps.toList && risingS x r) = true := h
   rw [Bool.and_eq_true, Bool.not_eq_true'] at h
   have ih := rising_pw x r h.2
   refine List.pairwise_cons.mpr ⟨fun y hy => ?_, ih⟩
   rcases List.mem_cons.mp hy with rfl | hy
   · exact h.1
   · rw [jL]
     exact List.le_trans ((jL _ _).mp h.1) ((jL _ _).mp (List.rel_of_pairwise_cons ih hy))
theorem sorted_pw : ∀ {l : List Str}, sortedS l = true -> l.Pairwise leS
 | [], _ => by simp
 | p :: r, h => rising_pw p r h
theorem sorted_one {l l' : List Str} (h : sortedS l = true) (h' : sortedS l' = true) (p : l.Perm l') : l = l' := by
 refine List.Perm.eq_of_pairwise (le := leS) (fun a b _ _ h1 h2 => ?_) (sorted_pw h) (sorted_pw h') p
 exact str_extL (List.le_antisymm ((jL _ _).mp h1) ((jL _ _).mp h2))
theorem qT {l m : List Str} (h : l.Nodup) (h' : m.Nodup) (e : ∀ x, x ∈ l ↔ x ∈ m) : l.Perm m := (List.perm_ext_iff_of_nodup h h').mpr e
theorem cx_P {CX : CXT} {P : Program} {w : World} {K : PySem.W.Frag} {mg : Str -> Option Value} {base : Heap} {N : List Str} {qual : Str} {scope : Scope} {f : Addr} {cd : Value} {A : Around} {outer : List Env} {s : Shared} {H : Hp} {E : XK} : (xW CX P w K mg base N qual scope f cd A outer s H E).prog = P := rfl
end L2
local macro_rules | `(tactic| simp! [$ts,*]) => `(tactic| simp only [L2.tSeq, L2.tFor_eq, L2.tLC_eq, L2.iRng1, L2.iRng2, L2.iList, L2.iTup, L2.iStr, L2.tIfS, L2.tRet, L2.tRetN, L2.tNext, L2.tAsg, L2.gName, L2.tVar, L2.tC, L2.tOp, L2.rI0, L2.rI, L2.tTest, L2.tB, L2.rEq, L2.rNe, L2.tCall, L2.tCons, L2.tNil, L2.tCB, L2.tLst, L2.tTup, L2.tAnd, L2.tOr, L2.tNot, L2.tAndV, L2.tOrV, L2.tNotV, L2.tIf, L2.tDrop, L2.tSl, L2.tPart, L2.tNoPart, L2.tChain, L2.tUn, L2.rU, L2.start, L2.cx_K, L2.bk_K, L2.cx_calm, L2.bk_calm, L2.lenV_str, and_assoc, Option.join, List.length_map, List.length_append, decide_eq_true_eq, Bool.false_eq_true, if_false, if_true, Bool.not_true, Bool.not_false, Bool.not_eq_true', decide_eq_false_iff_not, Bool.true_eq_false, List.length_cons, List.length_nil, List.map_cons, List.map_nil, List.replicate, List.cons_append, List.nil_append, List.append_nil, List.getElem?_cons_zero, List.getElem?_cons_succ, List.set_cons_zero, List.set_cons_succ, Nat.reduceSub, Nat.reduceAdd, Option.some.injEq, L2.V.int.injEq, L2.V.str.injEq, L2.V.bl.injEq, L2.V.ref.injEq, List.cons.injEq, and_true, true_and, exists_eq_left', exists_eq_left, exists_and_left, exists_eq_right, exists_const, L2.tBM, L2.tBM0, L2.rAppend, L2.rPop, L2.rIxL, L2.rIxT, L2.rIxS, L2.rSlL, L2.rSlT, L2.rSlS, L2.rCat, L2.rCatT, L2.tKGet, L2.cx_w, L2.bk_w, L2.tDGet, L2.tDisp, L2.tPairs, L2.tDNewK, L2.cx_P, $ts,*])
namespace L2
open PySem PySem.Spec PyProof.Rows PySem.SeqAt
section
variable {P : Program} {w : World} {H : Hp} {s : Shared}
theorem rn_tups (ok : HOk P w H s.heap) {n : Nat} {A : Around} (ih : ∀ {A : Around} {d d' : Dt} {v v' : V} {u u' : Value}, DAt H d v -> DAt H d' v' -> RelV v u -> RelV v' u' -> DFit n d -> A.units + n < cLine -> EqAt A s u u' (deq d d'))
   {l l' : Addr} {ds ds' : List Dt} {vs vs' : List V} {its its' : List Value} (hs : DAts H ds vs) (hs' : DAts H ds' vs') (rv : Vals vs its) (rv' : Vals vs' its') (hl : s.heap.IsTuple l its.toArray) (hl' : s.heap.IsTuple l' its'.toArray)
   (f : ∀ d ∈ ds, DFit n d) (hu : A.units + (n + 1) < cLine) : RcNeAt A s (.ref l) (.ref l') (!deqs ds ds') := by
 have k1 := hs.length
 have k2 := hs'.length
 have k3 := rv.length
 have k4 := rv'.length
 have at_ : ∀ j (h1 : j < its.toArray.size) (h2 : j < its'.toArray.size), EqAt A.in1 s its.toArray[j] its'.toArray[j] (eat ds ds' j) := fun j h1 h2 => by
   rw [List.size_toArray] at h1 h2
   have hj : j < ds.length := by omega
   have hj' : j < ds'.length := by omega
   obtain ⟨x, x1, x2⟩ := hs.get (List.getElem?_eq_getElem hj)
   obtain ⟨y, y1, y2⟩ := hs'.get (List.getElem?_eq_getElem hj')
   have e1 : eat ds ds' j = deq ds[j] ds'[j] := by unfold eat; rw [List.getElem?_eq_getElem hj, List.getElem?_eq_getElem hj']
   rw [e1]
   refine ih x2 y2 ?_ ?_ (f _ (List.getElem_mem hj)) (by show A.units + 1 + n < cLine; omega)
   · exact vals_at rv x1 (by rw [List.getElem_toArray]; exact List.getElem?_eq_getElem h1)
   · exact vals_at rv' y1 (by rw [List.getElem_toArray]; exact List.getElem?_eq_getElem h2)
 have key := RcNeAt.tuples (A := A) (e := eat ds ds') hl hl' (by omega) at_
 rw [List.size_toArray, List.size_toArray] at key
 rw [← deqs_all, ← k1, ← k2, k3, k4]
 exact key
theorem rn_lists (ok : HOk P w H s.heap) {n : Nat} {A : Around} (ih : ∀ {A : Around} {d d' : Dt} {v v' : V} {u u' : Value}, DAt H d v -> DAt H d' v' -> RelV v u -> RelV v' u' -> DFit n d -> A.units + n < cLine -> EqAt A s u u' (deq d d'))
   {l l' : Addr} {ds ds' : List Dt} {vs vs' : List V} {its its' : List Value} (hs : DAts H ds vs) (hs' : DAts H ds' vs') (rv : Vals vs its) (rv' : Vals vs' its') (hl : s.heap.IsList l its.toArray) (hl' : s.heap.IsList l' its'.toArray)
   (f : ∀ d ∈ ds, DFit n d) (hu : A.units + (n + 1) < cLine) : RcNeAt A s (.ref l) (.ref l') (!deqs ds ds') := by
 have k1 := hs.length
 have k2 := hs'.length
 have k3 := rv.length
 have k4 := rv'.length
 have at_ : ∀ j (h1 : j < its.toArray.size) (h2 : j < its'.toArray.size), EqAt A.in1 s its.toArray[j] its'.toArray[j] (eat ds ds' j) := fun j h1 h2 => by
   rw [List.size_toArray] at h1 h2
   have hj : j < ds.length := by omega
   have hj' : j < ds'.length := by omega
   obtain ⟨x, x1, x2⟩ := hs.get (List.getElem?_eq_getElem hj)
   obtain ⟨y, y1, y2⟩ := hs'.get (List.getElem?_eq_getElem hj')
   have e1 : eat ds ds' j = deq ds[j] ds'[j] := by unfold eat; rw [List.getElem?_eq_getElem hj, List.getElem?_eq_getElem hj']
   rw [e1]
   refine ih x2 y2 ?_ ?_ (f _ (List.getElem_mem hj)) (by show A.units + 1 + n < cLine; omega)
   · exact vals_at rv x1 (by rw [List.getElem_toArray]; exact List.getElem?_eq_getElem h1)
   · exact vals_at rv' y1 (by rw [List.getElem_toArray]; exact List.getElem?_eq_getElem h2)
 by_cases hz : ds.length = ds'.length
 · have key := RcNeAt.lists (A := A) (e := eat ds ds') hl hl' (by rw [List.size_toArray, List.size_toArray]; omega) (by omega) at_
   rw [← deqs_all, hz, Nat.min_self, beq_self_eq_true, Bool.and_true]
   rw [List.size_toArray] at key
   rw [show ds'.length = its.length by omega]
   exact key
 · have hf : deqs ds ds' = false := by rw [← deqs_all, show (ds.length == ds'.length) = false by simpa using hz, Bool.and_false]
   rw [hf]
   exact RcNeAt.lists_lengths hl hl' (by rw [List.size_toArray, List.size_toArray]; simp; omega) (by omega)
theorem rn_at (ok : HOk P w H s.heap) {n : Nat} {A : Around} {d d' : Dt} {v v' : V} {u u' : Value} (h : DAt H d v) (h' : DAt H d' v') (r : RelV v u) (r' : RelV v' u') (f : DFit (n + 1) d) (hu : A.units + (n + 1) < cLine) : RcNeAt A s u u' (!deq d d') := by
 have hu0 : A.units < cLine := by omega
 cases d with
 | non =>
   have h : v = .non := h
   subst h
   cases r
   cases d' with
   | non =>
     have h' : v' = .non := h'
     subst h'
     cases r'
     simp only [deq, Bool.not_false, Bool.not_true]
     exact RcNeAt.none_none
   | bl b =>
     have h' : v' = .bl b := h'
     subst h'
     cases r'
     simp only [deq, Bool.not_false, Bool.not_true]
     exact RcNeAt.none_bool _
   | int b =>
     have h' : v' = .int b := h'
     subst h'
     obtain ⟨t', rfl⟩ := r'
     simp only [deq, Bool.not_false, Bool.not_true]
     exact RcNeAt.none_int _ _
   | str b =>
     have h' : v' = .str b := h'
     subst h'
     obtain ⟨t', rfl⟩ := r'
     simp only [deq, Bool.not_false, Bool.not_true]
     exact RcNeAt.none_str _ _
   | tup ds' =>
     obtain ⟨l', vs', rfl, e', hs'⟩ := h'
     cases r'
     obtain ⟨its', rv', hl'⟩ := DAts.tup_of ok e'
     simp only [deq, Bool.not_false, Bool.not_true]
     exact RcNeAt.none_tuple hl' hu0
   | lst ds' =>
     obtain ⟨l', vs', rfl, e', hs'⟩ := h'
     cases r'
     obtain ⟨its', rv', hl'⟩ := DAts.lst_of ok e'
     simp only [deq, Bool.not_false, Bool.not_true]
     exact RcNeAt.none_list hl' hu0
 | bl a =>
   have h : v = .bl a := h
   subst h
   cases r
   cases d' with
   | non =>
     have h' : v' = .non := h'
     subst h'
     cases r'
     simp only [deq, Bool.not_false, Bool.not_true]
     exact RcNeAt.bool_none _
   | bl b =>
     have h' : v' = .bl b := h'
     subst h'
     cases r'
     simp only [deq, Bool.not_false, Bool.not_true]
     exact RcNeAt.bool_bool _ _
   | int b =>
     have h' : v' = .int b := h'
     subst h'
     obtain ⟨t', rfl⟩ := r'
     simp only [deq, Bool.not_false, Bool.not_true]
     exact RcNeAt.bool_int _ _ _
   | str b =>
     have h' : v' = .str b := h'
     subst h'
     obtain ⟨t', rfl⟩ := r'
     simp only [deq, Bool.not_false, Bool.not_true]
     exact RcNeAt.bool_str _ _ _
   | tup ds' =>
     obtain ⟨l', vs', rfl, e', hs'⟩ := h'
     cases r'
     obtain ⟨its', rv', hl'⟩ := DAts.tup_of ok e'
     simp only [deq, Bool.not_false, Bool.not_true]
     exact RcNeAt.bool_tuple _ hl' hu0
   | lst ds' =>
     obtain ⟨l', vs', rfl, e', hs'⟩ := h'
     cases r'
     obtain ⟨its', rv', hl'⟩ := DAts.lst_of ok e'
     simp only [deq, Bool.not_false, Bool.not_true]
     exact RcNeAt.bool_list _ hl' hu0
 | int a =>
   have h : v = .int a := h
   subst h
   obtain ⟨t, rfl⟩ := r
   cases d' with
   | non =>
     have h' : v' = .non := h'
     subst h'
     cases r'
     simp only [deq, Bool.not_false, Bool.not_true]
     exact RcNeAt.int_none _ _
   | bl b =>
     have h' : v' = .bl b := h'
     subst h'
     cases r'
     simp only [deq, Bool.not_false, Bool.not_true]
     exact RcNeAt.int_bool _ _ _
   | int b =>
     have h' : v' = .int b := h'
     subst h'
     obtain ⟨t', rfl⟩ := r'
     simp only [deq, Bool.not_false, Bool.not_true]
     exact RcNeAt.int_int _ _ _ _
   | str b =>
     have h' : v' = .str b := h'
     subst h'
     obtain ⟨t', rfl⟩ := r'
     simp only [deq, Bool.not_false, Bool.not_true]
     exact RcNeAt.int_str _ _ _ _
   | tup ds' =>
     obtain ⟨l', vs', rfl, e', hs'⟩ := h'
     cases r'
     obtain ⟨its', rv', hl'⟩ := DAts.tup_of ok e'
     simp only [deq, Bool.not_false, Bool.not_true]
     exact RcNeAt.int_tuple _ _ hl' hu0
   | lst ds' =>
     obtain ⟨l', vs', rfl, e', hs'⟩ := h'
     cases r'
     obtain ⟨its', rv', hl'⟩ := DAts.lst_of ok e'
     simp only [deq, Bool.not_false, Bool.not_true]
     exact RcNeAt.int_list _ _ hl' hu0
 | str a =>
   have h : v = .str a := h
   subst h
   obtain ⟨t, rfl⟩ := r
   cases d' with
   | non =>
     have h' : v' = .non := h'
     subst h'
     cases r'
     simp only [deq, Bool.not_false, Bool.not_true]
     exact RcNeAt.str_none _ _
   | bl b =>
     have h' : v' = .bl b := h'
     subst h'
     cases r'
     simp only [deq, Bool.not_false, Bool.not_true]
     exact RcNeAt.str_bool _ _ _
   | int b =>
     have h' : v' = .int b := h'
     subst h'
     obtain ⟨t', rfl⟩ := r'
     simp only [deq, Bool.not_false, Bool.not_true]
     exact RcNeAt.str_int _ _ _ _
   | str b =>
     have h' : v' = .str b := h'
     subst h'
     obtain ⟨t', rfl⟩ := r'
     simp only [deq, Bool.not_false, Bool.not_true]
     exact RcNeAt.str_str _ _ _ _
   | tup ds' =>
     obtain ⟨l', vs', rfl, e', hs'⟩ := h'
     cases r'
     obtain ⟨its', rv', hl'⟩ := DAts.tup_of ok e'
     simp only [deq, Bool.not_false, Bool.not_true]
     exact RcNeAt.str_tuple _ _ hl' hu0
   | lst ds' =>
     obtain ⟨l', vs', rfl, e', hs'⟩ := h'
     cases r'
     obtain ⟨its', rv', hl'⟩ := DAts.lst_of ok e'
     simp only [deq, Bool.not_false, Bool.not_true]
     exact RcNeAt.str_list _ _ hl' hu0
 | tup ds =>
   obtain ⟨l, vs, rfl, e, hs⟩ := h
   cases r
   obtain ⟨its, rv, hl⟩ := DAts.tup_of ok e
   cases d' with
   | non =>
     have h' : v' = .non := h'
     subst h'
     cases r'
     simp only [deq, Bool.not_false, Bool.not_true]
     exact RcNeAt.tuple_none hl hu0
   | bl b =>
     have h' : v' = .bl b := h'
     subst h'
     cases r'
     simp only [deq, Bool.not_false, Bool.not_true]
     exact RcNeAt.tuple_bool _ hl hu0
   | int b =>
     have h' : v' = .int b := h'
     subst h'
     obtain ⟨t', rfl⟩ := r'
     simp only [deq, Bool.not_false, Bool.not_true]
     exact RcNeAt.tuple_int _ _ hl hu0
   | str b =>
     have h' : v' = .str b := h'
     subst h'
     obtain ⟨t', rfl⟩ := r'
     simp only [deq, Bool.not_false, Bool.not_true]
     exact RcNeAt.tuple_str _ _ hl hu0
   | tup ds' =>
     obtain ⟨l', vs', rfl, e', hs'⟩ := h'
     cases r'
     obtain ⟨its', rv', hl'⟩ := DAts.tup_of ok e'
     simp only [deq, Bool.not_false, Bool.not_true]
     exact rn_tups ok (deq_at ok n) hs hs' rv rv' hl hl' f.2 hu
   | lst ds' =>
     obtain ⟨l', vs', rfl, e', hs'⟩ := h'
     cases r'
     obtain ⟨its', rv', hl'⟩ := DAts.lst_of ok e'
     simp only [deq, Bool.not_false, Bool.not_true]
     exact RcNeAt.tuple_list hl hl' hu0
 | lst ds =>
   obtain ⟨l, vs, rfl, e, hs⟩ := h
   cases r
   obtain ⟨its, rv, hl⟩ := DAts.lst_of ok e
   cases d' with
   | non =>
     have h' : v' = .non := h'
     subst h'
     cases r'
     simp only [deq, Bool.not_false, Bool.not_true]
     exact RcNeAt.list_none hl hu0
   | bl b =>
     have h' : v' = .bl b := h'
     subst h'
     cases r'
     simp only [deq, Bool.not_false, Bool.not_true]
     exact RcNeAt.list_bool _ hl hu0
   | int b =>
     have h' : v' = .int b := h'
     subst h'
     obtain ⟨t', rfl⟩ := r'
     simp only [deq, Bool.not_false, Bool.not_true]
     exact RcNeAt.list_int _ _ hl hu0
   | str b =>
     have h' : v' = .str b := h'
     subst h'
     obtain ⟨t', rfl⟩ := r'
     simp only [deq, Bool.not_false, Bool.not_true]
     exact RcNeAt.list_str _ _ hl hu0
   | tup ds' =>
     obtain ⟨l', vs', rfl, e', hs'⟩ := h'
     cases r'
     obtain ⟨its', rv', hl'⟩ := DAts.tup_of ok e'
     simp only [deq, Bool.not_false, Bool.not_true]
     exact RcNeAt.list_tuple hl hl' hu0
   | lst ds' =>
     obtain ⟨l', vs', rfl, e', hs'⟩ := h'
     cases r'
     obtain ⟨its', rv', hl'⟩ := DAts.lst_of ok e'
     simp only [deq, Bool.not_false, Bool.not_true]
     exact rn_lists ok (deq_at ok n) hs hs' rv rv' hl hl' f.2 hu
end
section
variable {X : Cx}
def rNeG : R2 := fun x y H Q => ∃ n d d', DAt H d x /\ DAt H d' y /\ DFit (n + 1) d /\ n <= 60 /\ Q (.bl (!deq d d')) H
theorem op_neG (hu : X.A.units + 64 < cLine) : OpR X (compareOp .NotEq) rNeG := by
 intro pins s σ H x y v u Q I rx ry h
 obtain ⟨n, d, d', h1, h2, f, hn, q⟩ := h
 exact rn_at I.hok h1 h2 rx ry f (by omega) X.prog X.w _ _ (yN I q rfl)
end
end L2
namespace L2
open PySem PySem.Spec PyProof.Rows PySem.SeqAt
section
variable {prog : Program} {w : World} {A : Around} {E : Value -> Shared -> Prop} {s : Shared}
structure Apt (z TI TO i1 i2 l1 l2 : Addr) : Prop where
 nd : [z, TI, TO, i1, i2].Nodup
 a1 : l1 ≠ z /\ l1 ≠ TO /\ l1 ≠ i1 /\ l1 ≠ i2
 a2 : l2 ≠ z /\ l2 ≠ TO /\ l2 ≠ i1 /\ l2 ≠ i2
end
section
variable {X : Cx} {pins : List (Addr × Obj)} {σ : St} {H : Hp} {s : Shared} {h' : Heap}
end
section
variable {X : Cx}
end
end L2
namespace L2
open PySem PySem.Spec PyProof.Rows PySem.SeqAt
end L2
namespace L2
open PySem PySem.Spec PyProof.Rows PySem.SeqAt
section
variable {X : Cx}
end
section
variable {X : Cx} {tg : Expr}
end
theorem pe_bmK {X : Cx} (K : PySem.W.Frag) {o e : Expr} {es : List Expr} {to : TE} {t : TA} {name : Str} {apos cpos : Pos} {T id : String} {r : V -> List V -> Hp -> VK -> Prop} (pa : PlainAttrs T) (slot : Slot T name id) (hty : typeOf (.builtin id) = pure (.type "method_descriptor")) (hm : MtR X id r) (ho : PE X o to) (ha : PA X (e :: es) t)
   (hK : X.K = K := by rfl) (hbase : attributeBase o name X.env (eval o X.env) = eval o X.env := by rfl)
   (hfew : ((backTo cpos (starEach (e :: es) X.env)).all (fun x => !x.1) && (backToKw cpos (keywordEach [] X.env)).all (fun x => x.1.isSome)
     && decide ((e :: es).length + ([] : List Keyword).length + (if ([] : List Keyword).isEmpty then 0 else 1) < 30)) = true := by rfl)
   (hline : (apos.endLine == cpos.line) = true := by rfl) (hs : starEach (e :: es) X.env = (false, eval e X.env) :: starEach es X.env := by rfl) (hplain : (backTo cpos (starEach es X.env)).any (·.1) = false := by rfl) :
   PE X (.Call (.Attribute o name apos) (e :: es) [] cpos) (tBM K T r to t) := by
 subst hK
 exact xX pa slot hty hm ho ha hbase hfew hline hs hplain
end L2
namespace L2
open PySem PySem.Spec PyProof.Rows PySem.W
section
variable {prog : Program} {w : World} {A : Around} {E : Value -> Shared -> Prop} {s : Shared}
end
theorem KT.at {H : Hp} : ∀ {kvs : List (List Key × V)} {xs : List (List Key × Addr × Value)}, KT H kvs xs -> ∀ {i : Nat} {p : List Key × V} {q : List Key × Addr × Value}, kvs[i]? = some p -> xs[i]? = some q -> RelV p.2 q.2.2
 | _, _, .nil, i, p, q, h, _ => by simp at h
 | _, _, .cons hq t, 0, p, q, h1, h2 => by
   simp only [List.getElem?_cons_zero, Option.some.injEq] at h1 h2
   subst h1 h2
   exact hq.2.2
 | _, _, .cons hq t, i + 1, p, q, h1, h2 => KT.at t (by simpa using h1) (by simpa using h2)
section
variable {X : Cx}
end
end L2
namespace L2
open PySem PySem.Spec PyProof.Rows PySem.W
theorem rev_mro : mroOf (.type "reversed") = pure [.type "reversed", .type "object"] := by rw [mroOf_type]; kernel_rfl
theorem rev_lookup : typeLookup (.type "reversed") "__new__" = pure (some (.builtin "reversed.__new__")) := by rw [typeLookup_type, builtinLookup_eq_fast]; kernel_rfl
theorem rev_new : entryFor table "reversed.__new__" = some Builtin.«reversed.__new__» := entryFor_of_tree (by kernel_rfl)
theorem rev_plain : plainId "reversed.__new__" = true := by decide +kernel
theorem rev_check (a : Value) : checkBuiltinCall "reversed.__new__" ⟨[.type "reversed", a], []⟩ = pure () := by kernel_rfl
theorem rev_tcheck (a : Value) : checkTypeCall "reversed" ⟨[a], []⟩ = pure () := by kernel_rfl
theorem rev_made : Bind.madeBy (.type "reversed") = pure (some "reversed.__new__") := madeBy_type rev_mro rev_lookup (by decide +kernel)
theorem rev_sub : isSubtype (.type "reversed") (.type "reversed") = pure true := by rw [isSubtype_type]; kernel_rfl
theorem rev_nosub : isSubtype (.type "list_reverseiterator") (.type "reversed") = pure false := by rw [isSubtype_type]; kernel_rfl
theorem rev_can : ((Manifest.find? "reversed").bind (·.mro.findSome? fun t => (Manifest.find? t).bind fun b => if b.noNew then some true else if b.attrs.any (·.1 == "__new__") then some false else none)).getD false = false := by decide +kernel
theorem rev_not : (Value.type "reversed" == Value.type "type") = false := by decide +kernel
section
variable {prog : Program} {w : World} {A : Around} {E : Value -> Shared -> Prop} {s : Shared}
theorem uI {l : Addr} {items : Array Value} {n : Nat} {Q : Value -> Shared -> Prop} (hl : s.heap.get? l = some { cls := .type "list", dict := none, data := .seq items n, slots := #[] })
   (h : Q (.ref s.heap.objs.size) { s with heap := s.heap.push { cls := Value.type "list_reverseiterator", data := Data.fields #[Value.ref l, rawInt (((items.size : Nat) : Int) - 1)] } }) :
   codeAny (model prog w) A (.call (.builtin "reversed.__new__") ⟨[.type "reversed", .ref l], []⟩) (wants Q E) s := by
 refine codeAny_of_tree ?_
 show wpAny _ A.in1 (do checkBuiltinCall "reversed.__new__" ⟨[.type "reversed", .ref l], []⟩; again (.builtin "reversed.__new__" ⟨[.type "reversed", .ref l], []⟩)) _ _ s
 refine wpAny_bind (wpAny_of_eq (rev_check _) (wpAny_pure ⟨plainId_quiet rev_plain _, codeAny_builtin rev_new ?_⟩))
 rw [Around.under_plainId rev_plain _]
 have hT : s.TypeIs (.ref l) "list" := ⟨_, hl, rfl⟩
 have hs := rev_sub
 have hlk := PySem.F.slot_list_reversed.lookup
 have hb := PySem.F.slot_list_reversed.bind (.ref l)
 unfold Builtin.«reversed.__new__»
 unfold Builtin.SmallTypes.newClass
 repeat (any_goals (first | assumption | wp_step))
 refine codeAny_mono (codeAny_call_builtin PySem.F.slot_list_reversed.plain PySem.F.entry_list_reversed (PySem.F.slot_list_reversed.check _ _ _ _ _ _ _ _ hT (PySem.F.args_list_reversed_1 _) (PySem.AutoListH.list___reversed___list_0 l items n prog w A.in1 (wants (fun v s1 => v = .ref s.heap.objs.size /\ s1 = { s with heap := s.heap.push { cls := Value.type "list_reverseiterator", data := Data.fields #[Value.ref l, rawInt (((items.size : Nat) : Int) - 1)] } }) (fun _ _ => False)) s ⟨hl, rfl, rfl⟩))) fun r s1 hr => ?_
 cases r with
 | error e => exact hr.elim
 | ok fl =>
   cases fl with
   | ret obj =>
     obtain ⟨rfl, rfl⟩ := hr
     exact wpAny_pure h
   | _ => exact hr.elim
theorem uJ {l : Addr} {items : Array Value} {n : Nat} {Q : Value -> Shared -> Prop} (hl : s.heap.get? l = some { cls := .type "list", dict := none, data := .seq items n, slots := #[] })
   (h : Q (.ref s.heap.objs.size) { s with heap := s.heap.push { cls := Value.type "list_reverseiterator", data := Data.fields #[Value.ref l, rawInt (((items.size : Nat) : Int) - 1)] } }) :
   wpAny (model prog w) A (call (.type "reversed") [.ref l]) Q E s := by
 have hmro := rev_mro
 have hmade := rev_made
 have hsub := rev_sub
 refine wpAny_call (codeAny_of_tree ?_)
 show wpAny _ _ (callAny (.type "reversed") _) _ _ _
 refine wpAny_pure ⟨Code.quiet_builtin _ (by decide +kernel), codeAny_builtin F.entry_type_call ?_⟩
 rw [Around.under_plain (weight_type_call_type "reversed" [.ref l] []) rfl]
 have h1 := rev_not
 have h2 := rev_can
 have h3 := rev_tcheck (.ref l)
 repeat (any_goals (first | assumption | wp_step))
 refine codeAny_mono (uI (E := E) (Q := fun v s1 => v = .ref s.heap.objs.size /\ s1 = { s with heap := s.heap.push { cls := Value.type "list_reverseiterator", data := Data.fields #[Value.ref l, rawInt (((items.size : Nat) : Int) - 1)] } }) hl ⟨rfl, rfl⟩) fun r s₁ hr => ?_
 cases r with
 | error e => exact hr
 | ok fl =>
   cases fl with
   | ret obj =>
     obtain ⟨rfl, rfl⟩ := hr
     have hT : Shared.TypeIs { s with heap := s.heap.push { cls := Value.type "list_reverseiterator", data := Data.fields #[Value.ref l, rawInt (((items.size : Nat) : Int) - 1)] } } (.ref s.heap.objs.size) "list_reverseiterator" := ⟨_, Heap.get?_push_size _ rfl, rfl⟩
     have hno := rev_nosub
     repeat (any_goals (first | assumption | wp_step))
   | _ => exact hr.elim
end
theorem ri_owner : Manifest.owners.lookup (String.ofList ['r', 'o', 't', 'a', 'r', 'e', 't', 'i', 'e', 's', 'r', 'e', 'v', 'e', 'r', '_', 't', 's', 'i', 'l'].reverse) = some Manifest.sig_list_reverseiterator := by kernel_rfl
theorem ri_next : Slot "list_reverseiterator" "__next__" "list_reverseiterator.__next__" := .of (owner := "list_reverseiterator") (n := "__next__") (by rw [typeLookup_type, builtinLookup_eq_fast]; kernel_rfl) (by decide +kernel) (by decide +kernel) (by decide +kernel) (by first | exact .inl (by decide +kernel) | exact .inr (by decide +kernel)) (by rw [isSubtype_type]; kernel_rfl)
theorem ri_iter : Slot "list_reverseiterator" "__iter__" "list_reverseiterator.__iter__" := .of (owner := "list_reverseiterator") (n := "__iter__") (by rw [typeLookup_type, builtinLookup_eq_fast]; kernel_rfl) (by decide +kernel) (by decide +kernel) (by decide +kernel) (by first | exact .inl (by decide +kernel) | exact .inr (by decide +kernel)) (by rw [isSubtype_type]; kernel_rfl)
theorem ri_enext : entryFor table "list_reverseiterator.__next__" = some Builtin.«list_reverseiterator.__next__» := entryFor_of_tree (by kernel_rfl)
theorem ri_eiter : entryFor table "list_reverseiterator.__iter__" = some Builtin.«dict_keyiterator.__iter__» := entryFor_alias (id' := "dict_keyiterator.__iter__") (by kernel_rfl) rfl (by decide +kernel) (by kernel_rfl)
theorem ri_anext (a : Value) : argsOk "list_reverseiterator.__next__" ⟨[a], []⟩ := by unfold argsOk; rw [signature?_of (id := "list_reverseiterator.__next__") (n := ['_', '_', 't', 'x', 'e', 'n', '_', '_']) (o := ['r', 'o', 't', 'a', 'r', 'e', 't', 'i', 'e', 's', 'r', 'e', 'v', 'e', 'r', '_', 't', 's', 'i', 'l']) (by kernel_rfl) ri_owner]; kernel_rfl
theorem ri_aiter (a : Value) : argsOk "list_reverseiterator.__iter__" ⟨[a], []⟩ := by unfold argsOk; rw [signature?_of (id := "list_reverseiterator.__iter__") (n := ['_', '_', 'r', 'e', 't', 'i', '_', '_']) (o := ['r', 'o', 't', 'a', 'r', 'e', 't', 'i', 'e', 's', 'r', 'e', 'v', 'e', 'r', '_', 't', 's', 'i', 'l']) (by kernel_rfl) ri_owner]; kernel_rfl
def IsRev (h : Heap) (it l : Addr) (k n : Nat) : Prop := ∃ o, h.get? it = some o /\ o.cls = .type "list_reverseiterator" /\ o.data = .fields #[.ref l, rawInt ((n : Int) - 1 - k)]
section
variable {prog : Program} {w : World} {A : Around} {E : Value -> Shared -> Prop} {s : Shared}
theorem IsRev.typeIs {it l : Addr} {k n : Nat} (x : IsRev s.heap it l k n) : s.TypeIs (.ref it) "list_reverseiterator" := let ⟨o, ho, hc, _⟩ := x; ⟨o, ho, hc⟩
theorem rev_item {it l : Addr} {k : Nat} {items : Array Value} {x : Value} {Q : Option Value -> Shared -> Prop} (hit : IsRev s.heap it l k items.size) (hl : s.heap.IsList l items) (hk : k < items.size) (hx : items[items.size - 1 - k]? = some x)
   (hQ : ∀ h', IsRev h' it l (k + 1) items.size -> Heap.SameBut it s.heap h' -> Q (some x) { s with heap := h' }) : wpAny (model prog w) A (pyNext (.ref it)) Q E s := by
 obtain ⟨o, a1, a2, a3⟩ := id hit; obtain ⟨ol, b1, _, nl, b3⟩ := hl
 unfold pyNext
 refine wpAny_bind (wpAny_attempt (wpAny_callSpecial?_slot (name := Str.ofString "__next__") hit.typeIs ri_next (wpAny_call_entry ri_next hit.typeIs ri_enext ?_ (ri_anext _))))
 show wpAny _ _ (field (.ref it) 1 >>= _) _ _ s
 refine wpAny_bind (wpAny_field a1 a3 (x := rawInt ((items.size : Int) - 1 - k)) rfl ?_)
 show wpAny _ _ (if ((items.size : Int) - 1 - k) < 0 then _ else _) _ _ s
 rw [if_neg (by omega)]; show wpAny _ _ (field (.ref it) 0 >>= _) _ _ s
 refine wpAny_bind (wpAny_field a1 a3 (x := .ref l) rfl ?_); refine wpAny_bind (wpAny_seqItems b1 b3 ?_)
 have e : ((items.size : Int) - 1 - k).toNat = items.size - 1 - k := by omega
 simp only [e, hx]
 refine wpAny_bind (wpAny_setField a1 a3 (by simp) (wpAny_pure ⟨x, rfl, wpAny_pure (hQ _ ?_ (Heap.SameBut.update ..))⟩))
 refine ⟨_, Heap.get?_update_self _ a1 (Obj.isFreed_of_fields (Obj.data_mapFields a3 _)), (Obj.cls_mapFields ..).trans a2, ?_⟩
 rw [Obj.data_mapFields a3, show (items.size : Int) - 1 - ((k + 1 : Nat) : Int) = (items.size : Int) - 1 - k - 1 by omega]
 simp [rawInt]
theorem rev_end {it l : Addr} {n : Nat} {Q : Option Value -> Shared -> Prop} (hh : A.handled = none) (hit : IsRev s.heap it l n n)
   (hQ : ∀ h', Heap.ExtBut it s.heap h' -> Q none { s with heap := h' }) : wpAny (model prog w) A (pyNext (.ref it)) Q E s := by
 obtain ⟨o, a1, a2, a3⟩ := id hit
 unfold pyNext
 refine wpAny_bind (wpAny_attempt (wpAny_callSpecial?_slot (name := Str.ofString "__next__") hit.typeIs ri_next (wpAny_call_entry ri_next hit.typeIs ri_enext ?_ (ri_anext _))))
 show wpAny _ _ (field (.ref it) 1 >>= _) _ _ s
 refine wpAny_bind (wpAny_field a1 a3 (x := rawInt ((n : Int) - 1 - n)) rfl ?_)
 show wpAny _ _ (if ((n : Int) - 1 - n) < 0 then _ else _) _ _ s
 rw [if_pos (by omega)]; refine wpAny_bind (wpAny_rule ?_); refine wpAny_bind ?_
 show wpAny _ _ (newExc (.type "StopIteration") [] >>= _) _ _ _; refine wpAny_bind ?_
 simp only [newExc, newTuple]; refine wpAny_bind (wpAny_newObj_type ?_ (by size_fits))
 refine wpAny_bind (m := firstArgMember _ _) (wpAny_of_eq (a := Value.none) (by first | rfl | (simp only [firstArgMember]; rfl)) ?_); refine wpAny_newObj_type ?_ (by size_fits)
 simp only [raiseNew]; refine wpAny_bind (wpAny_handled ?_); rw [show A.in1.handled = none from hh]
 refine wpAny_bind (wpAny_pure (wpAny_throw ?_)); refine wpAny_bind (wpAny_isInstance (T := "StopIteration") (b := true) ⟨_, Heap.get?_push_size _ rfl, rfl⟩ isSubtype_stop ?_)
 exact wpAny_pure (hQ _ (((Heap.SameBut.refl it s.heap).extBut.push _).push _))
theorem rev_self {it l : Addr} {k n : Nat} {Q : Value -> Shared -> Prop} (hit : IsRev s.heap it l k n) (h : Q (.ref it) s) : wpAny (model prog w) A (pyIter (.ref it)) Q E s := by
 refine wpAny_pyIter_slot hit.typeIs ri_iter (wpAny_call_entry ri_iter hit.typeIs ri_eiter ?_ (ri_aiter _))
 show wpAny _ _ (ret (.ref it)) _ _ s; exact wpAny_pure ⟨_, rfl, "list_reverseiterator", _, hit.typeIs, ri_next.lookup, h⟩
end
section
variable {prog : Program} {w : World} {A : Around} {E : Value -> Shared -> Prop} {s : Shared} {T : String} {J : Addr} {fp wr : List Addr} {n : Nat} {P : Nat -> Value -> Prop} {St : Nat -> Heap -> Prop}
structure ItSrc (prog : Program) (w : World) (T : String) (J : Addr) (fp wr : List Addr) (n : Nat) (P : Nat -> Value -> Prop) (St : Nat -> Heap -> Prop) : Prop where
 walks : ∀ A : Around, A.handled = none -> Walks prog w A J fp wr n P St
 type : ∀ s : Shared, St 0 s.heap -> s.TypeIs (.ref J) T
 nl : (Value.type T == Value.type "list") = false
 nt : (Value.type T == Value.type "tuple") = false
 hint : ∀ (A : Around) (E : Value -> Shared -> Prop) (s : Shared) (Q : Bool -> Shared -> Prop), St 0 s.heap -> Q false s -> wpAny (model prog w) A (Builtin.List.listLengthHint (.ref J)) Q E s
 mem : J ∈ fp
 sub : wr ⊆ fp
end
theorem bt_reversed : bootBuiltins "reversed" = some (.type "reversed") := by decide +kernel
theorem bt_any : bootBuiltins "any" = some (.builtin "any") := by decide +kernel
section
variable {X : Cx}
theorem call_intB : yZ X (.type "int") (fun xs H Q => ∃ b, xs = [.bl b] /\ Q (.int (if b then 1 else 0)) H) := by
 intro pins s σ H xs us Q I r h
 obtain ⟨b, rfl, q⟩ := h
 obtain ⟨u, rfl, ru⟩ := xN r
 have e : u = Value.bool b := ru
 subst e
 exact call_int_bool ⟨.int _, H, I.tok _, ⟨_, rfl⟩, q⟩
theorem call_any : yZ X (.builtin "any") (fun xs H Q => X.calm = true /\ ∃ (p : Addr) (bs : List Bool), xs = [.ref p] /\ SqL X.K H p (bs.map V.bl) /\ Q (.bl (bs.any id)) H) := by
 intro pins s σ H xs us Q I r h
 obtain ⟨hc, p, bs, rfl, hp, q⟩ := h
 obtain ⟨u, rfl, ru⟩ := xN r
 cases ru
 obtain ⟨its, rv, hl, hz⟩ := I.list hp
 have hlt : p < s.heap.objs.size := by obtain ⟨_, e, _⟩ := hl.isList; exact Heap.lt_size e
 have hlen := rv.length
 rw [List.length_map] at hlen
 refine call_any_walk (wpAny_pyIter_list hl.isList ?_)
 refine ⟨_, _, _, _, _, _, fun i => bs.getD i false, rfl, Walks.list (A := X.A.in1) (I.ok.hd hc) s.heap.objs.size p (Nat.ne_of_lt hlt) its.toArray, ⟨⟨_, Heap.get?_push_size _ rfl, rfl, rfl⟩, hl.isList.push _⟩, fun i v s' Q' E' hv q' => ?_, fun h' tk k => ?_⟩
 · have hv : its[i]? = some v := by simpa using hv
   have hi : i < bs.length := by
     have := (List.getElem?_eq_some_iff.mp hv).1
     omega
   obtain ⟨u', hu', ru'⟩ := rv.get (i := i) (x := .bl bs[i]) (by rw [List.getElem?_map, List.getElem?_eq_getElem hi]; rfl)
   rw [hv] at hu'
   cases hu'
   have e : v = Value.bool bs[i] := ru'
   subst e
   refine wpAny_truthy_bool ?_
   have e2 : bs.getD i false = bs[i] := by rw [List.getD_eq_getElem?_getD, List.getElem?_eq_getElem hi]; rfl
   rw [← e2]
   exact q'
 · refine ⟨.bl (bs.any id), H, ?_, ?_, q⟩
   · exact I.kept (h' := h') (t' := tk) fun b o e => k b o (by intro hm; have := List.mem_singleton.mp hm; exact absurd (this ▸ Heap.lt_size e) (Nat.lt_irrefl _)) (Heap.get?_push_of_some _ e)
   · have e : (List.range its.toArray.size).any (fun i => bs.getD i false) = bs.any id := by
       rw [List.size_toArray, ← hlen]
       rw [Bool.eq_iff_iff, List.any_eq_true, List.any_eq_true]
       constructor
       · rintro ⟨i, hi, h⟩
         have hi := List.mem_range.mp hi
         rw [List.getD_eq_getElem?_getD, List.getElem?_eq_getElem hi] at h
         exact ⟨_, List.getElem_mem hi, h⟩
       · rintro ⟨b, hb, h⟩
         obtain ⟨i, hi, rfl⟩ := List.getElem_of_mem hb
         refine ⟨i, List.mem_range.mpr hi, ?_⟩
         rw [List.getD_eq_getElem?_getD, List.getElem?_eq_getElem hi]
         exact h
     show Value.bool _ = _
     rw [e]
theorem mt_joinK (K : PySem.W.Frag) (h : X.K = K := by rfl) : MtR X "str.join" (fun x xs H Q => ∃ (z : Str) (p : Addr) (ys : List Str), x = .str z /\ xs = [.ref p] /\ SqL K H p (ys.map V.str) /\ (ys.map (·.length)).sum + ys.length * z.length <= 16777216 /\ Q (.str (Txt.join z ys)) H) := by subst h; exact mt_join
end
def Itv (a : Addr) (n : Nat) : It :=
 ⟨fun i H => ∃ xs, H a = some (.lst xs) /\ xs.length = n /\ i < n, fun i H x H' => H' = H /\ ∀ xs, H a = some (.lst xs) -> xs[n - 1 - i]? = some x, fun i _ => i = n⟩
theorem turn_rev {P : Program} {w : World} {K : PySem.W.Frag} {tg : Expr} (a it : Addr) (n : Nat) : Turn P w K tg (Itv a n) [it] it (fun i h => IsRev h it a i n) where
 mem := by simp
 obj := fun i h st b hb => by
   have e : b = it := by simpa using hb
   subst e
   obtain ⟨o, e, c, d⟩ := st
   exact ⟨o, e, fun v z => by rw [d] at z; cases z⟩
 keep := fun i h h' st k => let ⟨o, ho, r⟩ := st; ⟨o, k it (by simp) o ho, r⟩
 item := by
   intro X hP hw hK hc i pins s σ H E I hf st hg
   subst hP hw hK
   obtain ⟨xs, ha, hn, hi⟩ := hg
   obtain ⟨hz, its, nn, rv, o1⟩ := (show ObjOk X.prog X.w H s.heap a (.lst xs) from I.hok a _ ha)
   have hlen := rv.length
   have hsz : its.toArray.size = n := by rw [List.size_toArray]; omega
   obtain ⟨u, hu, ru⟩ := rv.get (List.getElem?_eq_getElem (show n - 1 - i < xs.length by omega))
   obtain ⟨f0, f1, f2, f3, f4, f5⟩ := hf it (by simp)
   refine rev_item (items := its.toArray) (k := i) (x := u) (l := a) (it := it) (by rw [hsz]; exact st) ⟨_, o1, rfl, nn, rfl⟩ (by omega) (by rw [hsz]; simpa using hu) fun h' st' sb => ?_
   rw [hsz] at st'
   have I1 : Inv X pins σ H { s with heap := h' } := I.turned (t' := s.toks) (fun b o hb e => (sb.2 b hb).trans e) f0 f1 f3 f4 f5
   obtain ⟨o, e, c, d⟩ := id st'
   exact ⟨u, rfl, go_of (s := { s with heap := h' }) e c d (by decide) ⟨_, H, I1, ru, ⟨rfl, fun ys hy => by rw [ha] at hy; cases hy; exact List.getElem?_eq_getElem _⟩, st', fun b hb => (hf b hb).1⟩⟩
 done := by
   intro X hP hw hK hc i pins s σ H E I hf st hg
   subst hP hw hK
   have hg : i = n := hg
   subst hg
   obtain ⟨f0, f1, f2, f3, f4, f5⟩ := hf it (by simp)
   exact rev_end (I.ok.hd hc) st fun h' eb => ⟨rfl, I.turned (t' := s.toks) (fun b o hb e => eb b o hb e) f0 f1 f3 f4 f5⟩
 self := fun _ _ _ _ _ st h => rev_self st h
section
variable {X : Cx} {tg : Expr}
def iRev (ta : TA) : TI := fun σ H R => ta σ H fun vs H1 => ∃ a xs, vs = [.ref a] /\ H1 a = some (.lst xs) /\ R (Itv a xs.length) H1
theorem pi_rev {o : Expr} {ta : TA} {p pos : Pos} (hg : Gl X "reversed") (hm : X.mg "reversed" = none) (ha : PA X [o] ta) (hs : starEach [o] X.env = [(false, eval o X.env)] := by rfl) : PI X tg (.Call (.Name "reversed" p) [o] [] pos) (iRev ta) := by
 intro pins s σ H R I h
 refine wpAny_Call_Name_kw (jW I hg hm bt_reversed ?_ (by decide) (by decide))
 refine PyProof.Rows.callWith_type1 (thn (ha pos pins s σ H _ I h) fun us s1 ⟨vs, H1, I1, r1, a, xs, e, h1, q⟩ => ?_) (by rw [hs]; rfl) (by rfl)
 subst e
 obtain ⟨u, rfl, ru⟩ := xN r1
 cases ru
 obtain ⟨hz, its, nn, rv, o1⟩ := (show ObjOk X.prog X.w H1 s1.heap a (.lst xs) from I1.hok a _ h1)
 have hlen := rv.length
 have hsz : its.toArray.size = xs.length := by rw [List.size_toArray]; omega
 refine uJ o1 ?_
 have ri : IsRev (s1.heap.push { cls := Value.type "list_reverseiterator", data := Data.fields #[Value.ref a, rawInt (((its.toArray.size : Nat) : Int) - 1)] }) s1.heap.objs.size a 0 xs.length := ⟨_, Heap.get?_push_size _ rfl, rfl, by rw [hsz]; simp⟩
 refine rev_self (s := { s1 with heap := s1.heap.push { cls := Value.type "list_reverseiterator", data := Data.fields #[Value.ref a, rawInt (((its.toArray.size : Nat) : Int) - 1)] } }) ri ?_
 refine ⟨s1.heap.objs.size, [s1.heap.objs.size], _, _, H1, rfl, I1.kept (t' := s1.toks) fun b o e => Heap.get?_push_of_some _ e, turn_rev a _ _, ri, fun b hb => ?_, q⟩
 have e : b = s1.heap.objs.size := by simpa using hb
 subst e
 exact I1.fpOk (Nat.le_refl _) (I1.hok.fresh (Nat.le_refl _))
end
theorem fw_rev {a : Addr} {xs : List V} {g : TG} {tb : TS} {D : Ends} {σ : St} {H : Hp} (Pv : Nat -> St -> Hp -> Prop) (h0 : Pv 0 σ H) (hl : ∀ i σ H, Pv i σ H -> H a = some (.lst xs))
   (hs : ∀ (i : Nat) x σ H, i < xs.length -> xs[xs.length - 1 - i]? = some x -> Pv i σ H -> g x σ H fun σ2 H2 => tb { D with nx := Pv (i + 1), ct := Pv (i + 1), bk := D.nx } σ2 H2)
   (hd : ∀ σ H, Pv xs.length σ H -> D.nx σ H) : ForW (Itv a xs.length) g tb D σ H := by
 refine ⟨fun i m σ H => m = xs.length - i /\ i <= xs.length /\ Pv i σ H, ⟨_, by rfl, Nat.zero_le _, h0⟩, fun i m σ1 H1 ⟨hm, hi, hp⟩ => ?_⟩
 by_cases h : i < xs.length
 · refine .inr ⟨⟨xs, hl _ _ _ hp, rfl, h⟩, Pv (i + 1), fun σ' H' q => ⟨_, ?_, rfl, by omega, q⟩, fun v H' ⟨e1, e2⟩ => ?_⟩
   · omega
   · subst e1
     exact hs i v σ1 H' h (e2 xs (hl _ _ _ hp)) hp
 · have e : i = xs.length := by omega
   subst e
   exact .inl ⟨rfl, hd σ1 H1 hp⟩
end L2
namespace L2
open PySem PySem.Spec PyProof.Rows PySem.W
section
variable {X : Cx}
theorem qQ {tg l : Expr} {tl : TE} (K : PySem.W.Frag) (hl : PE X l tl) (h : X.K = K := by rfl) : PI X tg l (iList K tl) := by subst h; exact yE hl
end
end L2
set_option maxHeartbeats 4000000
namespace L2
open PySem PySem.Spec PyProof.Rows
theorem ObjOk.there {P : Program} {w : World} {H : Hp} {h : Heap} {a : Addr} {o : HO} (x : ObjOk P w H h a o) : ∃ ob, h.get? a = some ob := by
 cases o with
 | lst xs => obtain ⟨_, _, _, _, e⟩ := x; exact ⟨_, e⟩
 | tup xs => obtain ⟨_, _, _, ob, e, _⟩ := x; exact ⟨_, e⟩
 | dK kvs => obtain ⟨_, _, _, _, o, _, _, e, _⟩ := x; exact ⟨_, e⟩
 | dT kvs => obtain ⟨_, _, _, _, o, _, _, e, _⟩ := x; exact ⟨_, e⟩
 | set S n => obtain ⟨o, _, _, _, e, _⟩ := x; exact ⟨_, e⟩
 | ins C dx fs => obtain ⟨_, _, _, e, _⟩ := x; exact ⟨_, e⟩
 | own y => exact x
 | xd fs => obtain ⟨_, ⟨_, _, _, e, _⟩, _⟩ := x; exact ⟨_, e⟩
 | rng lo hi => obtain ⟨_, _, _, e⟩ := x; exact ⟨_, e⟩
 | frz ob u => obtain ⟨e, _⟩ := x; exact ⟨_, e⟩
 | tbl ps => exact ⟨_, show h.get? a = some _ from x⟩
 | met f y => exact ⟨_, show h.get? a = some _ from x⟩
 | ext φ => obtain ⟨_, e, _⟩ := x; exact e
structure Fl (P : Program) (w : World) (l : List Env) (H : Hp) (h : Heap) (e C : Addr) (a0 : Value) (B : Heap) (H' : Hp) (h' : Heap) : Prop where
 fly : Heap.FlyingW B l e (.ref C) a0 h'
 stay : ∀ b o, h.get? b = some o -> b ∉ frs l -> ∃ o', B.get? b = some o' /\ (H b = none -> o' = o)
 slot : ∀ b o, h.get? b = some o -> H b = none -> b ∈ frs l -> ∃ sl, h'.get? b = some { o with slots := sl }
 free : ∀ b o, h.get? b = some o -> H b = none -> H' b = none
 hok : HOk P w H' B
 ef : H' e = none
 tups : ∀ b xs, H b = some (.tup xs) -> H' b = some (.tup xs)
 frzs : ∀ b o u, H b = some (.frz o u) -> H' b = some (.frz o u)
 tbls : ∀ b ps, H b = some (.tbl ps) -> ∃ more, H' b = some (.tbl (ps ++ more))
section
variable {P : Program} {w : World} {l outer : List Env} {H H' : Hp} {h h' h'' B : Heap} {e C : Addr} {a0 : Value}
theorem Fl.un (x : Fl P w l H h e C a0 B H' h') : Un (frs l) [] H H' h h' where
 keep := fun b o q n hb _ => by
   obtain ⟨o', hB, ho⟩ := x.stay b o q hb
   rw [ho n] at hB
   exact x.fly.1 b o hB
 slot := fun b o q n hb _ => x.slot b o q n hb
 free := fun b o q n _ => x.free b o q n
 there := fun b o q _ => by
   by_cases hb : b ∈ frs l
   · obtain ⟨_, o', ho, _⟩ := x.fly.2.2.1.mem hb
     exact ⟨o', ho⟩
   · obtain ⟨o', hB, _⟩ := x.stay b o q hb
     exact ⟨o', x.fly.1 b o' hB⟩
 tups := x.tups
 frzs := x.frzs
 tbls := x.tbls
theorem Fl.okH (x : Fl P w l H h e C a0 B H' h') : HOk P w H' h' := x.hok.kept x.fly.1
theorem Fl.step (x : Fl P w l H h e C a0 B H' h') (f : Heap.FlyingW B l e (.ref C) a0 h'') (u : h'.UpToSlots h'') : Fl P w l H h e C a0 B H' h'' :=
 ⟨f, x.stay, fun b o q n hb => by
   obtain ⟨sl, h1⟩ := x.slot b o q n hb
   obtain ⟨_, o2, h2, hd⟩ := x.fly.2.2.1.mem hb
   rw [h1] at h2
   cases h2
   obtain ⟨sl2, h4⟩ := u b _ h1 hd
   exact ⟨sl2, h4⟩, x.free, x.hok, x.ef, x.tups, x.frzs, x.tbls⟩
end
def CX1 (P : Program) (w : World) : CXT := fun outer H s E e s' => ∃ (ea C : Addr) (a0 : Value) (B : Heap) (H' : Hp), e = .ref ea /\ s'.os = s.os /\ AllBare s'.gens /\ Fl P w outer H s.heap ea C a0 B H' s'.heap /\ E (.ref C) none H'
structure Body (X : Cx) : Prop where
 stk : X.stack = X.env :: X.outer
 ex : X.ex = []
 fr : X.env.frame = some X.env.locals
 new : X.s₀.heap.get? X.env.locals = none
section
variable {X : Cx} {pins : List (Addr × Obj)} {σ : St} {H Hc H' : Hp} {s sc s' : Shared} {B h'' : Heap} {e C : Addr} {a0 : Value}
theorem Body.frs (b : Body X) : frs X.stack = X.env.locals :: L2.frs X.outer := by
 rw [b.stk]
 show (X.env :: X.outer).filterMap (·.frame) = _
 rw [List.filterMap_cons, b.fr]
 rfl
theorem Fl.made (b : Body X) (I : Inv X pins σ H s) {vs : List Value} {t : Addr} (hx : Heap.MadeExcOf s.heap s'.heap e (.ref C) vs)
   (f : Heap.FlyingW (PySem.W.hideAll s.heap (L2.frs X.stack)) X.outer e (.ref C) (.ref t) h'') (u : s'.heap.UpToSlots h'') :
   Fl X.prog X.w X.outer X.H₀ X.s₀.heap e C (.ref t) (PySem.W.hideAll s.heap (L2.frs X.stack)) H h'' := by
 have nex : ∀ c : Addr, c ∉ X.ex := fun c z => by rw [b.ex] at z; cases z
 have nL : ∀ c o, X.s₀.heap.get? c = some o -> c ≠ X.env.locals := fun c o hc z => by rw [z, b.new] at hc; cases hc
 have ok : HOk X.prog X.w H (PySem.W.hideAll s.heap (L2.frs X.stack)) := fun a o ha => by
   refine (I.hok a o ha).stay (fun c v hc q => PySem.W.hideAll_get _ q fun z => ?_) (fun _ q => q) (fun _ _ q => q)
   have hz := I.stkFree c z
   rcases hc with rfl | hc
   · rw [ha] at hz; cases hz
   · rw [hc] at hz; cases hz
 refine ⟨f, fun c o hc hn => ?_, fun c o hc hH hn => ?_, fun c o hc hH => I.base.free c o hc hH (nex c), ok, ?_, I.base.tups, I.base.frzs, I.base.tbls⟩
 · obtain ⟨o1, h1⟩ := I.base.there c o hc (nex c)
   refine ⟨o1, PySem.W.hideAll_get _ h1 (by rw [b.frs]; exact fun z => (List.mem_cons.mp z).elim (nL c o hc) hn), fun hH => ?_⟩
   have h2 := I.base.keep c o hc hH hn (nex c)
   rw [h1] at h2
   cases h2
   rfl
 · obtain ⟨sl, h1⟩ := I.base.slot c o hc hH hn (nex c)
   have hm : c ∈ L2.frs X.stack := by rw [b.frs]; exact List.mem_cons_of_mem _ hn
   obtain ⟨_, o2, h3, hd⟩ := I.stack.mem hm
   rw [h1] at h3
   cases h3
   obtain ⟨sl3, h4⟩ := u c _ (hx.keeps c _ h1) hd
   exact ⟨sl3, h4⟩
 · cases q : H e with
   | none => rfl
   | some o =>
     obtain ⟨o', ho⟩ := (I.hok e o q).there
     rw [hx.new] at ho
     cases ho
end
section
variable {P : Program} {w : World} {K : PySem.W.Frag} {mg : Str -> Option Value} {base : Heap} {N : List Str} {qual : Str} {scope : Scope} {f : Addr} {cd : Value} {A : Around} {outer : List Env} {s₀ : Shared} {H₀ : Hp} {E : XK}
theorem body_cx {CX : CXT} : Body (xW CX P w K mg base N qual scope f cd A outer s₀ H₀ E) := ⟨rfl, rfl, rfl, Heap.get?_none_of_le (Nat.le_refl _)⟩
def tRaise (C : Addr) (E : XK) (t : TA) : TS := fun _ σ H => t σ H fun vs H1 => vs.length <= sizeLine /\ E (.ref C) none H1
theorem ps_raise {x : Str} {C : Addr} {bm : List Value} {B newId initId : String} {e₀ : Expr} {rest : List Expr} {t : TA} {np cpos pos : Pos}
   (O : OwnCls x C bm newId mg base) (FB : ExcBaseFacts B newId initId bm) (hg : Gl (xW (CX1 P w) P w K mg base N qual scope f cd A outer s₀ H₀ E) x) (hm : mg x = some (.ref C))
   (ha : PA (xW (CX1 P w) P w K mg base N qual scope f cd A outer s₀ H₀ E) (e₀ :: rest) t)
   (he : starEach (e₀ :: rest) (envOfC qual scope s₀.heap.objs.size f cd) = (false, eval e₀ (envOfC qual scope s₀.heap.objs.size f cd)) :: starEach rest (envOfC qual scope s₀.heap.objs.size f cd) := by rfl)
   (hpl : (backTo cpos (starEach rest (envOfC qual scope s₀.heap.objs.size f cd))).any (·.1) = false := by rfl) (hd : (x == ("__debug__" : Str)) = false := by decide) :
   PS (xW (CX1 P w) P w K mg base N qual scope f cd A outer s₀ H₀ E) (.Raise (some (.Call (.Name x np) (e₀ :: rest) [] cpos)) none pos) (tRaise C E t) := by
 intro pins s σ H D I h
 obtain ⟨tl, N', nm, q, bs, hdct, sn, sub, ab, col, dd, k0, k1, k2, k3, k5, mN, hC, hN, hni, T⟩ := O.obj
 refine wpAny_Raise_call_subT (C := C) (nm := nm) (q := q) (N := N') (bs := bs) (bm := tl) (hdct := hdct) (sn := sn) (sub := sub) (ab := ab) (col := col) (dd := dd) (k0 := k0) (k1 := k1) (k2 := k2)
   (k3 := k3) (k5 := k5) FB (mN := mN) (T.hasType FB.hasBase) (I.ok.hd rfl) ?_ hni (jM I hg hm ⟨rfl, ?_⟩ hd)
 · show (backTo cpos (starEach (e₀ :: rest) (envOfC qual scope s₀.heap.objs.size f cd))).any (·.1) = false
   rw [he]
   show (false || (backTo cpos (starEach rest (envOfC qual scope s₀.heap.objs.size f cd))).any (·.1)) = false
   rw [hpl]
   rfl
 have hA : wpAny (model P w) (A.deeper (envOfC qual scope s₀.heap.objs.size f cd)) (spliced (backTo cpos (starEach (e₀ :: rest) (envOfC qual scope s₀.heap.objs.size f cd)))) _ _ s := ha cpos pins s σ H _ I h
 show wpAny (model P w) (A.deeper (envOfC qual scope s₀.heap.objs.size f cd)) (evalArgs (.ref C) true (backTo cpos (starEach (e₀ :: rest) (envOfC qual scope s₀.heap.objs.size f cd))) []) _ _ s
 rw [he] at hA ⊢
 refine Calls.evalArgs_plain (wpAny_mono hA (fun us s2 z => ?_) fun _ _ y => y)
 obtain ⟨vs, H1, I1, r, hl, hE⟩ := z
 refine ⟨rfl, by rw [← r.length]; exact hl, I1.bk _ _ hC, hN.keeps I1.bk, T.keeps I1.bk, fun h' e hm => ?_⟩
 refine wpAny_leaves_madeW (base := PySem.W.hideAll s2.heap (frs (envOfC qual scope s₀.heap.objs.size f cd :: outer))) (h := s2.heap) I1.ok.frames rfl (fun b o q => PySem.W.of_hideAll _ q)
   (PySem.W.funFrames_hide I1.stack fun env he b hb => List.mem_filterMap.mpr ⟨env, he, hb⟩) hm fun h2 t f1 _ _ u1 => ?_
 exact ⟨e, C, .ref t, _, H1, rfl, I1.os, I1.bare, Fl.made (s' := { s2 with heap := h' }) body_cx I1 hm f1 u1, hE⟩
end
section
variable {P : Program} {w : World} {K : PySem.W.Frag} {mg : Str -> Option Value} {base : Heap}
theorem Fun.okX {x qual : Str} {st : Stmt} {f : Addr} {fd : FuncData} {N ps : List Str} {k : Nat} {sp : Sp} (F : Fun K x qual st f fd) (S : FnScope N ps (zG st)) (len : ∀ vs H Q E, sp vs H Q E -> vs.length = ps.length)
   (hbody : ∀ (cdv : Value) (A : Around) (outer : List Env) (s : Shared) (H : Hp) (vs : List V) (Q : VK) (E : XK), Room k (A.deeper (envOfC qual (zG st) s.heap.objs.size f cdv)) -> sp vs H Q E ->
     ∃ t, PSs (xW (CX1 P w) P w K mg base N qual (zG st) f cdv A outer s H E) (zQ st) t /\ t { nx := fun _ H' => Q .non H', rt := Q } (start N vs) H) : FnOk P w K mg base (CX1 P w) (k + 1) f fd ps sp := by
 obtain ⟨oc, od, kV, doc, pm, an, cdv, ct, osl, rfl, lk, hcd⟩ := F.ex
 exact fn_of lk hcd S len fun A outer s H vs Q E hr hsp => hbody cdv A outer s H vs Q E hr hsp
structure HasX (P : Program) (w : World) (K : PySem.W.Frag) (mg : Str -> Option Value) (base : Heap) (k : Nat) (x : Str) (ps : List Str) (sp : Sp) : Prop where
 ex : ∃ f fd, FnOk P w K mg base (CX1 P w) k f fd ps sp /\ Binds K fd ps [] /\ PySem.W.keepIn K (.ref f) = true /\ mg x = some (.ref f)
theorem hasX_of {x qual : Str} {st : Stmt} {f : Addr} {fd : FuncData} {k : Nat} {ps : List Str} {sp : Sp} (F : Fun K x qual st f fd) (h : FnOk P w K mg base (CX1 P w) k f fd ps sp) (b : Binds K fd ps []) (m : mg x = some (.ref f)) : HasX P w K mg base k x ps sp := ⟨f, fd, h, b, F.kp, m⟩
end
abbrev TX := (St -> Hp -> Prop) -> (Addr -> Hp -> Prop) -> St -> Hp -> Prop
def XP (X : Cx) (pins : List (Addr × Obj)) (σ : St) (Qx : Addr -> Hp -> Prop) (e : Value) (s' : Shared) : Prop :=
 ∃ (Hc : Hp) (sc : Shared) (ea C : Addr) (a0 : Value) (B : Heap) (H' : Hp), e = .ref ea /\ Inv X pins σ Hc sc /\ s'.os = sc.os /\ AllBare s'.gens /\ Fl X.prog X.w X.stack Hc sc.heap ea C a0 B H' s'.heap /\ Qx C H'
def PX (X : Cx) (st : List Stmt) (t : TX) : Prop :=
 ∀ (pins : List (Addr × Obj)) (s : Shared) (σ : St) (H : Hp) (Qn : St -> Hp -> Prop) (Qx : Addr -> Hp -> Prop), Inv X pins σ H s -> t Qn Qx σ H ->
   wpAny (model X.prog X.w) X.A (execs st X.env) (fun f s1 => f = .next /\ ∃ σ' H', Inv X pins σ' H' s1 /\ Qn σ' H') (XP X pins σ Qx) s
section
variable {X : Cx} {k : Nat} {f : Addr} {fd : FuncData} {ps : List Str} {sp : Sp} {x y : Str} {i : Nat} {p pos pos' pos2 : Pos} {e : Expr} {es : List Expr} {t : TA}
def tXSet (i : Nat) (sp : Sp) (t : TA) : TX := fun Qn Qx σ H => t σ H fun vs H1 => sp vs H1 (fun v H2 => Qn (σ.set i (some v)) H2) fun c _ H2 => ∃ C, c = .ref C /\ Qx C H2
theorem px_set (hxe : X.xe = fun _ _ => False) (h : HasX X.prog X.w X.K X.mg X.base k x ps sp) (hr : Room k X.A) (hg : Gl X x) (hN : X.N.Nodup) (hi : X.N[i]? = some y) (hy : Loc X.env.scope y) (ha : PA X (e :: es) t)
   (hs : swapsWith (.Call (.Name x p) (e :: es) [] pos) (some (.Name y pos')) pos2.line X.env = pure false := by rfl) (hf : X.fn y = true \/ X.env.scope.names.lookup y = some .local := by first | exact .inl rfl | exact .inr rfl | assumption)
   (hdb : (x == ("__debug__" : Str)) = false := by decide)
   (he : starEach (e :: es) X.env = (false, eval e X.env) :: starEach es X.env := by rfl) (hpl : (backTo pos (starEach es X.env)).any (·.1) = false := by rfl) :
   PX X [.Assign [.Name y pos'] (.Call (.Name x p) (e :: es) [] pos) pos2] (tXSet i sp t) := by
 intro pins s σ H Qn Qx I hq
 obtain ⟨f, fd, F, hb, hk, hm⟩ := h.ex
 have hA := ha pos pins s σ H _ I hq
 rw [hxe] at hA
 refine wpAny_execs_cons (wpAny_mono (Q := fun fl s1 => fl = .next /\ ∃ σ' H', Inv X pins σ' H' s1 /\ Qn σ' H') ?_ (fun fl s1 z => ?_) fun _ _ z => z)
 · refine wpAny_Assign_Name (wpAny_mono (Q := EP X pins σ fun v H2 => Qn (σ.set i (some v)) H2) ?_ (fun v s1 z => ?_) fun _ _ z => z) hs
   · refine wpAny_Call_Name_kw (jM I hg hm ?_ hdb)
     refine PySem.W.callWith_K (h₀ := X.base) I.ok.mod.kin hk (wpAny_mono hA (fun us s1 z => ?_) fun _ _ z => z.elim) he hpl
     obtain ⟨vs, H1, I1, r, q⟩ := z
     refine ⟨I1.kIn, ?_⟩
     have hl : us.length = ps.length := by rw [← r.length]; exact F.len _ _ _ _ q
     have hb2 := hb s1 us I1.kIn (by rw [List.append_nil]; exact hl)
     rw [List.append_nil] at hb2
     refine wpAny_call (codeAny_mono (F.run X.A X.stack s1 H1 ⟨us, []⟩ us vs _ _ hr I1.env0 hb2 r q) fun rr s2 z => ?_)
     cases rr with
     | error ev =>
       obtain ⟨ea, C, a0, B, H', rfl, os, bare, fl, C', eC, qx⟩ := z
       cases eC
       exact ⟨H1, s1, ea, C, a0, B, H', rfl, I1, os, bare, fl, qx⟩
     | ok fl =>
       cases fl with
       | ret u => exact I1.after z
       | next => exact False.elim z
       | brk => exact False.elim z
       | cont => exact False.elim z
   · obtain ⟨v', H1, I1, r1, q1⟩ := z
     exact jG I1 hN hi hy r1 (fun s2 I2 => ⟨rfl, _, H1, I2, q1⟩) hf
 · obtain ⟨rfl, z⟩ := z
   exact wpAny_execs_nil ⟨rfl, z⟩
end
def xO (e C : Addr) : HO := .ext fun h => ∃ o vs, h.get? e = some o /\ o.cls = .ref C /\ o.data = .fields vs
abbrev Cx.held (X : Cx) (e : Addr) : Cx := { X with A := X.A.mark (some (.ref e)), calm := false }
section
variable {X : Cx} {pins : List (Addr × Obj)} {σ : St} {H : Hp} {s : Shared}
theorem Inv.held (I : Inv X pins σ H s) (e : Addr) : Inv (X.held e) pins σ H s :=
 ⟨⟨I.ok.mod, I.ok.kind, I.ok.glob, I.ok.blt, I.ok.above, I.ok.inj, I.ok.has, I.ok.cab, (fun z => nomatch z), I.ok.frames, I.ok.stk, I.ok.exf, I.ok.bs, I.ok.bsz, I.ok.noex, I.ok.exfs, I.ok.funs, I.ok.frf⟩, I.os, I.bare, I.base, I.loc, I.cell, I.free, I.freeC, I.pin, I.hok, I.len⟩
theorem Inv.unheld {e : Addr} (ok : X.Ok) (I : Inv (X.held e) pins σ H s) : Inv X pins σ H s := ⟨ok, I.os, I.bare, I.base, I.loc, I.cell, I.free, I.freeC, I.pin, I.hok, I.len⟩
theorem Inv.gone {i : Nat} {x : Str} {M : Model} {A : Around} {E : Value -> Shared -> Prop} {pos : Pos} {Q : Unit -> Shared -> Prop} (I : Inv X pins σ H s) (hN : X.N.Nodup) (hi : X.N[i]? = some x) (hk : X.env.scope.names.lookup x = some .local)
   (h : ∀ s', Inv X pins (σ.set i none) H s' -> Q () s') : wpAny M A (do bindName X.env x .none; unbindBehindTheSuite X.env x pos) Q E s := by
 obtain ⟨m, hn, hl⟩ := id I.loc
 have hcls : (X.env.scope.kind == .class || (X.env.scope.kind == .module && X.env.locals != X.env.globals)) = false := by rw [I.ok.kind]; rfl
 have hiσ : i < σ.length := by rw [I.len]; exact (List.getElem?_eq_some_iff.mp hi).1
 have cne := I.cne
 have neL : ∀ b o, X.s₀.heap.get? b = some o -> b ≠ X.env.locals := fun b o e => Nat.ne_of_lt (Nat.lt_of_lt_of_le (Heap.lt_size e) I.ok.above)
 refine wpAny_nameGoes_keeps hk hn hcls fun h' v hn' hs => ?_
 have ok : HOk X.prog X.w H h' := fun b ob e => by
   refine (I.hok b ob e).stay (fun c w' hc q => (hs.2 c ?_).trans q) (fun _ q => q) fun _ _ q => q
   rintro rfl
   have := I.free
   rcases hc with rfl | hc
   · rw [this] at e; cases e
   · rw [this] at hc; cases hc
 refine h _ ⟨I.ok, I.os, I.bare, ⟨fun b o e n hb hx => (hs.2 b (neL b o e)).trans (I.base.keep b o e n hb hx), fun b o e n hb hx => ?_, I.base.free, fun b o e hx => ?_, I.base.tups, I.base.frzs, I.base.tbls⟩, ⟨_, hn', fun j y v' e1 e2 e3 => ?_⟩, fun y c e => ?_, I.free, I.freeC, fun p hp => ?_, ok, by simpa using I.len⟩
 · obtain ⟨sl, e1⟩ := I.base.slot b o e n hb hx
   exact ⟨sl, (hs.2 b (neL b o e)).trans e1⟩
 · obtain ⟨o', e1⟩ := I.base.there b o e hx
   exact ⟨o', (hs.2 b (neL b o e)).trans e1⟩
 · by_cases hj : j = i
   · subst hj
     rw [List.getElem?_set_self hiσ] at e2
     cases e2
   · rw [List.getElem?_set_ne (Ne.symm hj)] at e2
     obtain ⟨u', r', q⟩ := hl j y v' e1 e2 e3
     refine ⟨u', r', ?_⟩
     rcases q with ⟨k, e⟩ | ⟨k, c, e, z⟩
     · refine .inl ⟨k, ?_⟩
       have : y ≠ x := fun e => hj (qU hN e1 (e ▸ hi))
       simp [this, e]
     · exact .inr ⟨k, c, e, z.sameBut hs (cne y c e)⟩
 · obtain ⟨w', z⟩ := I.cell y c e
   exact ⟨w', z.sameBut hs (cne y c e)⟩
 · obtain ⟨e, n, ne, nf, d⟩ := I.pin p hp
   exact ⟨(hs.2 p.1 ne).trans e, n, ne, nf, d⟩
end
def xSub (K : PySem.W.Frag) (C : Addr) (v : Value) : Option Bool :=
 if PySem.W.ktsIn K C "BaseException" = true then
   match K.lookup C with
   | some ⟨_, _, .cls k, _⟩ => some (k.mro.contains v)
   | _ => none
 else none
theorem xSub_of {K : PySem.W.Frag} {h : Heap} {C : Addr} {v : Value} {b : Bool} (X : K.In h) (q : xSub K C v = some b) : ∃ nm qn N bs bm hdct sn sub ab col dd k0 k1 k2 k3 k5 newId,
   h.get? C = some (excClassObj nm qn C N bs bm hdct sn sub ab col dd k0 k1 k2 k3 k5 newId) /\ bm.contains (.type "BaseException") = true /\ (Value.ref C :: bm).contains v = b := by
 unfold xSub at q
 split at q
 · rename_i hk
   obtain ⟨nm, qn, N, bs, bm, hdct, sn, sub, ab, col, dd, k0, k1, k2, k3, k5, newId, hC, hB, _⟩ := PySem.W.kts_cls X hk
   refine ⟨nm, qn, N, bs, bm, hdct, sn, sub, ab, col, dd, k0, k1, k2, k3, k5, newId, hC, hB, ?_⟩
   split at q
   · rename_i ho
     have z := (X _ _ ho).symm.trans hC
     simp only [Option.some.injEq, Obj.mk.injEq, Data.cls.injEq] at z
     obtain ⟨_, _, rfl, _⟩ := z
     exact Option.some.inj q
   · cases q
 · cases q
section
variable {M : Model} {A : Around} {E : Value -> Shared -> Prop}
variable {nm q nm' q' : Str} {C N D N' : Addr} {bs bm bs' bm' : List Value} {hdct hdct' : Bool} {sn sn' : List Str} {sub sub' : List Value} {ab ab' : Bool} {col col' : Option Bool} {dd dd' : Option Addr} {k0 k1 k2 k3 k5 j0 j1 j2 j3 j5 : Option Value} {newId newId' : String}
theorem match_own {h : Heap} {g : Array GenState} {d : Drawn} {t : Nat} {os : OsState} {e : Addr} {oe : Obj} {Q : Bool -> Shared -> Prop} {b : Bool}
   (hC : h.get? C = some (excClassObj nm q C N bs bm hdct sn sub ab col dd k0 k1 k2 k3 k5 newId)) (hD : h.get? D = some (excClassObj nm' q' D N' bs' bm' hdct' sn' sub' ab' col' dd' j0 j1 j2 j3 j5 newId'))
   (he : h.get? e = some oe) (hcls : oe.cls = .ref C) (hbase : bm'.contains (.type "BaseException") = true) (hb : (Value.ref C :: bm).contains (.ref D) = b) (hq : Q b ⟨h, g, d, t, os⟩) :
   wpAny M A (excMatches (.ref e) (.ref D)) Q E ⟨h, g, d, t, os⟩ := by
 have hDB : (Value.ref D :: bm').contains (.type "BaseException") = true := by rw [List.contains_cons, hbase, Bool.or_true]
 have fT := tc_notTuple
 unfold excMatches
 repeat (first
   | (with_reducible refine wpAny_loadPart_at he ?_
      rw [hcls])
   | with_reducible refine wpAny_loadPart_at hD ?_
   | (with_reducible refine wpAny_isSubtype_exc hD ?_
      rw [hDB])
   | (with_reducible refine wpAny_isSubtype_exc hC ?_
      rw [hb])
   | wp_step)
 cases b <;> (wp_walk; exact hq)
end
theorem own_mk {K : PySem.W.Frag} {h : Heap} {mg : Str -> Option Value} {x : Str} {C : Addr} {bmB : List Value} {newId : String} (X : K.In h) (hm : mg x = some (.ref C)) (q : PySem.W.excIn K C bmB newId = true) : OwnCls x C bmB newId mg h := by
 refine ⟨hm, ?_⟩
 unfold PySem.W.excIn at q
 split at q
 rotate_left
 · cases q
 rename_i dict klass slots look
 split at q
 rotate_left
 · cases q
 rename_i C2 tail a0 a1 a2 a3 nid a5 em es
 simp only [beq_iff_eq, Bool.and_eq_true, Bool.not_eq_true'] at q
 obtain ⟨⟨⟨⟨⟨e1, e2⟩, e3⟩, e4⟩, e5⟩, e6⟩ := q
 subst e1 e2
 obtain ⟨nm, bs, mro, ns, qn, hd, sn, sub, ab, col, del⟩ := klass
 obtain ⟨l⟩ := slots
 dsimp only at em es e3 e5 e6
 subst em e3 es
 exact ⟨tail, ns, nm, qn, bs, hd, sn, sub, ab, col, dict, a0, a1, a2, a3, a5, _, X _ _ look, .of_isNs (PySem.W.isNs_of_in X e5),
   PySem.W.nsMap_none_of_in X e5 e6, PySem.W.tail_of_in X e4⟩
section
variable {X : Cx} {i : Nat} {y n : Str} {D₀ : Addr} {bD : Bool} {tb : TX} {th : TS} {body suite : List Stmt} {b₀ : Stmt} {np hpos pos : Pos}
def tTry (i : Nat) (cat : Addr -> Prop) (tb : TX) (th : TS) : TS := fun D σ H => tb D.nx (fun C H' => cat C /\ ∀ ea, H' ea = none ->
 th { nx := fun σ' H2 => D.nx (σ'.set i none) H2, rt := fun _ _ => False } (σ.set i (some (.ref ea))) (upd H' ea (xO ea C))) σ H
theorem ps_try (B : Body X) (hN : X.N.Nodup) (hi : X.N[i]? = some n) (hn : X.env.scope.names.lookup n = some .local) (hg : Gl X y) (hm : X.mg y = some (.ref D₀)) (hD : xSub X.K D₀ (.type "BaseException") = some bD)
   (hxe : X.xe = fun _ _ => False) (hb : PX X body tb) (hh : ∀ ea, PSs (X.held ea) (b₀ :: suite) th) (hd : (y == ("__debug__" : Str)) = false := by decide) :
   PS X (.Try body [.ExceptHandler (some (.Name y np)) (some n) (b₀ :: suite) hpos] [] [] pos) (tTry i (fun C => xSub X.K C (.ref D₀) = some true) tb th) := by
 intro pins s σ H D I h
 refine wpAny_Try_except (wpAny_mono (hb pins s σ H _ _ I h) (fun f s1 z => ?_) fun e s1 z => ?_)
 · obtain ⟨rfl, σ', H', I', q⟩ := z
   exact wpAny_execs_nil ⟨σ', H', I', q⟩
 obtain ⟨Hc, sc, ea, C, a0, Bs, H', rfl, Ic, os, bare, x, hcat, q⟩ := z
 have hfr : X.A.frames = some (X.env :: X.outer) := by rw [← B.stk]; exact I.ok.frames
 have hfl : Heap.FlyingW Bs (X.env :: X.outer) ea (.ref C) a0 s1.heap := by rw [← B.stk]; exact x.fly
 refine wpAny_looks_onW hfr B.fr hfl fun h4 held4 u4 => ?_
 refine wpAny_landsW held4 fun h5 fl5 u5 => ?_
 have x5 : Fl X.prog X.w X.stack Hc sc.heap ea C a0 Bs H' h5 := x.step (by rw [B.stk]; exact fl5) (u4.trans u5)
 have I5 : Inv X pins σ H' { s1 with heap := h5 } := Ic.call' (s' := { s1 with heap := h5 }) (ch := []) os x5.un x5.okH bare (fun b z => by cases z)
 refine wpAny_handleBy_cons (codeAny_handlers_test (jM (I5.held ea) hg hm ?_ hd)) (by intro q; cases q)
 obtain ⟨nm, qn, N, bs, bm, hdct, sn, sub, ab, col, dd, k0, k1, k2, k3, k5, newId, hC, hCB, hCc⟩ := xSub_of I5.kIn hcat
 obtain ⟨nm', qn', N', bs', bm', hdct', sn', sub', ab', col', dd', j0, j1, j2, j3, j5, newId', hD', hDB, _⟩ := xSub_of I5.kIn hD
 obtain ⟨ob, hob, hobc⟩ := x5.fly.there
 refine match_own hC hD' hob hobc hDB hCc ?_
 refine codeAny_handlers_suite_as (lands_againW fl5 fun h6 fl6 u6 => ?_)
 have x6 : Fl X.prog X.w X.stack Hc sc.heap ea C a0 Bs H' h6 := x5.step (by rw [B.stk]; exact fl6) u6
 have hsc : sc.heap.get? ea = none := by
   cases hq : sc.heap.get? ea with
   | none => rfl
   | some o =>
     by_cases hfm : ea ∈ frs X.stack
     · obtain ⟨_, o2, h2, hd2⟩ := x6.fly.2.2.1.mem hfm
       obtain ⟨oe, vs, _, _, _, h3, _, h4, _⟩ := x6.fly.2.2.2
       rw [h2] at h3
       cases h3
       exact absurd h4 (hd2 vs)
     · obtain ⟨o', hB, _⟩ := x6.stay ea o hq hfm
       rw [x6.fly.2.1] at hB
       cases hB
 have hup : ∀ b, b ≠ ea -> upd H' ea (xO ea C) b = H' b := fun b hb => zU hb
 have ok6 : HOk X.prog X.w (upd H' ea (xO ea C)) h6 := fun b ob e => by
   by_cases hb : b = ea
   · subst hb
     rw [zC] at e
     cases e
     obtain ⟨oe, vs, _, _, _, h3, hc3, h4, _⟩ := x6.fly.2.2.2
     exact ⟨⟨oe, vs, h3, hc3.1, h4⟩, ⟨oe, h3⟩, fun h1 h2 ⟨o, vs, z1, z2⟩ k => ⟨o, vs, k _ z1, z2⟩⟩
   · rw [zU hb] at e
     refine (x6.okH b ob e).stay (fun c v hc q => q) (fun c q => ?_) (fun c xs q => ?_)
     · rw [zU (fun z => by rw [z, x6.ef] at q; cases q)]; exact q
     · rw [zU (fun z => by rw [z, x6.ef] at q; cases q)]; exact q
 have un6 : Un (frs X.stack) [] Hc (upd H' ea (xO ea C)) sc.heap h6 := by
   have u := x6.un
   have nh : ∀ {c o}, H' c = some o -> c ≠ ea := fun {c o} q z => by rw [z, x6.ef] at q; cases q
   refine ⟨u.keep, u.slot, fun b o e hn hx => ?_, u.there, fun b xs e => ?_, fun b o v e => ?_, fun b ps e => ?_⟩
   · rw [zU (fun z => by rw [z, hsc] at e; cases e)]
     exact u.free b o e hn hx
   · have := u.tups b xs e
     rw [zU (nh this)]; exact this
   · have := u.frzs b o v e
     rw [zU (nh this)]; exact this
   · obtain ⟨more, this⟩ := u.tbls b ps e
     exact ⟨more, by rw [zU (nh this)]; exact this⟩
 have I6 : Inv X pins σ (upd H' ea (xO ea C)) { s1 with heap := h6 } := Ic.call' (s' := { s1 with heap := h6 }) (ch := []) os un6 ok6 bare (fun b z => by cases z)
 refine jG (X := X.held ea) (v := .ref ea) (u := .ref ea) (I6.held ea) hN hi (.inl hn) rfl (fun s7 I7 => ?_) (.inr hn)
 have hS := hh ea pins s7 _ _ _ I7 (q ea x6.ef)
 have hxe2 : (X.held ea).xe = fun _ _ => False := hxe
 rw [hxe2] at hS
 refine wpAny_mono hS (fun f s8 z => ?_) fun _ _ z => z.elim
 cases f with
 | next =>
   obtain ⟨σ8, H8, I8, q8⟩ := z
   exact (I8.unheld I.ok).gone hN hi hn fun s9 I9 => ⟨_, _, I9, q8⟩
 | brk => obtain ⟨_, _, _, z⟩ := z; exact z.elim
 | cont => obtain ⟨_, _, _, z⟩ := z; exact z.elim
 | ret u => obtain ⟨_, _, _, _, _, z⟩ := z; exact z.elim
end
end L2
set_option maxHeartbeats 1000000
namespace L2
open PySem PySem.Spec PyProof.Rows
structure XCls (K : PySem.W.Frag) (C : Addr) : Prop where
 cls : (PySem.W.clsIn K C).isSome = true
 ga : PySem.W.findIn K (.ref C) "__getattribute__" = some (some (.builtin "BaseException.__getattribute__"))
 hk : PySem.W.findIn K (.ref C) "__getattr__" = some none
 kl : PySem.W.findIn K (.ref C) "__class__" = some (some (.builtin "object.__class__"))
 sp : PySem.W.specialIn K (.builtin "object.__class__") "__get__" = some (some (.builtin "getset_descriptor.__get__"))
 tk : PySem.W.takesIn K (.builtin "object.__class__") = some true
 mo : PySem.W.mroIn K C (.type "object") = some true
 mb : PySem.W.mroIn K C (.type "BaseException") = some true
section
open Builtin Builtin.Getset_descriptor
variable {prog : Program} {w : World} {A : Around} {E : Value -> Shared -> Prop} {s : Shared} {K : PySem.W.Frag} {x C : Addr} {ox : Obj}
theorem looks_xfind {M : Model} {h : Heap} (X : K.In h) (c : XCls K C) : PySem.W.Looks M h (Builtin.ObjectAttr.find (.ref x) (.ref C) "__class__") (.bind (.builtin "getset_descriptor.__get__") (.builtin "object.__class__")) := by
 refine (PySem.W.looks_findIn X c.kl).andThen ?_
 refine PySem.W.Looks.andThen (PySem.W.looks_specialIn X c.sp) ?_
 refine PySem.W.Looks.andThen ((PySem.W.looks_takesIn X c.tk).andThen .now) (PySem.W.Looks.tag .now)
theorem x_get {R : Result -> Shared -> Prop} {tp : Value} (X : K.In s.heap) (L0 : PySem.W.Looks (model prog w) s.heap (typeOf (.ref x)) (.ref C)) (c : XCls K C)
   (h : R (.ok (.ret (.ref C))) s) : codeAny (model prog w) A (.call (.builtin "getset_descriptor.__get__") ⟨[.builtin "object.__class__", .ref x, tp], []⟩) R s := by
 obtain ⟨hp, gs, dr, tk, ws⟩ := s
 have L1 := PySem.W.looks_mroIn (M := model prog w) X c.mo
 refine codeAny_call_builtin PySem.W.KF.slot_gs.plain PySem.W.KF.entry_gs
   (PySem.W.KF.slot_gs.check _ _ _ _ _ _ _ _ PySem.W.KF.type_class (PySem.W.KF.args_gs _ _ _) ?_)
 unfold Builtin.«getset_descriptor.__get__» descrGet
 rw [PySem.W.dga_obj]
 refine wpAny_bind
   (wpAny_pure ?_)
 unfold descrGetter descrCheckInstance
 unfold descrNameAndClass isInstance
 simp only [PySem.W.KF.owner_class]
 repeat lk
 refine ⟨Code.quiet_builtin _ (by decide +kernel),
   codeAny_builtin PySem.W.KF.entry_class ?_⟩
 unfold Builtin.«object.__class__»
 unfold shownTypeOf
 repeat lk
 exact h
theorem x_class {Q : Option Value -> Shared -> Prop} (X : K.In s.heap) (L0 : PySem.W.Looks (model prog w) s.heap (typeOf (.ref x)) (.ref C)) (c : XCls K C) (h : Q (some (.ref C)) { s with toks := s.toks + 1 }) : wpAny (model prog w) A (getAttr? (.ref x) "__class__") Q E s := by
 obtain ⟨hh, g, d, t, os⟩ := s
 have L1 := PySem.W.looks_findIn (M := model prog w) X c.ga
 have L2 := PySem.W.looks_findIn (M := model prog w) X c.hk
 have L3 := PySem.W.looks_mroIn (M := model prog w) X c.mb
 have L4 := looks_xfind (M := model prog w) (x := x) X c
 unfold getAttr? getAttrBy? getAttrBy
 refine wpAny_bind (wpAny_mkText (wpAny_bind (wpAny_attempt (wpAny_holding (wpAny_bind (L0.at (wpAny_bind (L1.at ?_))))))))
 show wpAny _ _ (getAttrByItsOwn _ _ _ _ _ _) _ _ _
 unfold getAttrByItsOwn hookBefore
 refine wpAny_bind ?_
 show wpAny _ _ (typeLookup _ _) _ _ _
 refine L2.at ?_
 refine wpAny_bind (wpAny_attempt (wpAny_holding ?_))
 show wpAny _ _ (boundAndCalled _ _ _) _ _ _
 unfold boundAndCalled
 refine wpAny_bind (wpAny_of_eq (F.excAttr_ValueError.ga.bind (.ref x)) ?_)
 refine wpAny_call (codeAny_call_builtin F.excAttr_ValueError.ga.plain F.entry_bexc_ga ?_)
 have kd : builtinKind "BaseException.__getattribute__" = some .slot := by decide +kernel
 have spl : splitId "BaseException.__getattribute__" = some ("BaseException", "__getattribute__") := by decide +kernel
 have fa := F.args_bexc_ga (.ref x) (.str "__class__" t)
 have fin : wpAny (model prog w) A.in1 (Builtin.«object.__getattribute__» ⟨[.ref x, .str "__class__" t], []⟩) (fun fin s' => fin = .done (.ret (.ref C)) /\ s' = ⟨hh, g, d, t + 1, os⟩) (fun _ _ => False) ⟨hh, g, d, t + 1, os⟩ := by
   unfold Builtin.«object.__getattribute__»
   repeat (first | with_reducible refine L0.at ?_ | with_reducible refine L4.at ?_ | wp_step)
   exact x_get X L0 c (wpAny_pure ⟨rfl, rfl⟩)
 have go : wpAny (model prog w) A.in1 (checkBuiltinCall "BaseException.__getattribute__" ⟨[.ref x, .str "__class__" t], []⟩) (fun _ s' => s' = ⟨hh, g, d, t + 1, os⟩) (fun _ _ => False) ⟨hh, g, d, t + 1, os⟩ := by
   simp only [checkBuiltinCall, kd, spl]
   refine wpAny_bind ?_
   unfold isInstance
   repeat (first | with_reducible refine L0.at ?_ | with_reducible refine L3.at ?_ | wp_step)
   rfl
 refine wpAny_mono go (fun _ s1 e1 => ?_) fun _ _ z => z.elim
 subst e1
 refine wpAny_mono fin (fun f1 s1 e1 => ?_) fun _ _ z => z.elim
 obtain ⟨rfl, rfl⟩ := e1
 exact wpAny_pure (wpAny_pure h)
theorem xcls_ob (c : XCls K C) : ∃ c' d' cd sl, K.lookup C = some ⟨c', d', .cls cd, sl⟩ := by
 obtain ⟨k, hk⟩ := Option.isSome_iff_exists.mp c.cls
 unfold PySem.W.clsIn at hk
 split at hk
 · rename_i c' d' cd sl ho
   exact ⟨c', d', cd, sl, ho⟩
 · cases hk
theorem kitx_exc (c : XCls K C) : PySem.W.KitX K (.ref x) (.ref C) (fun h => ∃ o, h.get? x = some o /\ o.cls = .ref C) where
 ty := fun M h _ ⟨o, ho, hc⟩ => hc ▸ (PySem.W.Looks.ld ho).andThen .now
 it := fun _ _ X _ => by
   obtain ⟨c', d', cd, sl, ho⟩ := xcls_ob c
   intro A1 Q1 E1 s1 k q
   unfold isType loadHead
   refine wpAny_bind ?_
   exact wpAny_loadPart (k _ _ (X _ _ ho)) (wpAny_pure q)
 ne := fun h tp dd its n sl X htp => by
   obtain ⟨c', d', cd, sl, ho⟩ := xcls_ob c
   refine Bool.eq_false_iff.mpr fun q => ?_
   cases Value.ref.inj (beq_iff_eq.mp q)
   cases (X _ _ ho).symm.trans htp
 ca := fun X p k => x_class X (p.elim fun o z => z.2 ▸ (PySem.W.Looks.ld z.1).andThen .now) c k
end
def ClV (v : V) (u : Value) : Prop := (∃ D, v = .ref D /\ u = .ref D) \/ ∃ T, v = .ty T /\ u = .type T
def rIsX (K : PySem.W.Frag) : List V -> Hp -> VK -> Prop := fun xs H Q => ∃ e C v u b, xs = [.ref e, v] /\ H e = some (xO e C) /\ XCls K C /\ ClV v u /\ PySem.W.kitOne K (.ref C) u = some b /\ Q (.bl b) H
theorem ClV.rel {v : V} {u u' : Value} (h : ClV v u) (r : RelV v u') : u' = u := by
 rcases h with ⟨D, rfl, rfl⟩ | ⟨T, rfl, rfl⟩
 · exact r
 · cases r; rfl
section
variable {X : Cx}
theorem call_isX : yZ X (.builtin "isinstance") (rIsX X.K) := by
 intro pins s σ H xs us Q I r h
 obtain ⟨e, C, v, u, b, rfl, he, c, cv, hk, q⟩ := h
 obtain ⟨u1, u2, rfl, r1, r2⟩ := vals2 r
 cases (show u1 = Value.ref e from r1)
 cases cv.rel r2
 obtain ⟨⟨o, vs, ho, hc, _⟩, _⟩ := (show ObjOk X.prog X.w H s.heap e (xO e C) from I.hok e _ he)
 exact PySem.W.kia_one (kitx_exc c) I.kIn ⟨o, ho, hc⟩ hk (fun z => nomatch z) fun tk => ⟨.bl b, H, I.tok tk, rfl, q⟩
end
theorem body_nox {CX : CXT} {P : Program} {w : World} {K : PySem.W.Frag} {mg : Str -> Option Value} {base : Heap} {N : List Str} {qual : Str} {scope : Scope} {f : Addr} {cd : Value} {A : Around} {outer : List Env} {s₀ : Shared} {H₀ : Hp} {E : XK} :
   Body (xW CX P w K mg base N qual scope f cd A outer s₀ H₀ E).nox := ⟨rfl, rfl, rfl, Heap.get?_none_of_le (Nat.le_refl _)⟩
section
variable {X : Cx}
theorem jX (K : PySem.W.Frag) (h : X.K = K) : yZ X (.builtin "isinstance") (rIsX K) := by subst h; exact call_isX
theorem bt_ValueError : bootBuiltins "ValueError" = some (.type "ValueError") := by decide +kernel
def tXIf (c : TT) (ta tb : TX) : TX := fun Qn Qx σ H => c σ H fun d H1 => if d = true then ta Qn Qx σ H1 else tb Qn Qx σ H1
end
end L2
set_option maxHeartbeats 8000000
namespace C
open PySem L2
seal PE PT PW PA PS PSs PG PGs PI PPs PO PSet PIf
def top (i : Nat) : Stmt := PySem.Challenge.pw_clashbook_k43_first_open_reading.main.body.getD i (.Pass ⟨0, 0, 0, 0⟩)
abbrev s_s : Stmt := top 19
theorem sc_s : FnScope ["script", "k", "cell", "mixed"] ["script", "k"] (zG s_s) := ⟨rfl, rfl, rfl, by decide +kernel, rfl, by decide +kernel, by decide +kernel⟩
abbrev s_m : Stmt := top 20
theorem sc_m : FnScope ["script", "k", "many", "letters", "first", "spell", "row", "j", "size", "at", "names", "n", "word"] ["script", "k", "many"] (zG s_m) := ⟨rfl, rfl, rfl, by decide +kernel, rfl, by decide +kernel, by decide +kernel⟩
theorem p1060 : (0 : Int) < 10 ^ Int.toNat 60 := by show (0 : Int) < 10 ^ 60; simp
theorem at_toNat {α : Type} {xs : List α} {n : Int} {x : α} (h0 : 0 <= n) (h : xs[n.toNat]? = some x) : atI xs n = some x := by
 obtain ⟨m, rfl⟩ : ∃ m : Nat, n = (m : Int) := ⟨n.toNat, by omega⟩
 exact xA (by simpa using h)
theorem idxI (zs : List Int) (k : Int) (h0 : 0 <= k) (h1 : k < zs.length) : ∃ z, atI (zs.map V.int) k = some (.int z) := by
 have hk : k.toNat < zs.length := by omega
 exact ⟨zs[k.toNat], at_toNat h0 (by rw [List.getElem?_map, List.getElem?_eq_getElem hk]; rfl)⟩
def uB (K : PySem.W.Frag) : Sp := fun vs H Q _ => ∃ (a : Addr) (ns : List Int) (k : Nat), vs = [.ref a, .int k] /\ SqL K H a (ns.map V.int) /\ ns.length <= 63 /\ k <= 100 /\ ∀ z : Int, 0 <= z -> Q (.int z) H
abbrev nV (n : Nat) : V := .int (n : Int)
structure Nms (H : Hp) (p : Addr) (m : Nat) (zs : List Str) : Prop where
 lst : H p = some (.lst (zs.map V.str))
 len : zs.length = m
 nd : zs.Nodup
 nm : ∀ z ∈ zs, Nm z
theorem Nms.same {H H' : Hp} {p : Addr} {m : Nat} {zs : List Str} (e : Same H H') (h : Nms H p m zs) : Nms H' p m zs := ⟨e _ _ h.lst, h.len, h.nd, h.nm⟩
def spNs (K : PySem.W.Frag) : Sp := fun vs H Q _ => ∃ (a : Addr) (ns : List Int) (k m : Nat), vs = [.ref a, .int k, .int m] /\ SqL K H a (ns.map V.int) /\ ns.length <= 63 /\ k <= 99 /\ 1 <= m /\ m <= 5 /\ ∀ p zs H', Same H H' -> Nms H' p m zs -> Q (.ref p) H'
def wd (rs : List Nat) : Str := ⟨(rs.map (97 + ·)).toArray⟩
theorem xM (rs : List Nat) : (wd rs).length = rs.length := by
 show ((rs.map (97 + ·)).toArray).size = _
 rw [List.size_toArray, List.length_map]
theorem wd_cps (rs : List Nat) : (wd rs).cps.toList = rs.map (97 + ·) := rfl
theorem wd_inj {rs ts : List Nat} (h : wd rs = wd ts) : rs = ts := by
 have h2 : rs.map (97 + ·) = ts.map (97 + ·) := congrArg (fun x : Str => x.cps.toList) h
 clear h
 induction rs generalizing ts with
 | nil => cases ts with
   | nil => rfl
   | cons t ts => simp at h2
 | cons r rs ih => cases ts with
   | nil => simp at h2
   | cons t ts =>
     simp only [List.map_cons, List.cons.injEq] at h2
     rw [ih h2.2, show r = t by omega]
theorem uT (n : Nat) (h : n < 26) : atI ("abcdefghijklmnopqrstuvwxyz" : Str).cps.toList (n : Int) = some (97 + n) := by
 have h2 : ∀ k : Fin 26, ("abcdefghijklmnopqrstuvwxyz" : Str).cps.toList[k.val]? = some (97 + k.val) := by decide +kernel
 exact xA (h2 ⟨n, h⟩)
theorem glue_one : ∀ (rs : List Nat), glue [] (rs.map fun r => [97 + r]) = rs.map (97 + ·)
 | [] => rfl
 | [r] => rfl
 | r :: r' :: rs => by
   have ih := glue_one (r' :: rs)
   show [97 + r] ++ [] ++ glue [] ((r' :: rs).map fun r => [97 + r]) = _
   rw [ih]
   rfl
theorem join_wd (rs : List Nat) : Txt.join "" (rs.map fun r => (⟨#[97 + r]⟩ : Str)) = wd rs := by
 have h := glued_toS [] (rs.map fun r => [97 + r])
 rw [List.map_map, glue_one] at h
 have e : ("" : Str) = toS [] := by decide +kernel
 show Builtin.Str.glued "" _ = _
 rw [e]
 exact h
def wn (rs : List Nat) (sz at' n : Nat) : List Nat := (List.range sz).map fun j => (rs.getD j 0 + (if j = at' then n else 0)) % 26
open Classical in
noncomputable def nmF (qs : List Nat) : Str := if wd qs = "none" \/ wd qs = "all" then wd qs ++ "x" else wd qs
theorem jQ (rs : List Nat) (sz at' n : Nat) : (wn rs sz at' n).length = sz := by unfold wn; rw [List.length_map, List.length_range]
theorem nmF_nm {rs : List Nat} {sz at' n : Nat} (hsz : 1 <= sz /\ sz <= 8) : Nm (nmF (wn rs sz at' n)) := by
 have hl := jQ rs sz at' n
 have hq : ∀ r ∈ wn rs sz at' n, r < 26 := fun r hr => by
   unfold wn at hr
   obtain ⟨j, _, rfl⟩ := List.mem_map.mp hr
   omega
 generalize wn rs sz at' n = qs at hl hq
 have hw : ∀ c ∈ (wd qs).cps.toList, 97 <= c /\ c <= 122 := fun c hc => by
   rw [wd_cps] at hc
   obtain ⟨r, hr, rfl⟩ := List.mem_map.mp hc
   have := hq r hr
   omega
 unfold nmF
 by_cases h : wd qs = "none" \/ wd qs = "all"
 · rw [if_pos h]
   rcases h with h | h
   · rw [h]; exact ⟨by decide +kernel, by decide +kernel, by decide +kernel, by decide +kernel, by decide +kernel⟩
   · rw [h]; exact ⟨by decide +kernel, by decide +kernel, by decide +kernel, by decide +kernel, by decide +kernel⟩
 · rw [if_neg h]
   exact ⟨by rw [xM]; omega, by rw [xM]; omega, hw, fun e => h (.inl e), fun e => h (.inr e)⟩
theorem app_x {x y : Str} (h : x ++ "x" = y ++ "x") : x = y := by
 have h2 := congrArg (fun z : Str => z.cps.toList) h
 simp only [cps_app] at h2
 have h3 := List.append_cancel_right h2
 exact str_ext (by rw [← Array.toList_inj]; exact h3)
theorem nmF_inj {qs ts : List Nat} (hl : qs.length = ts.length) (h : nmF qs = nmF ts) : qs = ts := by
 have hx : ("x" : Str).length = 1 := by decide +kernel
 unfold nmF at h
 by_cases h1 : wd qs = "none" \/ wd qs = "all" <;> by_cases h2 : wd ts = "none" \/ wd ts = "all"
 · rw [if_pos h1, if_pos h2] at h
   exact wd_inj (app_x h)
 · rw [if_pos h1, if_neg h2] at h
   have := congrArg Str.length h
   rw [len_app, hx, xM, xM] at this
   omega
 · rw [if_neg h1, if_pos h2] at h
   have := congrArg Str.length h
   rw [len_app, hx, xM, xM] at this
   omega
 · rw [if_neg h1, if_neg h2] at h
   exact wd_inj h
theorem nmF_nd {rs : List Nat} {sz at' m : Nat} (hrl : rs.length = 8) (hr : ∀ r ∈ rs, r < 26) (hsz : sz <= 8) (hat : at' < sz) (hm : m <= 5) : ((List.range m).map fun n => nmF (wn rs sz at' n)).Nodup := by
 refine List.pairwise_iff_getElem.mpr fun x y hx hy hxy e => ?_
 rw [List.length_map, List.length_range] at hx hy
 rw [List.getElem_map, List.getElem_map, List.getElem_range, List.getElem_range] at e
 have e2 := nmF_inj (by rw [jQ, jQ]) e
 have e3 := congrArg (·[at']?) e2
 unfold wn at e3
 simp only [List.getElem?_map, List.getElem?_range hat, Option.map_some, Option.some.injEq, if_true] at e3
 omega
theorem qY (xs : List V) (k : Nat) (h : k <= xs.length) : yV xs none (some (k : Int)) = xs.take k := by
 unfold yV
 rw [HT.sIx_nat, HT.sIx_none, List.drop_zero, Nat.sub_zero, Nat.min_eq_left h]
section
variable {P : Program} {w : World} {K : PySem.W.Frag} {mg : Str -> Option Value} {base : Heap} {f : Addr} {fd : FuncData}
theorem ok_draw (bi : Bi mg) (F : Fun K "_law_draw" "_law_draw" s_s f fd) : FnOk P w K mg base CX0 1 f fd ["script", "k"] (uB K) := by
 refine F.ok sc_s (fun vs H Q E h => ?_) (fun cdv A outer s H vs Q E hr h => ?_)
 · obtain ⟨a, ns, k, rfl, _⟩ := h
   rfl
 obtain ⟨a, ns, k, rfl, hS, hl, hk, q⟩ := h
 refine ⟨_, (zD (yC (zO op_eq (zM call_len rfl bi.len bt_len (zA (pv 0) pa_nil)) zE (zR _)) (zF (zL zE)) pss_nil) (zD (zN (i := 2) sc_s.nd rfl (Or.inl rfl) (zJ op_mod (zS ix_list (pv 0) (zJ op_mod (pv 1) (zM call_len rfl bi.len bt_len (zA (pv 0) pa_nil))) (fun _ _ => rfl)) (zJ op_pow zE zE))) (zD (yC (zO op_lt (pv 1) (zM call_len rfl bi.len bt_len (zA (pv 0) pa_nil)) (zR _)) (zF (zL (pv 2))) pss_nil) (zD (zN (i := 3) sc_s.nd rfl (Or.inl rfl) (zJ op_mod (zJ op_add (zJ op_add (pv 2) (zJ op_mul (zJ op_mul zE (pv 1)) (pv 1))) zE) zE)) (zF (zL (zJ op_mod (zJ op_mul (pv 3) (pv 3)) zE))))))), ?_⟩
 refine zH fun N hN => ?_
 simp! []
 refine ⟨_, .inl ⟨_, hS, rfl⟩, rfl, ?_⟩
 rw [List.length_map]
 by_cases h0 : ns.length = 0
 · rw [if_pos (by omega)]
   exact q 0 (by omega)
 rw [if_neg (by omega)]
 refine hN _ _ ?_
 clear hN
 refine zH fun N hN => ?_
 simp! []
 have hm0 : 0 <= (k : Int) % (ns.length : Int) := Int.emod_nonneg _ (by omega)
 have hm1 : (k : Int) % (ns.length : Int) < ns.length := Int.emod_lt_of_pos _ (by omega)
 obtain ⟨z, hz⟩ := idxI ns ((k : Int) % (ns.length : Int)) hm0 hm1
 refine ⟨ns.length, .inl ⟨_, hS, by rw [List.length_map]⟩, by omega, _, hS, _, hz, ⟨by decide, by decide, by decide⟩, _, rfl, p1060, hN _ _ ?_⟩
 clear hN
 have hc := Int.emod_nonneg z (b := 10 ^ Int.toNat 60) (Int.ne_of_gt p1060)
 generalize z % 10 ^ Int.toNat 60 = cell at hc
 refine zH fun N hN => ?_
 simp! []
 refine ⟨ns.length, .inl ⟨_, hS, by rw [List.length_map]⟩, ?_⟩
 split
 · exact q cell hc
 refine hN _ _ ?_
 clear hN
 refine zH fun N hN => ?_
 simp! []
 refine ⟨.inl ⟨by decide, by decide⟩, .inl ⟨by omega, by omega⟩, by decide, hN _ _ ?_⟩
 clear hN
 have h1 := Int.emod_nonneg (cell + 7919 * (k : Int) * (k : Int) + 1) (b := 2147483647) (by decide)
 have h2 := Int.emod_lt_of_pos (cell + 7919 * (k : Int) * (k : Int) + 1) (b := 2147483647) (by decide)
 generalize (cell + 7919 * (k : Int) * (k : Int) + 1) % 2147483647 = mixed at h1 h2
 simp! []
 refine ⟨.inl ⟨by omega, by omega⟩, by decide, q _ (Int.emod_nonneg _ (by decide))⟩
theorem ok_names (bi : Bi mg) (h_s : Has P w K mg base 1 "_law_draw" ["script", "k"] (uB K)) (F : Fun K "_law_names" "_law_names" s_m f fd) : FnOk P w K mg base CX0 2 f fd ["script", "k", "many"] (spNs K) := by
 refine F.ok sc_m (fun vs H Q E h => ?_) (fun cdv A outer s H vs Q E hr h => ?_)
 · obtain ⟨a, ns, k, m, rfl, _⟩ := h
   rfl
 obtain ⟨a, ns, k, m, rfl, hS, hl, hk, h1, h5, q⟩ := h
 refine ⟨_, (zD (zN (i := 3) sc_m.nd rfl (Or.inr rfl) zV) (zD (zN (i := 4) sc_m.nd rfl (Or.inl rfl) (zK h_s (hr.mono (by omega)) rfl (zA (pv 0) (zA (pv 1) pa_nil)))) (zD (zN (i := 5) sc_m.nd rfl (Or.inl rfl) (zJ op_mod (zJ op_mul (zK h_s (hr.mono (by omega)) rfl (zA (pv 0) (zA (zJ op_add (pv 1) zE) pa_nil))) zE) (zJ op_pow zE zE))) (zD (zN (i := 6) sc_m.nd rfl (Or.inr rfl) (zZ pa_nil)) (zD (yK PassesOwn.never rfl (xD rfl bi.range (zA zE pa_nil)) (zP (i := 7) sc_m.nd rfl (Or.inl rfl)) (zD (yW (xX PySem.F.plainAttrs_list PySem.F.slot_list_append PySem.F.type_list_append mt_append (pv 6) (zA (zJ op_mod (pv 5) zE) pa_nil))) (zF (zN (i := 5) sc_m.nd rfl (Or.inl rfl) (zJ op_fdiv (pv 5) zE))))) (zD (yC (zO op_eq (zJ op_mod (pv 4) zE) zE (zR _)) (zD (ps_asg (zJ op_add zE (zJ op_mod (zS ix_list (pv 6) zE (fun _ _ => rfl)) zE)) (pg_sub (pv 6) zE set_list)) (zF (zL (yP ["j"] ["letters", "row"] [3, 6] (xD rfl bi.range (zA (pv 2) pa_nil)) (fun _ _ _ _ nd => zP (i := 0) nd rfl (Or.inl rfl)) (fun _ _ _ _ => yI) (fun _ _ _ _ => (pe_bmK K PySem.F.plainAttrs_str PySem.F.slot_str_join PySem.F.type_str_join (mt_joinK K) zV (zA (by exact (yP ["n"] ["letters"] [1] (qQ K (yJ (sl_listK K) (pv 2) po_none (yO (zJ op_add (pv 0) zE)))) (fun _ _ _ _ nd => zP (i := 0) nd rfl (Or.inl rfl)) (fun _ _ _ _ => yI) (fun _ _ _ _ => (zS ix_str (pv 1) (pv 0) (fun _ _ => rfl))))) pa_nil))))))) pss_nil) (zD (zN (i := 8) sc_m.nd rfl (Or.inl rfl) (zJ op_add zE (zJ op_mod (zJ op_fdiv (pv 4) zE) zE))) (zD (zN (i := 9) sc_m.nd rfl (Or.inr rfl) (zJ op_mod (zJ op_fdiv (pv 4) zE) (pv 8))) (zD (zN (i := 10) sc_m.nd rfl (Or.inl rfl) (zZ pa_nil)) (zD (yK PassesOwn.never rfl (xD rfl bi.range (zA (pv 2) pa_nil)) (zP (i := 11) sc_m.nd rfl (Or.inr rfl)) (zD (zN (i := 12) sc_m.nd rfl (Or.inl rfl) (xX PySem.F.plainAttrs_str PySem.F.slot_str_join PySem.F.type_str_join mt_join zV (zA (yP ["j"] ["letters", "row", "n", "at"] [3, 6, 11, 9] (xD rfl bi.range (zA (pv 8) pa_nil)) (fun _ _ _ _ nd => zP (i := 0) nd rfl (Or.inl rfl)) (fun _ _ _ _ => yI) (fun _ _ _ _ => (zS ix_str (pv 1) (zJ op_mod (zJ op_add (zS (ix_listK K) (pv 2) (pv 0) (fun _ _ => rfl)) (zJ op_mul (pv 3) (xS call_intB rfl bi.int bt_int (zA (xJ op_eq (pv 0) (pv 4) (zR _)) pa_nil)))) zE) (fun _ _ => rfl)))) pa_nil))) (zD (yC (PW.pt (pw_or (zO op_eq (pv 12) zV (zR _)) (vJ (zO op_eq (pv 12) zV (zR _))))) (zF (zN (i := 12) sc_m.nd rfl (Or.inl rfl) (zJ op_add_str (pv 12) zV))) pss_nil) (zF (yW (xX PySem.F.plainAttrs_list PySem.F.slot_list_append PySem.F.type_list_append mt_append (pv 10) (zA (pv 12) pa_nil))))))) (zF (zL (pv 10))))))))))))), ?_⟩
 refine zH fun N hN => ?_
 simp! []
 refine hN _ _ ?_
 clear hN
 refine zH fun N hN => ?_
 simp! [uB]
 refine ⟨ns, k, rfl, hS, hl, by omega, fun fi hfi => hN _ _ ?_⟩
 clear hN
 refine zH fun N hN => ?_
 simp! [uB]
 refine ⟨ns, k + 1, by omega, hS, hl, by omega, fun z hz => ⟨.inr ⟨by decide, by decide⟩, ⟨by decide, by decide, by decide⟩, by decide, hN _ _ ?_⟩⟩
 clear hN
 have hsp := Int.emod_nonneg (z * 982451653) (b := 26 ^ Int.toNat 8) (by decide)
 generalize z * 982451653 % 26 ^ Int.toNat 8 = sp at hsp
 refine zH fun N hN => ?_
 simp! []
 refine ⟨zI (by decide), fun pr hpr => hN _ _ ?_⟩
 clear hN
 have s1 := zB hpr (.lst [])
 have k1 : upd H pr (.lst []) pr = some (.lst (([] : List Nat).map nV)) := zC
 generalize upd H pr (.lst []) = H1 at s1 k1 ⊢
 refine zW (fun σ H' => ∃ (rs : List Nat) (sp : Int) (o : Option V), Same H H' /\ H' pr = some (.lst (rs.map nV)) /\ rs.length = 8 /\ (∀ r ∈ rs, r < 26) /\ σ = [some (V.ref a), some (V.int k), some (V.int m), some (V.str "abcdefghijklmnopqrstuvwxyz"), some (V.int fi), some (V.int sp), some (V.ref pr), o, none, none, none, none, none]) (fun N hN => ?_) (fun σ H' h => ?_)
 · simp! []
   refine ⟨by decide, by decide, ?_⟩
   refine xH (n := Int.toNat 8) (fun i σ H' => ∃ (rs : List Nat) (sp : Int) (o : Option V), Same H H' /\ H' pr = some (.lst (rs.map nV)) /\ rs.length = i /\ (∀ r ∈ rs, r < 26) /\ 0 <= sp /\ σ = [some (V.ref a), some (V.int k), some (V.int m), some (V.str "abcdefghijklmnopqrstuvwxyz"), some (V.int fi), some (V.int sp), some (V.ref pr), o, none, none, none, none, none]) ⟨[], _, _, s1, k1, rfl, (fun r hr => by cases hr), hsp, rfl⟩ (fun i σ H' hi h => ?_) (fun σ H' h => ?_)
   · obtain ⟨rs, sp, o, s2, k2, hrl, hr26, hs0, rfl⟩ := h
     have hi8 : i < 8 := hi
     simp! []
     have h0 : 0 <= sp % 26 := by omega
     refine ⟨.inl ⟨rfl, _, SqL.of k2⟩, by decide, _, k2, jR (by rw [List.length_map]; omega), ⟨by decide, by decide⟩, s2.upd hpr, rs ++ [(sp % 26).toNat], ?_, by rw [List.length_append, hrl]; rfl, fun r hr => ?_, sp / 26, by omega, rfl, _, rfl⟩
     · rw [zC, List.map_append]
       show some (HO.lst (rs.map nV ++ [V.int (sp % 26)])) = some (HO.lst (rs.map nV ++ [V.int (((sp % 26).toNat : Nat) : Int)]))
       rw [show (((sp % 26).toNat : Nat) : Int) = sp % 26 by omega]
     · rcases List.mem_append.mp hr with hr | hr
       · exact hr26 r hr
       · rw [List.mem_singleton.mp hr]; omega
   · obtain ⟨rs, sp, o, s2, k2, hrl, hr26, hs0, rfl⟩ := h
     exact hN _ _ ⟨rs, _, _, s2, k2, hrl, hr26, rfl⟩
 clear s1 k1
 obtain ⟨rs, sp, o, s1, k1, hrl, hr26, rfl⟩ := h
 refine zH fun N hN => ?_
 simp! [gSub, rSetL]
 refine ⟨by decide, rfl, ?_⟩
 by_cases hf3 : fi % 3 = 0
 · rw [if_pos hf3]
   obtain ⟨r0, rt, rfl⟩ : ∃ r0 rt, rs = r0 :: rt := by
     cases rs with
     | nil => simp at hrl
     | cons r0 rt => exact ⟨r0, rt, rfl⟩
   replace k1 : H' pr = some (.lst (nV r0 :: rt.map nV)) := k1
   refine ⟨_, SqL.of k1, nV r0, at0, _, rfl, by decide, ?_⟩
   obtain ⟨r1, hr1, e1⟩ : ∃ r1 : Nat, (1 <= r1 /\ r1 <= 12) /\ (1 + (r0 : Int) % 12) = (r1 : Int) := ⟨1 + r0 % 12, by omega, by omega⟩
   rw [e1]
   refine ⟨_, k1, 0, by simp [ixN], by omega, by omega, ?_⟩
   show LcW _ _ _ _ _ _ _ (upd H' pr (HO.lst ((r1 :: rt).map nV))) Q
   have hr' : ∀ r ∈ r1 :: rt, r < 26 := fun r hr => by
     rcases List.mem_cons.mp hr with rfl | hr
     · omega
     · exact hr26 r (List.mem_cons_of_mem _ hr)
   have hrl' : (r1 :: rt).length = 8 := hrl
   have s2 := s1.upd (o := .lst ((r1 :: rt).map nV)) hpr
   have k2 : upd H' pr (.lst ((r1 :: rt).map nV)) pr = some (.lst ((r1 :: rt).map nV)) := zC
   generalize upd H' pr (.lst ((r1 :: rt).map nV)) = H2 at s2 k2 ⊢
   clear k1 s1 hrl hr26
   refine lc_range (n := (m : Int).toNat) (fun i ys σ H3 => Same H2 H3 /\ ys = (List.range i).map (fun j => V.str (wd ((r1 :: rt).take (j + 1)))) /\ ∃ o, σ = [o, some (V.str "abcdefghijklmnopqrstuvwxyz"), some (V.ref pr)]) ⟨Same.refl _, rfl, _, rfl⟩ (zI (by omega)) (fun i ys σ H3 e => ?_) (fun i ys σ H3 C hi e hC => ?_) (fun ys σ H3 e p hp => ?_)
   · rw [e.2.1, List.length_map, List.length_range]
     exact Nat.le_refl _
   · obtain ⟨s3, rfl, o, rfl⟩ := e
     have e0 : (0 : Int) + (i : Int) + 1 = ((i + 1 : Nat) : Int) := by omega
     simp! []
     refine ⟨rfl, _, SqL.of (s3 _ _ k2), fun p1 hp1 => ?_⟩
     rw [e0, qY _ _ (by rw [List.length_map]; omega), ← List.map_take]
     have s4 := s3.trans (zB hp1 (.lst (((r1 :: rt).take (i + 1)).map nV)))
     have k4 : upd H3 p1 (.lst (((r1 :: rt).take (i + 1)).map nV)) p1 = some (.lst (((r1 :: rt).take (i + 1)).map nV)) := zC
     generalize upd H3 p1 (.lst (((r1 :: rt).take (i + 1)).map nV)) = H4 at s4 k4 ⊢
     have hq : ∀ r ∈ (r1 :: rt).take (i + 1), r < 26 := fun r hr => hr' r (List.mem_of_mem_take hr)
     have hql : ((r1 :: rt).take (i + 1)).length <= 8 := by rw [List.length_take]; omega
     generalize hqs : (r1 :: rt).take (i + 1) = qs at k4 hq hql ⊢
     refine ⟨⟨_, SqL.of k4⟩, ?_⟩
     refine yS (xs := qs.map nV) (fun k ys σ H5 => H5 = H4 /\ ys = (qs.take k).map (fun r => V.str ⟨#[97 + r]⟩) /\ ∃ o, σ = [o, some (V.str "abcdefghijklmnopqrstuvwxyz")]) ⟨rfl, rfl, _, rfl⟩ (zI (by rw [List.length_map]; omega)) (fun k ys σ H5 e => ?_) (fun k ys σ H5 e => by rw [e.1]; exact SqL.of k4) (fun k x ys σ H5 C' hx e hC' => ?_) (fun ys σ H5 e p hp => ?_)
     · rw [e.2.1, List.length_map, List.length_take]
       exact Nat.min_le_left ..
     · obtain ⟨rfl, rfl, o, rfl⟩ := e
       rw [List.getElem?_map] at hx
       obtain ⟨r, hr, rfl⟩ := Option.map_eq_some_iff.mp hx
       obtain ⟨hkl, hk2⟩ := List.getElem?_eq_some_iff.mp hr
       simp! []
       refine ⟨zI (by decide +kernel), _, uT r (hq r (List.mem_of_getElem? hr)), hC' _ _ _ ⟨rfl, ?_, _, rfl⟩⟩
       rw [List.take_succ_eq_append_getElem hkl, hk2, List.map_append]
       rfl
     · obtain ⟨rfl, rfl, o, rfl⟩ := e
       rw [List.length_map, List.take_of_length_le (Nat.le_refl _)]
       refine ⟨p, rfl, qs.map (fun r => (⟨#[97 + r]⟩ : Str)), SqL.of (by rw [zC, List.map_map]; rfl), ?_, hC _ _ _ ⟨s4.trans (zB hp _), ?_, _, rfl⟩⟩
       · rw [List.map_map]
         have e1 : ((fun x : Str => x.length) ∘ fun r => (⟨#[97 + r]⟩ : Str)) = fun _ => 1 := rfl
         rw [e1, List.length_map]
         have e2 : (qs.map fun _ => 1).sum = qs.length := by
           clear hqs k4 hq hql
           induction qs with
           | nil => rfl
           | cons q qs ih => rw [List.map_cons, List.sum_cons, ih, List.length_cons]; omega
         rw [e2, show (Str.ofString "").length = 0 from rfl]
         omega
       · rw [join_wd, List.range_succ, List.map_append, ← hqs]
         rfl
   · obtain ⟨s3, rfl, o, rfl⟩ := e
     rw [show (m : Int).toNat = m from Int.toNat_natCast _]
     refine q p ((List.range m).map fun j => wd ((r1 :: rt).take (j + 1))) _ ((s2.trans s3).trans (zB hp _)) ⟨by rw [zC, List.map_map]; rfl, by rw [List.length_map, List.length_range], ?_, fun z hz => ?_⟩
     · refine List.pairwise_iff_getElem.mpr fun x y hx hy hxy e => ?_
       rw [List.length_map, List.length_range] at hx hy
       rw [List.getElem_map, List.getElem_map, List.getElem_range, List.getElem_range] at e
       have := congrArg List.length (wd_inj e)
       rw [List.length_take, List.length_take] at this
       omega
     · obtain ⟨j, hj, rfl⟩ := List.mem_map.mp hz
       have hj := List.mem_range.mp hj
       have hlj : (wd ((r1 :: rt).take (j + 1))).length = j + 1 := by rw [xM, List.length_take]; omega
       have h0 : (wd ((r1 :: rt).take (j + 1))).cps.toList[0]? = some (97 + r1) := by rw [wd_cps]; rfl
       refine ⟨by omega, by omega, fun c hc => ?_, fun e => ?_, fun e => ?_⟩
       · rw [wd_cps] at hc
         obtain ⟨r, hr, rfl⟩ := List.mem_map.mp hc
         have := hr' r (List.mem_of_mem_take hr)
         omega
       · rw [e, show ("none" : Str).cps.toList[0]? = some 110 by decide +kernel] at h0
         have := Option.some.inj h0
         omega
       · rw [e, show ("all" : Str).cps.toList[0]? = some 97 by decide +kernel] at h0
         have := Option.some.inj h0
         omega
 rw [if_neg hf3]
 refine hN _ _ ?_
 clear hN
 refine zH fun N hN => ?_
 simp! []
 refine ⟨⟨by decide, by decide⟩, by decide, hN _ _ ?_⟩
 clear hN
 obtain ⟨sz, hsz, esz⟩ : ∃ sz : Nat, (1 <= sz /\ sz <= 8) /\ 1 + fi / 3 % 8 = (sz : Int) := ⟨(1 + fi / 3 % 8).toNat, by omega, by omega⟩
 rw [esz]
 refine zH fun N hN => ?_
 simp! []
 refine ⟨⟨by decide, by decide⟩, by omega, hN _ _ ?_⟩
 clear hN
 have ha0 := Int.emod_nonneg (fi / 24) (b := (sz : Int)) (by omega)
 have ha1 := Int.emod_lt_of_pos (fi / 24) (b := (sz : Int)) (by omega)
 obtain ⟨at', hat, eat⟩ : ∃ at' : Nat, at' < sz /\ fi / 24 % (sz : Int) = (at' : Int) := ⟨(fi / 24 % (sz : Int)).toNat, by omega, by omega⟩
 rw [eat]
 clear ha0 ha1 eat esz
 refine zH fun N hN => ?_
 simp! []
 refine ⟨zI (by decide), fun pn hpn => hN _ _ ?_⟩
 clear hN
 have npn := s1.free hpn
 have nrn : pr ≠ pn := yH k1 hpn
 have s2 := s1.trans (zB hpn (.lst []))
 have k2 : upd H' pn (.lst []) pn = some (.lst (([] : List Str).map V.str)) := zC
 replace k1 := zB hpn (.lst []) _ _ k1
 generalize upd H' pn (.lst []) = H2 at s2 k1 k2 ⊢
 refine zW (fun σ H' => ∃ (o7 o11 o12 : Option V), Same H H' /\ H' pn = some (.lst (((List.range m).map fun n => nmF (wn rs sz at' n)).map V.str)) /\ σ = [some (V.ref a), some (V.int k), some (V.int m), some (V.str "abcdefghijklmnopqrstuvwxyz"), some (V.int fi), some (V.int sp), some (V.ref pr), o7, some (V.int sz), some (V.int at'), some (V.ref pn), o11, o12]) (fun N hN => ?_) (fun σ H' h => ?_)
 · simp! []
   refine ⟨by omega, by omega, ?_⟩
   refine xH (n := (m : Int).toNat) (fun i σ H' => ∃ (o7 o11 o12 : Option V), Same H H' /\ H' pr = some (.lst (rs.map nV)) /\ H' pn = some (.lst (((List.range i).map fun n => nmF (wn rs sz at' n)).map V.str)) /\ σ = [some (V.ref a), some (V.int k), some (V.int m), some (V.str "abcdefghijklmnopqrstuvwxyz"), some (V.int fi), some (V.int sp), some (V.ref pr), o7, some (V.int sz), some (V.int at'), some (V.ref pn), o11, o12]) ⟨_, _, _, s2, k1, k2, rfl⟩ (fun i σ H' hi h => ?_) (fun σ H' h => ?_)
   rotate_left
   · obtain ⟨o7, o11, o12, s3, _, k3, rfl⟩ := h
     rw [show (m : Int).toNat = m from Int.toNat_natCast _] at k3
     exact hN _ _ ⟨_, _, _, s3, k3, rfl⟩
   obtain ⟨o7, o11, o12, s3, kr, k3, rfl⟩ := h
   have e0 : (0 : Int) + (i : Int) = ((i : Nat) : Int) := by omega
   have him : i < m := by omega
   show tSeq _ _ _ _ _
   refine zH fun N hN => ?_
   simp! []
   rw [e0]
   refine ⟨rfl, by omega, by omega, ?_⟩
   refine lc_range (n := (sz : Int).toNat) (fun j ys σ H5 => H5 = H' /\ ys = ((wn rs sz at' i).take j).map (fun r => V.str ⟨#[97 + r]⟩) /\ ∃ o, σ = [o, some (V.str "abcdefghijklmnopqrstuvwxyz"), some (V.ref pr), some (V.int i), some (V.int at')]) ⟨rfl, rfl, _, rfl⟩ (zI (by omega)) (fun j ys σ H5 e => ?_) (fun j ys σ H5 C' hj e hC' => ?_) (fun ys σ H5 e p hp => ?_)
   · rw [e.2.1, List.length_map, List.length_take]
     exact Nat.min_le_left ..
   · obtain ⟨rfl, rfl, o, rfl⟩ := e
     have e1 : (0 : Int) + (j : Int) = ((j : Nat) : Int) := by omega
     have hj8 : j < rs.length := by omega
     simp! []
     rw [e1]
     refine ⟨_, SqL.of kr, nV rs[j], xA (by rw [List.getElem?_map, List.getElem?_eq_getElem hj8]; rfl), ?_⟩
     have e2 : ((rs[j] : Int) + (i : Int) * (if (j : Int) = (at' : Int) then 1 else 0)) % 26 = (((rs.getD j 0 + (if j = at' then i else 0)) % 26 : Nat) : Int) := by
       rw [List.getD_eq_getElem?_getD, List.getElem?_eq_getElem hj8]
       show ((rs[j] : Int) + (i : Int) * (if (j : Int) = (at' : Int) then 1 else 0)) % 26 = (((rs[j] + (if j = at' then i else 0)) % 26 : Nat) : Int)
       by_cases hja : j = at'
       · rw [if_pos hja, if_pos (by omega)]; omega
       · rw [if_neg hja, if_neg (by omega)]; omega
     refine ⟨rfl, .inl ⟨by omega, by omega⟩, _, rfl, by decide, zI (by decide +kernel), 97 + (rs.getD j 0 + (if j = at' then i else 0)) % 26, ?_, hC' _ _ _ ⟨rfl, ?_, _, rfl⟩⟩
     · rw [e2]
       exact uT _ (by omega)
     · have hjl : j < (wn rs sz at' i).length := by rw [jQ]; omega
       rw [List.take_succ_eq_append_getElem hjl, List.map_append]
       have e3 : (wn rs sz at' i)[j] = (rs.getD j 0 + (if j = at' then i else 0)) % 26 := by
         have : (wn rs sz at' i)[j]? = some ((rs.getD j 0 + (if j = at' then i else 0)) % 26) := by
           unfold wn
           rw [List.getElem?_map, List.getElem?_range (by omega)]
           rfl
         rw [List.getElem?_eq_getElem hjl] at this
         exact Option.some.inj this
       rw [e3]
       rfl
   obtain ⟨rfl, rfl, o, rfl⟩ := e
   rw [show (sz : Int).toNat = sz from Int.toNat_natCast _, List.take_of_length_le (by rw [jQ]; exact Nat.le_refl _)]
   have hwl := jQ rs sz at' i
   refine ⟨p, rfl, (wn rs sz at' i).map (fun r => (⟨#[97 + r]⟩ : Str)), SqL.of (by rw [zC, List.map_map]; rfl), ?_, hN _ _ ?_⟩
   · rw [List.map_map]
     have e1 : ((fun x : Str => x.length) ∘ fun r => (⟨#[97 + r]⟩ : Str)) = fun _ => 1 := rfl
     rw [e1, List.length_map]
     have e2 : ∀ qs : List Nat, (qs.map fun _ => 1).sum = qs.length := fun qs => by
       induction qs with
       | nil => rfl
       | cons q qs ih => rw [List.map_cons, List.sum_cons, ih, List.length_cons]; omega
     rw [e2, show (Str.ofString "").length = 0 from rfl]
     omega
   clear hN
   rw [join_wd]
   have s4 := s3.trans (zB hp (.lst ((wn rs sz at' i).map fun r => V.str ⟨#[97 + r]⟩)))
   replace kr := zB hp (.lst ((wn rs sz at' i).map fun r => V.str ⟨#[97 + r]⟩)) _ _ kr
   replace k3 := zB hp (.lst ((wn rs sz at' i).map fun r => V.str ⟨#[97 + r]⟩)) _ _ k3
   generalize upd H5 p (.lst ((wn rs sz at' i).map fun r => V.str ⟨#[97 + r]⟩)) = H6 at s4 kr k3 ⊢
   refine zW (fun σ H' => H' = H6 /\ σ = [some (V.ref a), some (V.int k), some (V.int m), some (V.str "abcdefghijklmnopqrstuvwxyz"), some (V.int fi), some (V.int sp), some (V.ref pr), o7, some (V.int sz), some (V.int at'), some (V.ref pn), some (V.int i), some (V.str (nmF (wn rs sz at' i)))]) (fun N hN => ?_) (fun σ H' h => ?_)
   · have hx1 : (wd (wn rs sz at' i)).length + (Str.ofString "x").length <= sizeLine := by
       rw [xM, hwl, show (Str.ofString "x").length = 1 by decide +kernel]
       exact zI (by omega)
     simp! []
     unfold nmF at hN
     refine ⟨rfl, ?_⟩
     by_cases c1 : wd (wn rs sz at' i) = "none"
     · rw [if_pos c1]
       rw [if_pos (.inl c1)] at hN
       exact ⟨hx1, hN _ _ ⟨rfl, rfl⟩⟩
     rw [if_neg c1]
     refine ⟨rfl, ?_⟩
     by_cases c2 : wd (wn rs sz at' i) = "all"
     · rw [if_pos c2]
       rw [if_pos (.inr c2)] at hN
       exact ⟨hx1, hN _ _ ⟨rfl, rfl⟩⟩
     rw [if_neg c2]
     rw [if_neg (by rintro (z | z); exact c1 z; exact c2 z)] at hN
     exact hN _ _ ⟨rfl, rfl⟩
   obtain ⟨rfl, rfl⟩ := h
   simp! []
   refine ⟨.inl ⟨rfl, _, SqL.of k3⟩, _, k3, jR (by rw [List.length_map, List.length_map, List.length_range]; omega), s4.upd npn, by rw [zU nrn]; exact kr, ?_, _, rfl⟩
   rw [zC, List.range_succ, List.map_append, List.map_append]
   rfl
 obtain ⟨o7, o11, o12, s3, k3, rfl⟩ := h
 simp! []
 exact q pn _ _ s3 ⟨k3, by rw [List.length_map, List.length_range], nmF_nd hrl hr26 hsz.2 hat h5, fun z hz => by
   obtain ⟨n, _, rfl⟩ := List.mem_map.mp hz
   exact nmF_nm hsz⟩
end
abbrev s_o : Stmt := top 21
theorem sc_o : FnScope ["stack", "cell", "names", "way", "pick"] ["stack", "cell", "names"] (zG s_o) := ⟨rfl, rfl, rfl, by decide +kernel, rfl, by decide +kernel, by decide +kernel⟩
abbrev s_v : Stmt := top 22
theorem sc_v : FnScope ["script", "k", "many", "names", "stack", "n"] ["script", "k", "many", "names"] (zG s_v) := ⟨rfl, rfl, rfl, by decide +kernel, rfl, by decide +kernel, by decide +kernel⟩
mutual
def nms : Tm -> List Str
 | .name x => [x]
 | .node _ ts => nmss ts
def nmss : List Tm -> List Str
 | [] => []
 | t :: ts => nms t ++ nmss ts
end
theorem nmss_mem {x : Str} : ∀ {ts : List Tm}, x ∈ nmss ts ↔ ∃ t ∈ ts, x ∈ nms t
 | [] => by simp [nmss]
 | t :: ts => by rw [nmss, List.mem_append, nmss_mem (ts := ts)]; simp
structure TsOk (zs : List Str) (d n : Nat) (ts : List Tm) : Prop where
 fit : ∀ t ∈ ts, Fit d t
 nam : ∀ t ∈ ts, ∀ x ∈ nms t, x ∈ zs
 sz : wts ts <= n
theorem atI_neg {xs : List V} {k : Nat} (h1 : 1 <= k) (h : k <= xs.length) : atI xs (-(k : Int)) = xs[xs.length - k]? := by
 have e : ixN xs.length (-(k : Int)) = some (xs.length - k) := by
   unfold ixN
   rw [if_neg (by omega), if_pos (by omega)]
   congr 1
   omega
 unfold atI
 rw [e]
 rfl
theorem jO (xs : List V) (k : Nat) (h1 : 1 <= k) (h : k <= xs.length) : yV xs none (some (-(k : Int))) = xs.take (xs.length - k) := by
 unfold yV
 have e : HT.sIx xs.length xs.length (some (-(k : Int))) = xs.length - k := by
   unfold HT.sIx
   simp only
   rw [if_pos (by omega)]
   omega
 rw [e, HT.sIx_none, List.drop_zero, Nat.sub_zero]
theorem xU {us : List V} {k j : Nat} (hk : k <= us.length) (hj : j < k) : atI us (-((k - j : Nat) : Int)) = (us.drop (us.length - k))[j]? := by
 rw [atI_neg (by omega) (by omega), List.getElem?_drop]
 congr 1
 omega
theorem last1 {us : List V} (h : 1 <= us.length) : ∃ a, us.drop (us.length - 1) = [a] /\ atI us (-1) = some a := by
 have hl : (us.drop (us.length - 1)).length = 1 := by rw [List.length_drop]; omega
 have d0 := xU (k := 1) (j := 0) h (by omega)
 match hd : us.drop (us.length - 1), hl with
 | [a], _ =>
   rw [hd] at d0
   exact ⟨a, rfl, d0⟩
theorem last2 {us : List V} (h : 2 <= us.length) : ∃ a b, us.drop (us.length - 2) = [a, b] /\ atI us (-2) = some a /\ atI us (-1) = some b := by
 have hl : (us.drop (us.length - 2)).length = 2 := by rw [List.length_drop]; omega
 have d0 := xU (k := 2) (j := 0) h (by omega)
 have d1 := xU (k := 2) (j := 1) h (by omega)
 match hd : us.drop (us.length - 2), hl with
 | [a, b], _ =>
   rw [hd] at d0 d1
   exact ⟨a, b, rfl, d0, d1⟩
theorem last3 {us : List V} (h : 3 <= us.length) : ∃ a b c, us.drop (us.length - 3) = [a, b, c] /\ atI us (-3) = some a /\ atI us (-2) = some b /\ atI us (-1) = some c := by
 have hl : (us.drop (us.length - 3)).length = 3 := by rw [List.length_drop]; omega
 have d0 := xU (k := 3) (j := 0) h (by omega)
 have d1 := xU (k := 3) (j := 1) h (by omega)
 have d2 := xU (k := 3) (j := 2) h (by omega)
 match hd : us.drop (us.length - 3), hl with
 | [a, b, c], _ =>
   rw [hd] at d0 d1 d2
   exact ⟨a, b, c, rfl, d0, d1, d2⟩
theorem uO (j : Int) (h : 0 <= j /\ j < 2) : ∃ w : Str, (w = "both" \/ w = "either") /\ atI [V.str "both", V.str "either"] j = some (.str w) := by
 have : j = 0 \/ j = 1 := by omega
 rcases this with rfl | rfl
 · exact ⟨"both", .inl rfl, rfl⟩
 · exact ⟨"either", .inr rfl, rfl⟩
theorem sh_two {w : Str} {k : Nat} (hw : w = "both" \/ w = "either") (hk : 2 <= k) : Sh w k := by
 rcases hw with h | h
 · exact .inr (.inr (.inr (.inl ⟨h, hk⟩)))
 · exact .inr (.inr (.inr (.inr ⟨h, hk⟩)))
theorem TsOk.fold {zs : List Str} {d n : Nat} {ts : List Tm} (h : TsOk zs d n ts) (k : Nat) (w : Str) (hk : k <= ts.length) (hs : Sh w k) : TsOk zs (d + 1) (n + 1) (ts.take (ts.length - k) ++ [.node w (ts.drop (ts.length - k))]) := by
 have hl : (ts.drop (ts.length - k)).length = k := by rw [List.length_drop]; omega
 refine ⟨fun t ht => ?_, fun t ht => ?_, ?_⟩
 · rcases List.mem_append.mp ht with ht | ht
   · exact (h.fit t (List.mem_of_mem_take ht)).up
   · rw [List.mem_singleton.mp ht]
     exact ⟨by rw [hl]; exact hs, fun u hu => h.fit u (List.mem_of_mem_drop hu)⟩
 · rcases List.mem_append.mp ht with ht | ht
   · exact h.nam t (List.mem_of_mem_take ht)
   · rw [List.mem_singleton.mp ht]
     intro x hx
     rw [nms] at hx
     obtain ⟨u, hu, hx⟩ := nmss_mem.mp hx
     exact h.nam u (List.mem_of_mem_drop hu) x hx
 · have e := wts_append (ts.take (ts.length - k)) (ts.drop (ts.length - k))
   rw [List.take_append_drop] at e
   have := h.sz
   rw [wts_append, wts, wts, wt]
   omega
theorem TsOk.leaf {zs : List Str} {d n : Nat} {ts : List Tm} (h : TsOk zs d n ts) {t : Tm} (hf : Fit 0 t) (hn : ∀ x ∈ nms t, x ∈ zs) (hw : wt t = 1) : TsOk zs d (n + 1) (ts ++ [t]) := by
 refine ⟨fun u hu => ?_, fun u hu => ?_, ?_⟩
 · rcases List.mem_append.mp hu with hu | hu
   · exact h.fit u hu
   · rw [List.mem_singleton.mp hu]; exact hf.mono (Nat.zero_le _)
 · rcases List.mem_append.mp hu with hu | hu
   · exact h.nam u hu
   · rw [List.mem_singleton.mp hu]; exact hn
 · have := h.sz
   rw [wts_append, wts, wts]
   omega
def spPu : Sp := fun vs H Q _ => ∃ (sa na : Addr) (c : Int) (us : List V) (ts : List Tm) (m d n : Nat) (zs : List Str), vs = [.ref sa, .int c, .ref na] /\ 0 <= c /\ H sa = some (.lst us) /\ TAts H ts us /\ TsOk zs d n ts /\ ts.length <= 100 /\ Nms H na m zs /\ 1 <= m /\ m <= 5 /\
 ∀ p us' ts' d' H', Same H H' -> H' p = some (.lst us') -> TAts H' ts' us' -> TsOk zs d' (n + 1) ts' -> ts' ≠ [] -> ts'.length <= ts.length + 1 -> d' + ts'.length <= d + ts.length + 1 -> Q (.ref p) H'
def spTe (K : PySem.W.Frag) : Sp := fun vs H Q _ => ∃ (a na : Addr) (ns : List Int) (k m j : Nat) (zs : List Str), vs = [.ref a, .int k, .int m, .ref na] /\ SqL K H a (ns.map V.int) /\ ns.length <= 63 /\ k <= 50 /\ 1 <= m /\ m <= 20 /\ Nms H na j zs /\ 1 <= j /\ j <= 5 /\ ∀ v t H', Same H H' -> TAt H' t v -> Fit 20 t -> wt t <= 100 -> (∀ x ∈ nms t, x ∈ zs) -> Q v H'
section
variable {P : Program} {w : World} {K : PySem.W.Frag} {mg : Str -> Option Value} {base : Heap} {f : Addr} {fd : FuncData}
theorem ok_pushed (bi : Bi mg) (F : Fun K "_law_pushed" "_law_pushed" s_o f fd) : FnOk P w K mg base CX0 1 f fd ["stack", "cell", "names"] spPu := by
 refine F.ok sc_o (fun vs H Q E h => ?_) (fun cdv A outer s H vs Q E hr h => ?_)
 · obtain ⟨sa, na, c, us, ts, m, d, n, zs, rfl, _⟩ := h
   rfl
 obtain ⟨sa, na, c, us, ts, m, d, n, zs, rfl, hc, hsa, hts, ok, hl, hn, hm1, hm5, q⟩ := h
 have hul := hts.length
 refine ⟨_, (zD (zN (i := 3) sc_o.nd rfl (Or.inl rfl) (zJ op_mod (pv 1) zE)) (zD (zN (i := 4) sc_o.nd rfl (Or.inl rfl) (zJ op_mod (zJ op_fdiv (pv 1) zE) (zJ op_add (zJ op_mul zE (zM call_len rfl bi.len bt_len (zA (pv 2) pa_nil))) zE))) (zD (yC (PW.pt (vK (PW.pt (pw_or (zO op_eq (pv 3) zE (zR _)) (vJ (zO op_eq (pv 3) zE (zR _))))) (qH (zO op_gt (zM call_len rfl bi.len bt_len (zA (pv 0) pa_nil)) zE (zR _))))) (zF (zL (zJ op_cat (yJ sl_list (pv 0) po_none (yO (xL un_neg zE))) (zZ (zA (zY (zA zV (zA (zS ix_list (pv 0) (xL un_neg zE) (fun _ _ => rfl)) pa_nil))) pa_nil))))) pss_nil) (zD (yC (PW.pt (vK (PW.pt (pw_or (zO op_eq (pv 3) zE (zR _)) (vJ (zO op_eq (pv 3) zE (zR _))))) (qH (zO op_gt (zM call_len rfl bi.len bt_len (zA (pv 0) pa_nil)) zE (zR _))))) (zF (zL (zJ op_cat (yJ sl_list (pv 0) po_none (yO (xL un_neg zE))) (zZ (zA (zY (zA (zS ix_list (zZ (zA zV (zA zV pa_nil))) (zJ op_sub (pv 3) zE) (fun _ _ => rfl)) (zA (zS ix_list (pv 0) (xL un_neg zE) (fun _ _ => rfl)) (zA (zS ix_list (pv 0) (xL un_neg zE) (fun _ _ => rfl)) pa_nil)))) pa_nil))))) pss_nil) (zD (yC (PW.pt (vK (zO op_eq (pv 3) zE (zR _)) (qH (zO op_gt (zM call_len rfl bi.len bt_len (zA (pv 0) pa_nil)) zE (zR _))))) (zF (zL (zJ op_cat (yJ sl_list (pv 0) po_none (yO (xL un_neg zE))) (zZ (zA (zY (zA (zS ix_list (zZ (zA zV (zA zV pa_nil))) (zJ op_mod (pv 4) zE) (fun _ _ => rfl)) (zA (zS ix_list (pv 0) (xL un_neg zE) (fun _ _ => rfl)) (zA (zS ix_list (pv 0) (xL un_neg zE) (fun _ _ => rfl)) (zA (zS ix_list (pv 0) (xL un_neg zE) (fun _ _ => rfl)) pa_nil))))) pa_nil))))) pss_nil) (zD (yC (zO op_ge (pv 4) (zJ op_mul zE (zM call_len rfl bi.len bt_len (zA (pv 2) pa_nil))) (zR _)) (zF (zL (zJ op_cat (pv 0) (zZ (zA (zS ix_list (zZ (zA (zY (zA zV pa_nil)) (zA (zY (zA zV pa_nil)) pa_nil))) (zJ op_sub (pv 4) (zJ op_mul zE (zM call_len rfl bi.len bt_len (zA (pv 2) pa_nil)))) (fun _ _ => rfl)) pa_nil))))) pss_nil) (zF (zL (zJ op_cat (pv 0) (zZ (zA (zY (zA zV (zA (zS ix_list (pv 2) (zJ op_mod (pv 4) (zM call_len rfl bi.len bt_len (zA (pv 2) pa_nil))) (fun _ _ => rfl)) pa_nil))) pa_nil))))))))))), ?_⟩
 refine zH fun N hN => ?_
 simp! []
 refine ⟨by decide, hN _ _ ?_⟩
 clear hN
 refine zH fun N hN => ?_
 simp! []
 refine ⟨⟨by decide, by decide⟩, m, .inl ⟨_, SqL.of hn.lst, by rw [List.length_map, hn.len]⟩, .inl ⟨by decide, by decide⟩, by omega, hN _ _ ?_⟩
 clear hN
 have hp0 := Int.emod_nonneg (c / 8) (b := 2 * (m : Int) + 2) (by omega)
 have hp1 := Int.emod_lt_of_pos (c / 8) (b := 2 * (m : Int) + 2) (by omega)
 generalize c / 8 % (2 * (m : Int) + 2) = pick at hp0 hp1
 have hw : 0 <= c % 8 /\ c % 8 < 8 := by omega
 generalize c % 8 = way at hw
 have fin : ∀ (k : Nat) (w : Str) (J : Hp) (p1 p3 : Addr), 1 <= k -> k <= ts.length -> Sh w k -> Same H J -> J p1 = some (.tup (.str w :: us.drop (us.length - k))) -> J p3 = some (.lst (us.take (us.length - k) ++ [.ref p1])) -> Q (.ref p3) J := fun k w J p1 p3 hk1 hk hs sJ j1 j3 => by
   refine q p3 _ (ts.take (ts.length - k) ++ [.node w (ts.drop (ts.length - k))]) (d + 1) J sJ j3 ?_ (ok.fold k w hk hs) (by simp) (by rw [List.length_append, List.length_take, List.length_singleton]; omega) (by rw [List.length_append, List.length_take, List.length_singleton]; omega)
   rw [hul] at j1 ⊢
   exact TAts.append (TAts.take _ (DAts.same sJ hts)) (TAts.one (TAt.mkNode j1 (TAts.drop _ (DAts.same sJ hts))))
 have tk : ∀ (k : Nat), (us.take (us.length - k)).length + 1 <= sizeLine := fun k => zI (by rw [List.length_take]; omega)
 refine zW (fun σ H' => H' = H /\ σ = [some (V.ref sa), some (V.int c), some (V.ref na), some (V.int way), some (V.int pick)]) (fun N hN => ?_) (fun σ H' h => ?_)
 · refine if_abs fun T U hT hU => ?_
   have hU' : U H := hU H (by simp! []; exact hN _ _ ⟨rfl, rfl⟩)
   have hT' : 1 <= us.length -> T H := fun h => by
     refine hT H ?_
     obtain ⟨a, hd, ha⟩ := last1 h
     simp! []
     have ci : yV us none (some (-1)) = us.take (us.length - 1) := jO us 1 (by omega) h
     refine ⟨_, SqL.of hsa, fun p1 hp1 => ?_⟩
     rw [ci]
     have s1 := zB hp1 (.lst (us.take (us.length - 1)))
     have k1 : upd H p1 (.lst (us.take (us.length - 1))) p1 = some (.lst (us.take (us.length - 1))) := zC
     generalize upd H p1 (.lst (us.take (us.length - 1))) = H1 at s1 k1 ⊢
     refine ⟨_, SqL.of (s1 _ _ hsa), a, ha, zI (by decide), fun p2 hp2 => ?_⟩
     have s2 := zB hp2 (.tup [V.str "not", a])
     have k2 : upd H1 p2 (.tup [V.str "not", a]) p2 = some (.tup (V.str "not" :: us.drop (us.length - 1))) := by rw [zC, hd]
     replace k1 := s2 _ _ k1
     generalize upd H1 p2 (.tup [V.str "not", a]) = H2 at s2 k1 k2 ⊢
     refine ⟨zI (by decide), fun p3 hp3 => ?_⟩
     have s3 := zB hp3 (.lst [V.ref p2])
     have k3 : upd H2 p3 (.lst [V.ref p2]) p3 = some (.lst [V.ref p2]) := zC
     replace k1 := s3 _ _ k1
     replace k2 := s3 _ _ k2
     generalize upd H2 p3 (.lst [V.ref p2]) = H3 at s3 k1 k2 k3 ⊢
     refine ⟨_, k1, _, k3, tk 1, fun p4 hp4 => ?_⟩
     have s4 := zB hp4 (.lst (us.take (us.length - 1) ++ [V.ref p2]))
     exact fin 1 "not" _ p2 p4 (by omega) (by omega) (.inr (.inr (.inl ⟨rfl, rfl⟩))) (((s1.trans s2).trans s3).trans s4) (s4 _ _ k2) zC
   simp! []
   have both : ∃ x, LenV K (V.ref sa) H x /\ if (0 : Int) < (x : Int) then T H else U H := by
     refine ⟨us.length, .inl ⟨_, SqL.of hsa, rfl⟩, ?_⟩
     split
     · exact hT' (by omega)
     · exact hU'
   refine ⟨rfl, ?_⟩
   split
   · exact both
   · refine ⟨rfl, ?_⟩
     split
     · exact both
     · exact hU'
 obtain ⟨rfl, rfl⟩ := h
 refine zW (fun σ H'' => H'' = H' /\ σ = [some (V.ref sa), some (V.int c), some (V.ref na), some (V.int way), some (V.int pick)]) (fun N hN => ?_) (fun σ H'' h => ?_)
 · refine if_abs fun T U hT hU => ?_
   have hU' : U H' := hU H' (by simp! []; exact hN _ _ ⟨rfl, rfl⟩)
   have hT' : 2 <= us.length -> 0 <= way - 5 /\ way - 5 < 2 -> T H' := fun h hway => by
     refine hT H' ?_
     obtain ⟨a, b, hd, ha, hb⟩ := last2 h
     obtain ⟨wd, hwd, hwi⟩ := uO _ hway
     simp! []
     have ci : yV us none (some (-2)) = us.take (us.length - 2) := jO us 2 (by omega) h
     refine ⟨_, SqL.of hsa, fun p1 hp1 => ?_⟩
     rw [ci]
     have s1 := zB hp1 (.lst (us.take (us.length - 2)))
     have k1 : upd H' p1 (.lst (us.take (us.length - 2))) p1 = some (.lst (us.take (us.length - 2))) := zC
     generalize upd H' p1 (.lst (us.take (us.length - 2))) = H1 at s1 k1 ⊢
     refine ⟨zI (by decide), fun p0 hp0 => ?_⟩
     have s0 := zB hp0 (.lst [V.str "both", V.str "either"])
     have k0 : upd H1 p0 (.lst [V.str "both", V.str "either"]) p0 = some (.lst [V.str "both", V.str "either"]) := zC
     replace k1 := s0 _ _ k1
     replace s1 := s1.trans s0
     generalize upd H1 p0 (.lst [V.str "both", V.str "either"]) = H0 at s0 k0 k1 s1 ⊢
     refine ⟨_, SqL.of k0, _, hwi, _, SqL.of (s1 _ _ hsa), a, ha, _, SqL.of (s1 _ _ hsa), b, hb, zI (by decide), fun p2 hp2 => ?_⟩
     have s2 := zB hp2 (.tup [V.str wd, a, b])
     have k2 : upd H0 p2 (.tup [V.str wd, a, b]) p2 = some (.tup (V.str wd :: us.drop (us.length - 2))) := by rw [zC, hd]
     replace k1 := s2 _ _ k1
     generalize upd H0 p2 (.tup [V.str wd, a, b]) = H2 at s2 k1 k2 ⊢
     refine ⟨zI (by decide), fun p3 hp3 => ?_⟩
     have s3 := zB hp3 (.lst [V.ref p2])
     have k3 : upd H2 p3 (.lst [V.ref p2]) p3 = some (.lst [V.ref p2]) := zC
     replace k1 := s3 _ _ k1
     replace k2 := s3 _ _ k2
     generalize upd H2 p3 (.lst [V.ref p2]) = H3 at s3 k1 k2 k3 ⊢
     refine ⟨_, k1, _, k3, tk 2, fun p4 hp4 => ?_⟩
     have s4 := zB hp4 (.lst (us.take (us.length - 2) ++ [V.ref p2]))
     exact fin 2 wd _ p2 p4 (by omega) (by omega) (sh_two hwd (by omega)) (((s1.trans s2).trans s3).trans s4) (s4 _ _ k2) zC
   simp! []
   have both : 0 <= way - 5 /\ way - 5 < 2 -> ∃ x, LenV K (V.ref sa) H' x /\ if (1 : Int) < (x : Int) then T H' else U H' := fun hway => by
     refine ⟨us.length, .inl ⟨_, SqL.of hsa, rfl⟩, ?_⟩
     split
     · exact hT' (by omega) hway
     · exact hU'
   refine ⟨rfl, ?_⟩
   split
   · exact both (by omega)
   · refine ⟨rfl, ?_⟩
     split
     · exact both (by omega)
     · exact hU'
 obtain ⟨rfl, rfl⟩ := h
 refine zW (fun σ H' => H' = H'' /\ σ = [some (V.ref sa), some (V.int c), some (V.ref na), some (V.int way), some (V.int pick)]) (fun N hN => ?_) (fun σ H' h => ?_)
 · refine if_abs fun T U hT hU => ?_
   have hU' : U H'' := hU H'' (by simp! []; exact hN _ _ ⟨rfl, rfl⟩)
   have hT' : 3 <= us.length -> T H'' := fun h => by
     refine hT H'' ?_
     obtain ⟨a, b, e, hd, ha, hb, he⟩ := last3 h
     obtain ⟨wd, hwd, hwi⟩ := uO (pick % 2) (by omega)
     simp! []
     have ci : yV us none (some (-3)) = us.take (us.length - 3) := jO us 3 (by omega) h
     refine ⟨_, SqL.of hsa, fun p1 hp1 => ?_⟩
     rw [ci]
     have s1 := zB hp1 (.lst (us.take (us.length - 3)))
     have k1 : upd H'' p1 (.lst (us.take (us.length - 3))) p1 = some (.lst (us.take (us.length - 3))) := zC
     generalize upd H'' p1 (.lst (us.take (us.length - 3))) = H1 at s1 k1 ⊢
     refine ⟨zI (by decide), fun p0 hp0 => ?_⟩
     have s0 := zB hp0 (.lst [V.str "both", V.str "either"])
     have k0 : upd H1 p0 (.lst [V.str "both", V.str "either"]) p0 = some (.lst [V.str "both", V.str "either"]) := zC
     replace k1 := s0 _ _ k1
     replace s1 := s1.trans s0
     generalize upd H1 p0 (.lst [V.str "both", V.str "either"]) = H0 at s0 k0 k1 s1 ⊢
     refine ⟨by decide, _, SqL.of k0, _, hwi, _, SqL.of (s1 _ _ hsa), a, ha, _, SqL.of (s1 _ _ hsa), b, hb, _, SqL.of (s1 _ _ hsa), e, he, zI (by decide), fun p2 hp2 => ?_⟩
     have s2 := zB hp2 (.tup [V.str wd, a, b, e])
     have k2 : upd H0 p2 (.tup [V.str wd, a, b, e]) p2 = some (.tup (V.str wd :: us.drop (us.length - 3))) := by rw [zC, hd]
     replace k1 := s2 _ _ k1
     generalize upd H0 p2 (.tup [V.str wd, a, b, e]) = H2 at s2 k1 k2 ⊢
     refine ⟨zI (by decide), fun p3 hp3 => ?_⟩
     have s3 := zB hp3 (.lst [V.ref p2])
     have k3 : upd H2 p3 (.lst [V.ref p2]) p3 = some (.lst [V.ref p2]) := zC
     replace k1 := s3 _ _ k1
     replace k2 := s3 _ _ k2
     generalize upd H2 p3 (.lst [V.ref p2]) = H3 at s3 k1 k2 k3 ⊢
     refine ⟨_, k1, _, k3, tk 3, fun p4 hp4 => ?_⟩
     have s4 := zB hp4 (.lst (us.take (us.length - 3) ++ [V.ref p2]))
     exact fin 3 wd _ p2 p4 (by omega) (by omega) (sh_two hwd (by omega)) (((s1.trans s2).trans s3).trans s4) (s4 _ _ k2) zC
   simp! []
   refine ⟨rfl, ?_⟩
   split
   · refine ⟨us.length, .inl ⟨_, SqL.of hsa, rfl⟩, ?_⟩
     split
     · exact hT' (by omega)
     · exact hU'
   · exact hU'
 obtain ⟨rfl, rfl⟩ := h
 refine zW (fun σ H'' => H'' = H' /\ pick < 2 * (m : Int) /\ σ = [some (V.ref sa), some (V.int c), some (V.ref na), some (V.int way), some (V.int pick)]) (fun N hN => ?_) (fun σ H'' h => ?_)
 · simp! []
   have lm : ∀ {J : Hp}, Same H' J -> LenV K (V.ref na) J m := fun sJ => .inl ⟨_, SqL.of (sJ _ _ hn.lst), by rw [List.length_map, hn.len]⟩
   refine ⟨m, lm (Same.refl _), .inl ⟨by decide, by decide⟩, ?_⟩
   by_cases hpm : 2 * (m : Int) <= pick
   case neg =>
     rw [if_neg hpm]
     exact hN _ _ ⟨rfl, by omega, rfl⟩
   rw [if_pos hpm]
   refine ⟨zI (by decide), fun p1 hp1 => ?_⟩
   have s1 := zB hp1 (.tup [V.str "none"])
   have k1 : upd H' p1 (.tup [V.str "none"]) p1 = some (.tup [V.str "none"]) := zC
   generalize upd H' p1 (.tup [V.str "none"]) = H1 at s1 k1 ⊢
   refine ⟨zI (by decide), fun p2 hp2 => ?_⟩
   have s2 := zB hp2 (.tup [V.str "all"])
   have k2 : upd H1 p2 (.tup [V.str "all"]) p2 = some (.tup [V.str "all"]) := zC
   replace k1 := s2 _ _ k1
   replace s1 := s1.trans s2
   generalize upd H1 p2 (.tup [V.str "all"]) = H2 at s1 k1 k2 ⊢
   clear s2
   refine ⟨zI (by decide), fun p3 hp3 => ?_⟩
   have s3 := zB hp3 (.lst [V.ref p1, V.ref p2])
   have k3 : upd H2 p3 (.lst [V.ref p1, V.ref p2]) p3 = some (.lst [V.ref p1, V.ref p2]) := zC
   replace k1 := s3 _ _ k1
   replace k2 := s3 _ _ k2
   replace s1 := s1.trans s3
   generalize upd H2 p3 (.lst [V.ref p1, V.ref p2]) = H3 at s1 k1 k2 k3 ⊢
   clear s3
   obtain ⟨w, pw, hpw, hw0, hwi⟩ : ∃ (w : Str) (pw : Addr), H3 pw = some (.tup [V.str w]) /\ Sh w 0 /\ atI [V.ref p1, V.ref p2] (pick - 2 * (m : Int)) = some (.ref pw) := by
     have : pick - 2 * (m : Int) = 0 \/ pick - 2 * (m : Int) = 1 := by omega
     rcases this with e | e
     · rw [e]; exact ⟨"none", p1, k1, .inl ⟨rfl, rfl⟩, rfl⟩
     · rw [e]; exact ⟨"all", p2, k2, .inr (.inl ⟨rfl, rfl⟩), rfl⟩
   refine ⟨m, lm s1, .inl ⟨by decide, by decide⟩, _, SqL.of k3, _, hwi, zI (by decide), fun p4 hp4 => ?_⟩
   have s4 := zB hp4 (.lst [V.ref pw])
   have k4 : upd H3 p4 (.lst [V.ref pw]) p4 = some (.lst [V.ref pw]) := zC
   replace hpw := s4 _ _ hpw
   replace s1 := s1.trans s4
   generalize upd H3 p4 (.lst [V.ref pw]) = H4 at s1 hpw k4 ⊢
   refine ⟨_, s1 _ _ hsa, _, k4, zI (by simp; omega), fun p5 hp5 => ?_⟩
   have s5 := zB hp5 (.lst (us ++ [V.ref pw]))
   refine q p5 (us ++ [V.ref pw]) (ts ++ [.node w []]) d _ (s1.trans s5) zC (TAts.append (DAts.same (s1.trans s5) hts) (TAts.one (TAt.mkNode (ts := []) (vs := []) (s5 _ _ hpw) rfl))) (ok.leaf (t := .node w []) ⟨hw0, rfl⟩ (fun x hx => by rw [nms, nmss] at hx; cases hx) (by rw [wt, wts])) (by simp) (by simp) (by simp; omega)
 obtain ⟨rfl, hpk, rfl⟩ := h
 simp! []
 obtain ⟨j, hj, hjl⟩ : ∃ j : Nat, pick % (m : Int) = (j : Int) /\ j < m := by
   have a1 := Int.emod_nonneg pick (b := (m : Int)) (by omega)
   have a2 := Int.emod_lt_of_pos pick (b := (m : Int)) (by omega)
   exact ⟨(pick % (m : Int)).toNat, by omega, by omega⟩
 have hjz : j < zs.length := by rw [hn.len]; exact hjl
 refine ⟨m, .inl ⟨_, SqL.of hn.lst, by rw [List.length_map, hn.len]⟩, by omega, _, SqL.of hn.lst, .str zs[j], by rw [hj]; exact xA (by rw [List.getElem?_map, List.getElem?_eq_getElem hjz]; rfl), zI (by decide), fun p1 hp1 => ?_⟩
 have s1 := zB hp1 (.tup [V.str "name", V.str zs[j]])
 have k1 : upd H'' p1 (.tup [V.str "name", V.str zs[j]]) p1 = some (.tup [V.str "name", V.str zs[j]]) := zC
 generalize upd H'' p1 (.tup [V.str "name", V.str zs[j]]) = H1 at s1 k1 ⊢
 refine ⟨zI (by decide), fun p4 hp4 => ?_⟩
 have s4 := zB hp4 (.lst [V.ref p1])
 have k4 : upd H1 p4 (.lst [V.ref p1]) p4 = some (.lst [V.ref p1]) := zC
 replace k1 := s4 _ _ k1
 replace s1 := s1.trans s4
 generalize upd H1 p4 (.lst [V.ref p1]) = H4 at s1 k1 k4 ⊢
 refine ⟨_, s1 _ _ hsa, _, k4, zI (by simp; omega), fun p5 hp5 => ?_⟩
 have s5 := zB hp5 (.lst (us ++ [V.ref p1]))
 refine q p5 (us ++ [V.ref p1]) (ts ++ [.name zs[j]]) d _ (s1.trans s5) zC (TAts.append (DAts.same (s1.trans s5) hts) (TAts.one (TAt.mkName (s5 _ _ k1)))) (ok.leaf (t := .name zs[j]) (hn.nm _ (List.getElem_mem hjz)) (fun x hx => by rw [nms, List.mem_singleton] at hx; rw [hx]; exact List.getElem_mem hjz) (by rw [wt])) (by simp) (by simp) (by simp; omega)
theorem ok_term (bi : Bi mg) (h_s : Has P w K mg base 1 "_law_draw" ["script", "k"] (uB K)) (h_o : Has P w K mg base 1 "_law_pushed" ["stack", "cell", "names"] spPu) (F : Fun K "_law_term" "_law_term" s_v f fd) : FnOk P w K mg base CX0 2 f fd ["script", "k", "many", "names"] (spTe K) := by
 refine F.ok sc_v (fun vs H Q E h => ?_) (fun cdv A outer s H vs Q E hr h => ?_)
 · obtain ⟨a, na, ns, k, m, j, zs, rfl, _⟩ := h
   rfl
 obtain ⟨a, na, ns, k, m, j, zs, rfl, hS, hl, hk, h1, h5, hn, hj1, hj2, q⟩ := h
 refine ⟨_, (zD (zN (i := 4) sc_v.nd rfl (Or.inl rfl) (zZ pa_nil)) (zD (yK PassesOwn.never rfl (uR rfl bi.range (zA (pv 1) (zA (zJ op_add (pv 1) (pv 2)) pa_nil))) (zP (i := 5) sc_v.nd rfl (Or.inl rfl)) (zF (zN (i := 4) sc_v.nd rfl (Or.inl rfl) (zK h_o (hr.mono (by omega)) rfl (zA (pv 4) (zA (zK h_s (hr.mono (by omega)) rfl (zA (pv 0) (zA (pv 5) pa_nil))) (zA (pv 3) pa_nil))))))) (zD (ps_while PassesOwn.never (zO op_gt (zM call_len rfl bi.len bt_len (zA (pv 4) pa_nil)) zE (zR _)) (zF (zN (i := 4) sc_v.nd rfl (Or.inl rfl) (zJ op_cat (yJ sl_list (pv 4) po_none (yO (xL un_neg zE))) (zZ (zA (zY (zA zV (zA (zS ix_list (pv 4) (xL un_neg zE) (fun _ _ => rfl)) (zA (zS ix_list (pv 4) (xL un_neg zE) (fun _ _ => rfl)) pa_nil)))) pa_nil)))))) (zF (zL (zS ix_list (pv 4) zE (fun _ _ => rfl))))))), ?_⟩
 refine zH fun N hN => ?_
 simp! []
 refine ⟨zI (by decide), fun p0 hp0 => hN _ _ ?_⟩
 clear hN
 have s0 := zB hp0 (.lst [])
 have k0 : upd H p0 (.lst []) p0 = some (.lst []) := zC
 generalize upd H p0 (.lst []) = H0 at s0 k0 ⊢
 refine zW (fun σ H' => ∃ (p : Addr) (us : List V) (ts : List Tm) (d : Nat) (o : Option V), Same H H' /\ H' p = some (.lst us) /\ TAts H' ts us /\ TsOk zs d m ts /\ ts ≠ [] /\ d + ts.length <= m /\ σ = [some (V.ref a), some (V.int k), some (V.int m), some (V.ref na), some (V.ref p), o]) (fun N hN => ?_) (fun σ H' h => ?_)
 · simp! []
   refine ⟨by omega, by omega, by omega, by omega, ?_⟩
   refine xH (n := ((k : Int) + (m : Int) - (k : Int)).toNat) (fun i σ H' => ∃ (p : Addr) (us : List V) (ts : List Tm) (d : Nat) (o : Option V), Same H H' /\ H' p = some (.lst us) /\ TAts H' ts us /\ TsOk zs d i ts /\ (0 < i -> ts ≠ []) /\ d + ts.length <= i /\ σ = [some (V.ref a), some (V.int k), some (V.int m), some (V.ref na), some (V.ref p), o]) ⟨p0, [], [], 0, _, s0, k0, rfl, ⟨(fun t ht => by cases ht), (fun t ht => by cases ht), Nat.le_refl _⟩, fun z => absurd z (Nat.lt_irrefl _), Nat.le_refl _, rfl⟩ (fun i σ H' hi h => ?_) (fun σ H' h => ?_)
   · obtain ⟨p, us, ts, dd, o, s1, k1, hts, ok, hne, htl, rfl⟩ := h
     have e0 : (k : Int) + (i : Int) = ((k + i : Nat) : Int) := by omega
     simp! [uB, spPu]
     rw [e0]
     refine ⟨ns, k + i, rfl, Same.seq s1 hS, hl, by omega, fun z hz => ?_⟩
     refine ⟨hz, us, k1, ts, hts, j, dd, i, zs, ok, by omega, hn.same s1, hj1, hj2, fun p' us' ts' d' H2 s2 k2 hts2 ok2 hne2 hl2 hd2 => ?_⟩
     exact ⟨s1.trans s2, p', us', k2, ts', hts2, d', ok2, fun _ => hne2, by omega, rfl, _, rfl⟩
   · obtain ⟨p, us, ts, dd, o, s1, k1, hts, ok, hne, htl, rfl⟩ := h
     have em : ((k : Int) + (m : Int) - (k : Int)).toNat = m := by omega
     rw [em] at ok hne htl
     exact hN _ _ ⟨p, us, ts, dd, _, s1, k1, hts, ok, hne (by omega), htl, rfl⟩
 obtain ⟨p, us, ts, dd, o, s1, k1, hts, ok, hne, htl, rfl⟩ := h
 refine zW (fun σ H' => ∃ (p : Addr) (v : V) (t : Tm) (o : Option V), Same H H' /\ H' p = some (.lst [v]) /\ TAt H' t v /\ Fit 20 t /\ wt t <= 100 /\ (∀ x ∈ nms t, x ∈ zs) /\ σ = [some (V.ref a), some (V.int k), some (V.int m), some (V.ref na), some (V.ref p), o]) (fun N hN => ?_) (fun σ H' h => ?_)
 · simp! [tWhile]
   refine ⟨fun mm σ H' => ∃ (p : Addr) (us : List V) (ts : List Tm) (o : Option V) (d n : Nat), mm = ts.length /\ Same H H' /\ H' p = some (.lst us) /\ TAts H' ts us /\ TsOk zs d n ts /\ ts ≠ [] /\ d + ts.length <= m /\ n + ts.length <= 2 * m /\ σ = [some (V.ref a), some (V.int k), some (V.int m), some (V.ref na), some (V.ref p), o], ⟨_, p, us, ts, _, dd, m, rfl, s1, k1, hts, ok, hne, by omega, by omega, rfl⟩, fun mm σ H' h => ?_⟩
   clear s1 k1 hts ok hne htl
   obtain ⟨p, us, ts, o, d, n, rfl, s1, k1, hts, ok, hne, hd, hn', rfl⟩ := h
   have hul := hts.length
   simp! []
   refine ⟨us.length, .inl ⟨_, SqL.of k1, rfl⟩, ?_⟩
   by_cases h2 : (1 : Int) < (us.length : Int)
   case neg =>
     rw [if_neg h2]
     have hl1 : ts.length = 1 := by
       have : ts.length ≠ 0 := fun z => hne (List.eq_nil_of_length_eq_zero z)
       omega
     obtain ⟨t, rfl⟩ : ∃ t, ts = [t] := by
       match ts, hl1 with
       | [t], _ => exact ⟨t, rfl⟩
     obtain ⟨v, r, e1, e2, e3⟩ := hts
     have e3 : r = [] := e3
     subst e3; subst e1
     have hw := ok.sz
     rw [wts, wts] at hw
     exact hN _ _ ⟨p, v, t, _, s1, k1, e2, (ok.fit t (by simp)).mono (by omega), by omega, ok.nam t (by simp), rfl⟩
   rw [if_pos h2]
   obtain ⟨x, y, hdr, hx, hy⟩ := last2 (us := us) (by omega)
   have ci : yV us none (some (-2)) = us.take (us.length - 2) := jO us 2 (by omega) (by omega)
   refine ⟨fun σ' H'' => ∃ (p' : Addr) (us' : List V), Same H H'' /\ H'' p' = some (.lst us') /\ TAts H'' (ts.take (ts.length - 2) ++ [.node "both" (ts.drop (ts.length - 2))]) us' /\ σ' = [some (V.ref a), some (V.int k), some (V.int m), some (V.ref na), some (V.ref p'), o], fun σ' H'' h => ?_, ?_⟩
   · obtain ⟨p', us', s2, k2, hts2, rfl⟩ := h
     have e : (ts.take (ts.length - 2) ++ [Tm.node "both" (ts.drop (ts.length - 2))]).length = ts.length - 1 := by rw [List.length_append, List.length_take, List.length_singleton]; omega
     exact ⟨(ts.take (ts.length - 2) ++ [Tm.node "both" (ts.drop (ts.length - 2))]).length, by rw [e]; omega, p', us', ts.take (ts.length - 2) ++ [Tm.node "both" (ts.drop (ts.length - 2))], rfl, s2, k2, hts2, _, d + 1, n + 1, ok.fold 2 "both" (by omega) (sh_two (.inl rfl) (by omega)), by simp, by rw [e]; omega, by rw [e]; omega, rfl⟩
   refine ⟨_, SqL.of k1, fun p1 hp1 => ?_⟩
   rw [ci]
   have s2 := zB hp1 (.lst (us.take (us.length - 2)))
   have k2 : upd H' p1 (.lst (us.take (us.length - 2))) p1 = some (.lst (us.take (us.length - 2))) := zC
   generalize upd H' p1 (.lst (us.take (us.length - 2))) = H1 at s2 k2 ⊢
   refine ⟨_, SqL.of (s2 _ _ k1), x, hx, _, SqL.of (s2 _ _ k1), y, hy, zI (by decide), fun p2 hp2 => ?_⟩
   have s3 := zB hp2 (.tup [V.str "both", x, y])
   have k3 : upd H1 p2 (.tup [V.str "both", x, y]) p2 = some (.tup (V.str "both" :: us.drop (us.length - 2))) := by rw [zC, hdr]
   replace k2 := s3 _ _ k2
   generalize upd H1 p2 (.tup [V.str "both", x, y]) = H2 at s3 k2 k3 ⊢
   refine ⟨zI (by decide), fun p3 hp3 => ?_⟩
   have s4 := zB hp3 (.lst [V.ref p2])
   have k4 : upd H2 p3 (.lst [V.ref p2]) p3 = some (.lst [V.ref p2]) := zC
   replace k2 := s4 _ _ k2
   replace k3 := s4 _ _ k3
   generalize upd H2 p3 (.lst [V.ref p2]) = H3 at s4 k2 k3 k4 ⊢
   refine ⟨_, k2, _, k4, zI (by rw [List.length_take]; simp; omega), fun p4 hp4 => ?_⟩
   have s5 := zB hp4 (.lst (us.take (us.length - 2) ++ [V.ref p2]))
   have sA := ((s2.trans s3).trans s4).trans s5
   replace k3 := s5 _ _ k3
   have k5 : upd H3 p4 (.lst (us.take (us.length - 2) ++ [V.ref p2])) p4 = some (.lst (us.take (us.length - 2) ++ [V.ref p2])) := zC
   generalize upd H3 p4 (.lst (us.take (us.length - 2) ++ [V.ref p2])) = H4 at sA k3 k5 ⊢
   refine ⟨p4, _, s1.trans sA, k5, ?_, rfl⟩
   rw [hul] at k3 ⊢
   exact TAts.append (TAts.take _ (DAts.same sA hts)) (TAts.one (TAt.mkNode k3 (TAts.drop _ (DAts.same sA hts))))
 obtain ⟨p, v, t, o, s2, k2, htv, hf, hw, hnm, rfl⟩ := h
 simp! []
 exact ⟨_, SqL.of k2, v, at0, q v t _ s2 htv hf hw hnm⟩
end
abbrev s_u : Stmt := top 12
theorem sc_u : FnScope ["truths", "t", "parts"] ["truths", "t"] (zG s_u) := ⟨rfl, rfl, rfl, by decide +kernel, rfl, by decide +kernel, by decide +kernel⟩
abbrev s_q : Stmt := top 26
theorem sc_q : FnScope ["sides", "t", "parts"] ["sides", "t"] (zG s_q) := ⟨rfl, rfl, rfl, by decide +kernel, rfl, by decide +kernel, by decide +kernel⟩
def wrN (w : Str) (bs : List Bool) : Bool := if w = "none" then false else if w = "all" then true else if w = "not" then !(bs.headD false) else if w = "both" then bs.all id else bs.any id
mutual
def wrt (L : Str -> Bool) : Tm -> Bool
 | .name x => L x
 | .node w ts => wrN w (wrts L ts)
def wrts (L : Str -> Bool) : List Tm -> List Bool
 | [] => []
 | t :: ts => wrt L t :: wrts L ts
end
theorem qK (L : Str -> Bool) : ∀ ts : List Tm, wrts L ts = ts.map (wrt L)
 | [] => rfl
 | t :: ts => by rw [wrts, qK L ts, List.map_cons]
def spWo : Nat -> Sp
 | 0 => fun _ _ _ _ => False
 | n + 1 => fun vs H Q _ => ∃ (v : V) (d : Addr) (t : Tm) (kvs : List (Key × V)) (L : Str -> Bool), vs = [.ref d, v] /\ TAt H t v /\ Fit n t /\ wt t <= 900 /\ H d = some (.dK kvs) /\ (∀ x ∈ nms t, yQ kvs (.inr x) = some (.bl (L x))) /\ ∀ H', Same H H' -> Q (.bl (wrt L t)) H'
theorem eq_bl (a b : Bool) : eqV (.bl a) (.bl b) = (a == b) := by cases a <;> cases b <;> rfl
theorem in_true (bs : List Bool) : inV (.bl true) (bs.map V.bl) = bs.any id := by
 unfold inV
 rw [List.any_map]
 congr 1
 funext b
 show eqV (.bl b) (.bl true) = b
 rw [eq_bl]
 cases b <;> rfl
theorem notin_false (bs : List Bool) : (!inV (.bl false) (bs.map V.bl)) = bs.all id := by
 unfold inV
 rw [List.any_map, Bool.eq_iff_iff, Bool.not_eq_true', List.any_eq_false, List.all_eq_true]
 constructor
 · intro h b hb
   have := h b hb
   cases b with
   | true => rfl
   | false => exact absurd rfl this
 · intro h b hb
   have := h b hb
   cases b with
   | true => decide
   | false => cases this
def zk (zs : List Str) (bs : List Bool) : List (Key × V) := (zs.zip bs).map fun p => (.inr p.1, .bl p.2)
section
variable {P : Program} {w : World} {K : PySem.W.Frag} {mg : Str -> Option Value} {base : Heap} {f : Addr} {fd : FuncData}
theorem ok_worth_by (bi : Bi mg) (ban : mg "any" = none) (F : Fun K "worth_by" "worth_by" s_u f fd) (b : Binds K fd ["truths", "t"] []) (m : mg "worth_by" = some (.ref f)) : ∀ n, FnOk P w K mg base CX0 n f fd ["truths", "t"] (spWo n) := by
 refine qO F b m (fun vs H Q E h => h) (fun n h_u => ?_)
 refine F.ok sc_u (fun vs H Q E h => ?_) (fun cdv A outer s H vs Q E hr h => ?_)
 · obtain ⟨v, d, t, kvs, L, rfl, _⟩ := h
   rfl
 obtain ⟨v, d, t, kvs, L, rfl, ht, hf, hw, hd, hL, q⟩ := h
 refine ⟨_, (zD (yC (zO op_eq (zS ix_tup (pv 1) zE (fun _ _ => rfl)) zV (zR _)) (zF (zL yY)) pss_nil) (zD (yC (zO op_eq (zS ix_tup (pv 1) zE (fun _ _ => rfl)) zV (zR _)) (zF (zL yY)) pss_nil) (zD (yC (zO op_eq (zS ix_tup (pv 1) zE (fun _ _ => rfl)) zV (zR _)) (zF (zL (vL (hu_of hr) (pv 0) (zS ix_tup (pv 1) zE (fun _ _ => rfl)) (fun _ _ => rfl)))) pss_nil) (zD (qI (i := 2) ["part"] ["truths"] [0] sc_u.nd rfl (qP (yJ sl_tup (pv 1) (yO zE) po_none)) (fun _ _ _ _ nd => zP (i := 0) nd rfl (Or.inl rfl)) (fun _ _ _ _ => yI) (fun _ _ _ _ => (zK h_u hr rfl (zA (pv 1) (zA (pv 0) pa_nil))))) (zD (yC (zO op_eq (zS ix_tup (pv 1) zE (fun _ _ => rfl)) zV (zR _)) (zF (zL (jA (zS ix_list (pv 2) zE (fun _ _ => rfl))))) pss_nil) (zF (zL (pe_ifExp (zO op_eq (zS ix_tup (pv 1) zE (fun _ _ => rfl)) zV (zR _)) (zM call_all rfl bi.all bt_all (zA (pv 2) pa_nil)) (zM call_any rfl ban bt_any (zA (pv 2) pa_nil)))))))))), ?_⟩
 cases t with
 | name x =>
   obtain ⟨a, rfl, ha⟩ := TAt.name ht
   simp! []
   refine ⟨_, SqT.of ha, .str "name", at0, rfl, ?_⟩
   rw [if_neg (by intro z; exact absurd (V.str.inj z) (by decide +kernel))]
   refine ⟨_, SqT.of ha, .str "name", at0, rfl, ?_⟩
   rw [if_neg (by intro z; exact absurd (V.str.inj z) (by decide +kernel))]
   refine ⟨_, SqT.of ha, .str "name", at0, rfl, ?_⟩
   rw [if_pos rfl]
   refine ⟨_, SqT.of ha, .str x, at1, _, (hL x (by rw [nms]; exact List.mem_singleton.mpr rfl)) ▸ DGet.k (k := .inr x) hd, ?_⟩
   have := q _ (Same.refl _)
   rw [wrt] at this
   exact this
 | node wd ts =>
   obtain ⟨a, us, rfl, ha, hu⟩ := TAt.node ht
   have hwd := hf.wrd
   have hsh := hf.sh
   have hl := hu.length
   have hll := wts_len ts
   rw [wt] at hw
   have hwr : wrt L (.node wd ts) = wrN wd (ts.map (wrt L)) := by rw [wrt, qK]
   rw [hwr] at q
   have hLm : ∀ t ∈ ts, ∀ x ∈ nms t, yQ kvs (.inr x) = some (.bl (L x)) := fun t ht x hx => hL x (by rw [nms]; exact nmss_mem.mpr ⟨t, ht, hx⟩)
   refine zH fun N hN => ?_
   simp! []
   refine ⟨_, SqT.of ha, .str wd, at0, rfl, ?_⟩
   by_cases c1 : wd = "none"
   · rw [if_pos (by rw [c1])]
     have e : wrN wd (ts.map (wrt L)) = false := by unfold wrN; rw [if_pos c1]
     rw [e] at q
     exact q _ (Same.refl _)
   rw [if_neg (fun z => c1 (V.str.inj z))]
   refine hN _ _ ?_
   clear hN
   refine zH fun N hN => ?_
   simp! []
   refine ⟨_, SqT.of ha, .str wd, at0, rfl, ?_⟩
   by_cases c2 : wd = "all"
   · rw [if_pos (by rw [c2])]
     have e : wrN wd (ts.map (wrt L)) = true := by unfold wrN; rw [if_neg c1, if_pos c2]
     rw [e] at q
     exact q _ (Same.refl _)
   rw [if_neg (fun z => c2 (V.str.inj z))]
   refine hN _ _ ?_
   clear hN
   refine zH fun N hN => ?_
   simp! []
   refine ⟨_, SqT.of ha, .str wd, at0, rfl, ?_⟩
   rw [if_neg (fun z => hwd.ne (V.str.inj z))]
   refine hN _ _ ?_
   clear hN
   refine zH fun N hN => ?_
   simp! []
   refine ⟨_, SqT.of ha, yR _ _, fun p2 hp2 => ?_⟩
   rw [jN]
   have s2 := zB hp2 (.tup us)
   have k2 : upd H p2 (.tup us) p2 = some (.tup us) := zC
   generalize upd H p2 (.tup us) = H2 at s2 k2 ⊢
   refine ⟨⟨_, SqT.of k2⟩, ?_⟩
   refine lc_tup (xs := us) (fun i ys σ H' => Same H2 H' /\ ys = ((ts.map (wrt L)).take i).map V.bl /\ ∃ o, σ = [o, some (V.ref d)]) ⟨Same.refl _, rfl, _, rfl⟩ (zI (by omega)) (fun i ys σ H' e => ?_) (fun i ys σ H' e => SqT.of (e.1 _ _ k2)) (fun i x ys σ H' C hx e hC => ?_) (fun ys σ H' e p3 hp3 => hN _ _ ?_)
   · rw [e.2.1, List.length_map, List.length_take]
     exact Nat.min_le_left ..
   · obtain ⟨es, rfl, o, rfl⟩ := e
     obtain ⟨t, ht', hx'⟩ := hu.getV hx
     cases n with
     | zero => have := hf.2; subst this; simp at ht'
     | succ n =>
       have hm := List.mem_of_getElem? ht'
       have hmt := wts_mem hm
       have s3 := s2.trans es
       simp! [spWo]
       refine ⟨t, TAt.tups s3.tups hx', hf.part hm, by omega, kvs, s3 _ _ hd, L, hLm t hm, fun H3 e3 => hC _ _ _ ⟨es.trans e3, ?_, _, rfl⟩⟩
       obtain ⟨hil, hi2⟩ := List.getElem?_eq_some_iff.mp (show (ts.map (wrt L))[i]? = some (wrt L t) by rw [List.getElem?_map, ht']; rfl)
       rw [List.take_succ_eq_append_getElem hil, hi2, List.map_append]
       rfl
   clear hN
   obtain ⟨es, rfl, o, rfl⟩ := e
   rw [show (ts.map (wrt L)).take us.length = ts.map (wrt L) from List.take_of_length_le (by rw [List.length_map]; omega)]
   have s3 := (s2.trans es).trans (zB hp3 (.lst ((ts.map (wrt L)).map V.bl)))
   have k3 : upd H' p3 (.lst ((ts.map (wrt L)).map V.bl)) p3 = some (.lst ((ts.map (wrt L)).map V.bl)) := zC
   generalize upd H' p3 (.lst ((ts.map (wrt L)).map V.bl)) = H3 at s3 k3 ⊢
   refine zH fun N hN => ?_
   simp! []
   refine ⟨_, SqT.of (s3 _ _ ha), .str wd, at0, rfl, ?_⟩
   by_cases c3 : wd = "not"
   · rw [if_pos (by rw [c3])]
     have h1 : ts.length = 1 := by
       rcases hsh with h | h | h | h | h
       · exact absurd h.1 c1
       · exact absurd h.1 c2
       · exact h.2
       · rw [c3] at h; exact absurd h.1 (by decide +kernel)
       · rw [c3] at h; exact absurd h.1 (by decide +kernel)
     obtain ⟨t, rfl⟩ : ∃ t, ts = [t] := by
       match ts, h1 with
       | [t], _ => exact ⟨t, rfl⟩
     have e : wrN wd ([t].map (wrt L)) = !(wrt L t) := by unfold wrN; rw [if_neg c1, if_neg c2, if_pos c3]; rfl
     rw [e] at q
     exact ⟨_, SqL.of k3, .bl (wrt L t), at0, _, rfl, q _ s3⟩
   rw [if_neg (fun z => c3 (V.str.inj z))]
   refine hN _ _ ?_
   clear hN
   have qq := q _ s3
   unfold wrN at qq
   rw [if_neg c1, if_neg c2, if_neg c3] at qq
   simp! []
   refine ⟨_, SqT.of (s3 _ _ ha), .str wd, at0, rfl, ?_⟩
   by_cases c4 : wd = "both"
   · rw [if_pos (by rw [c4])]
     rw [if_pos c4] at qq
     exact ⟨_, SqL.of k3, qq⟩
   · rw [if_neg (fun z => c4 (V.str.inj z))]
     rw [if_neg c4] at qq
     exact ⟨_, SqL.of k3, qq⟩
theorem ok_plain (bi : Bi mg) (F : Fun K "_law_plain" "_law_plain" s_q f fd) (b : Binds K fd ["sides", "t"] []) (m : mg "_law_plain" = some (.ref f)) : ∀ n, FnOk P w K mg base CX0 n f fd ["sides", "t"] (spWo n) := by
 refine qO F b m (fun vs H Q E h => h) (fun n h_q => ?_)
 refine F.ok sc_q (fun vs H Q E h => ?_) (fun cdv A outer s H vs Q E hr h => ?_)
 · obtain ⟨v, d, t, kvs, L, rfl, _⟩ := h
   rfl
 obtain ⟨v, d, t, kvs, L, rfl, ht, hf, hw, hd, hL, q⟩ := h
 refine ⟨_, (zD (yC (zO op_eq (zS ix_tup (pv 1) zE (fun _ _ => rfl)) zV (zR _)) (zF (zL yY)) pss_nil) (zD (yC (zO op_eq (zS ix_tup (pv 1) zE (fun _ _ => rfl)) zV (zR _)) (zF (zL yY)) pss_nil) (zD (yC (zO op_eq (zS ix_tup (pv 1) zE (fun _ _ => rfl)) zV (zR _)) (zF (zL (vL (hu_of hr) (pv 0) (zS ix_tup (pv 1) zE (fun _ _ => rfl)) (fun _ _ => rfl)))) pss_nil) (zD (qI (i := 2) ["part"] ["sides"] [0] sc_q.nd rfl (qP (yJ sl_tup (pv 1) (yO zE) po_none)) (fun _ _ _ _ nd => zP (i := 0) nd rfl (Or.inl rfl)) (fun _ _ _ _ => yI) (fun _ _ _ _ => (zK h_q hr rfl (zA (pv 1) (zA (pv 0) pa_nil))))) (zD (yC (zO op_eq (zS ix_tup (pv 1) zE (fun _ _ => rfl)) zV (zR _)) (zF (zL (jA (zS ix_list (pv 2) zE (fun _ _ => rfl))))) pss_nil) (zD (yC (zO op_eq (zS ix_tup (pv 1) zE (fun _ _ => rfl)) zV (zR _)) (zF (zL (xJ op_notIn_seq yY (pv 2) (by with_unfolding_all rfl)))) pss_nil) (zF (zL (xJ op_in_seq yY (pv 2) (by with_unfolding_all rfl)))))))))), ?_⟩
 cases t with
 | name x =>
   obtain ⟨a, rfl, ha⟩ := TAt.name ht
   simp! []
   refine ⟨_, SqT.of ha, .str "name", at0, rfl, ?_⟩
   rw [if_neg (by intro z; exact absurd (V.str.inj z) (by decide +kernel))]
   refine ⟨_, SqT.of ha, .str "name", at0, rfl, ?_⟩
   rw [if_neg (by intro z; exact absurd (V.str.inj z) (by decide +kernel))]
   refine ⟨_, SqT.of ha, .str "name", at0, rfl, ?_⟩
   rw [if_pos rfl]
   refine ⟨_, SqT.of ha, .str x, at1, _, (hL x (by rw [nms]; exact List.mem_singleton.mpr rfl)) ▸ DGet.k (k := .inr x) hd, ?_⟩
   have := q _ (Same.refl _)
   rw [wrt] at this
   exact this
 | node wd ts =>
   obtain ⟨a, us, rfl, ha, hu⟩ := TAt.node ht
   have hwd := hf.wrd
   have hsh := hf.sh
   have hl := hu.length
   have hll := wts_len ts
   rw [wt] at hw
   have hwr : wrt L (.node wd ts) = wrN wd (ts.map (wrt L)) := by rw [wrt, qK]
   rw [hwr] at q
   have hLm : ∀ t ∈ ts, ∀ x ∈ nms t, yQ kvs (.inr x) = some (.bl (L x)) := fun t ht x hx => hL x (by rw [nms]; exact nmss_mem.mpr ⟨t, ht, hx⟩)
   refine zH fun N hN => ?_
   simp! []
   refine ⟨_, SqT.of ha, .str wd, at0, rfl, ?_⟩
   by_cases c1 : wd = "none"
   · rw [if_pos (by rw [c1])]
     have e : wrN wd (ts.map (wrt L)) = false := by unfold wrN; rw [if_pos c1]
     rw [e] at q
     exact q _ (Same.refl _)
   rw [if_neg (fun z => c1 (V.str.inj z))]
   refine hN _ _ ?_
   clear hN
   refine zH fun N hN => ?_
   simp! []
   refine ⟨_, SqT.of ha, .str wd, at0, rfl, ?_⟩
   by_cases c2 : wd = "all"
   · rw [if_pos (by rw [c2])]
     have e : wrN wd (ts.map (wrt L)) = true := by unfold wrN; rw [if_neg c1, if_pos c2]
     rw [e] at q
     exact q _ (Same.refl _)
   rw [if_neg (fun z => c2 (V.str.inj z))]
   refine hN _ _ ?_
   clear hN
   refine zH fun N hN => ?_
   simp! []
   refine ⟨_, SqT.of ha, .str wd, at0, rfl, ?_⟩
   rw [if_neg (fun z => hwd.ne (V.str.inj z))]
   refine hN _ _ ?_
   clear hN
   refine zH fun N hN => ?_
   simp! []
   refine ⟨_, SqT.of ha, yR _ _, fun p2 hp2 => ?_⟩
   rw [jN]
   have s2 := zB hp2 (.tup us)
   have k2 : upd H p2 (.tup us) p2 = some (.tup us) := zC
   generalize upd H p2 (.tup us) = H2 at s2 k2 ⊢
   refine ⟨⟨_, SqT.of k2⟩, ?_⟩
   refine lc_tup (xs := us) (fun i ys σ H' => Same H2 H' /\ ys = ((ts.map (wrt L)).take i).map V.bl /\ ∃ o, σ = [o, some (V.ref d)]) ⟨Same.refl _, rfl, _, rfl⟩ (zI (by omega)) (fun i ys σ H' e => ?_) (fun i ys σ H' e => SqT.of (e.1 _ _ k2)) (fun i x ys σ H' C hx e hC => ?_) (fun ys σ H' e p3 hp3 => hN _ _ ?_)
   · rw [e.2.1, List.length_map, List.length_take]
     exact Nat.min_le_left ..
   · obtain ⟨es, rfl, o, rfl⟩ := e
     obtain ⟨t, ht', hx'⟩ := hu.getV hx
     cases n with
     | zero => have := hf.2; subst this; simp at ht'
     | succ n =>
       have hm := List.mem_of_getElem? ht'
       have hmt := wts_mem hm
       have s3 := s2.trans es
       simp! [spWo]
       refine ⟨t, TAt.tups s3.tups hx', hf.part hm, by omega, kvs, s3 _ _ hd, L, hLm t hm, fun H3 e3 => hC _ _ _ ⟨es.trans e3, ?_, _, rfl⟩⟩
       obtain ⟨hil, hi2⟩ := List.getElem?_eq_some_iff.mp (show (ts.map (wrt L))[i]? = some (wrt L t) by rw [List.getElem?_map, ht']; rfl)
       rw [List.take_succ_eq_append_getElem hil, hi2, List.map_append]
       rfl
   clear hN
   obtain ⟨es, rfl, o, rfl⟩ := e
   rw [show (ts.map (wrt L)).take us.length = ts.map (wrt L) from List.take_of_length_le (by rw [List.length_map]; omega)]
   have s3 := (s2.trans es).trans (zB hp3 (.lst ((ts.map (wrt L)).map V.bl)))
   have k3 : upd H' p3 (.lst ((ts.map (wrt L)).map V.bl)) p3 = some (.lst ((ts.map (wrt L)).map V.bl)) := zC
   generalize upd H' p3 (.lst ((ts.map (wrt L)).map V.bl)) = H3 at s3 k3 ⊢
   refine zH fun N hN => ?_
   simp! []
   refine ⟨_, SqT.of (s3 _ _ ha), .str wd, at0, rfl, ?_⟩
   by_cases c3 : wd = "not"
   · rw [if_pos (by rw [c3])]
     have h1 : ts.length = 1 := by
       rcases hsh with h | h | h | h | h
       · exact absurd h.1 c1
       · exact absurd h.1 c2
       · exact h.2
       · rw [c3] at h; exact absurd h.1 (by decide +kernel)
       · rw [c3] at h; exact absurd h.1 (by decide +kernel)
     obtain ⟨t, rfl⟩ : ∃ t, ts = [t] := by
       match ts, h1 with
       | [t], _ => exact ⟨t, rfl⟩
     have e : wrN wd ([t].map (wrt L)) = !(wrt L t) := by unfold wrN; rw [if_neg c1, if_neg c2, if_pos c3]; rfl
     rw [e] at q
     exact ⟨_, SqL.of k3, .bl (wrt L t), at0, _, rfl, q _ s3⟩
   rw [if_neg (fun z => c3 (V.str.inj z))]
   refine hN _ _ ?_
   clear hN
   have qq := q _ s3
   unfold wrN at qq
   rw [if_neg c1, if_neg c2, if_neg c3] at qq
   have fl : ((ts.map (wrt L)).map V.bl).all flatV = true := by rw [List.all_map, List.all_eq_true]; exact fun _ _ => rfl
   refine zH fun N hN => ?_
   simp! [rIn]
   refine ⟨_, SqT.of (s3 _ _ ha), .str wd, at0, rfl, ?_⟩
   by_cases c4 : wd = "both"
   · rw [if_pos (by rw [c4])]
     rw [if_pos c4, ← notin_false] at qq
     exact ⟨_, .inl (SqL.of k3), rfl, fl, qq⟩
   rw [if_neg (fun z => c4 (V.str.inj z))]
   rw [if_neg c4, ← in_true] at qq
   refine hN _ _ ?_
   simp! [rIn]
   exact ⟨_, .inl (SqL.of k3), rfl, fl, qq⟩
end
theorem nmss_app : ∀ ts us : List Tm, nmss (ts ++ us) = nmss ts ++ nmss us
 | [], us => by simp [nmss]
 | t :: ts, us => by rw [List.cons_append, nmss, nmss, nmss_app ts us, List.append_assoc]
theorem jV {ts : List Tm} {i : Nat} {t : Tm} (h : ts[i]? = some t) : nmss (ts.take (i + 1)) = nmss (ts.take i) ++ nms t := by
 obtain ⟨il, ie⟩ := List.getElem?_eq_some_iff.mp h
 rw [List.take_succ_eq_append_getElem il, ie, nmss_app]
 show _ ++ (nms t ++ nmss []) = _
 rw [nmss, List.append_nil]
mutual
theorem nms_len : ∀ t : Tm, (nms t).length <= wt t
 | .name _ => by rw [nms, wt]; exact Nat.le_refl _
 | .node _ ts => by
   rw [nms, wt]
   have := nmss_len ts
   omega
theorem nmss_len : ∀ ts : List Tm, (nmss ts).length <= wts ts
 | [] => by rw [nmss, wts]; exact Nat.le_refl _
 | t :: ts => by
   rw [nmss, wts, List.length_append]
   have := nms_len t
   have := nmss_len ts
   omega
end
abbrev s_A : Stmt := top 5
theorem sc_A : FnScope ["t"] ["t"] (zG s_A) := ⟨rfl, rfl, rfl, by decide +kernel, rfl, by decide +kernel, by decide +kernel⟩
def prt : Tm -> List Tm
 | .name _ => []
 | .node _ ts => ts
def spPt : Sp := fun vs H Q _ => ∃ (v : V) (t : Tm), vs = [v] /\ TAt H t v /\ (∀ w ts, t = .node w ts -> Wrd w) /\ ∀ p us H', Same H H' -> H' p = some (.tup us) -> TAts H' (prt t) us -> Q (.ref p) H'
abbrev s_f : Stmt := top 6
theorem sc_f : FnScope ["t", "found", "part"] ["t", "found"] (zG s_f) := ⟨rfl, rfl, rfl, by decide +kernel, rfl, by decide +kernel, by decide +kernel⟩
abbrev s_i : Stmt := top 7
theorem sc_i : FnScope ["terms", "found", "t"] ["terms"] (zG s_i) := ⟨rfl, rfl, rfl, by decide +kernel, rfl, by decide +kernel, by decide +kernel⟩
def jC (zs : List Str) (x : Str) : List Str := if x ∈ zs then zs else zs ++ [x]
def zX (zs : List Str) (xs : List Str) : List Str := xs.foldl jC zs
theorem jD (zs xs ys : List Str) : zX zs (xs ++ ys) = zX (zX zs xs) ys := by unfold zX; rw [List.foldl_append]
theorem addAll_len : ∀ (xs zs : List Str), (zX zs xs).length <= zs.length + xs.length
 | [], zs => by simp [zX]
 | x :: xs, zs => by
   have := addAll_len xs (jC zs x)
   have h2 : (jC zs x).length <= zs.length + 1 := by unfold jC; split <;> simp
   show (zX (jC zs x) xs).length <= _
   rw [List.length_cons]
   omega
def dz (zs : List Str) : List (Key × V) := zs.map fun x => (.inr x, .bl true)
theorem putK_dz (zs : List Str) (x : Str) : xP (dz zs) (.inr x : Key) (.bl true) = dz (jC zs x) := by
 have e : ((dz zs).any fun kv => decide (kv.1 = (.inr x : Key))) = decide (x ∈ zs) := by
   rw [Bool.eq_iff_iff, List.any_eq_true, decide_eq_true_eq]
   unfold dz
   constructor
   · rintro ⟨p, hp, h⟩
     obtain ⟨y, hy, rfl⟩ := List.mem_map.mp hp
     have h : (Sum.inr y : Key) = .inr x := by simpa using h
     rw [← Sum.inr.inj h]
     exact hy
   · intro h
     exact ⟨_, List.mem_map.mpr ⟨x, h, rfl⟩, by simp⟩
 unfold xP jC
 rw [e]
 by_cases h : x ∈ zs
 · rw [if_pos (by simpa using h), if_pos h]
   unfold dz
   rw [List.map_map]
   apply List.map_congr_left
   intro y hy
   simp only [Function.comp]
   split <;> rfl
 · rw [if_neg (by simpa using h), if_neg h]
   unfold dz
   rw [List.map_append]
   rfl
def SameD (d : Addr) (H H' : Hp) : Prop := ∀ b o, H b = some o -> b ≠ d -> H' b = some o
theorem SameD.refl (d : Addr) (H : Hp) : SameD d H H := fun _ _ h _ => h
theorem SameD.trans {d : Addr} {H H1 H2 : Hp} (a : SameD d H H1) (b : SameD d H1 H2) : SameD d H H2 := fun c o h n => b c o (a c o h n) n
theorem SameD.of {d : Addr} {H H' : Hp} (a : Same H H') : SameD d H H' := fun c o h _ => a c o h
theorem SameD.upd {d : Addr} {H H1 : Hp} {o : HO} (a : SameD d H H1) : SameD d H (L2.upd H1 d o) := fun c o' h n => by
 rw [zU n]
 exact a c o' h n
theorem SameD.tups {d : Addr} {H H' : Hp} {kvs : List (Key × V)} (a : SameD d H H') (h : H d = some (.dK kvs)) : TupSame H H' := fun b xs e => a b _ e (ne_of e h (by intro z; cases z))
def hdn : Tm -> List Str
 | .name x => [x]
 | .node _ _ => []
def spGa : Nat -> Sp
 | 0 => fun _ _ _ _ => False
 | 1 => fun _ _ _ _ => False
 | n + 2 => fun vs H Q _ => ∃ (v : V) (d : Addr) (t : Tm) (zs : List Str), vs = [v, .ref d] /\ TAt H t v /\ Fit n t /\ wt t <= 900 /\ H d = some (.dK (dz zs)) /\ zs.length + wt t <= 100000 /\ ∀ H', SameD d H H' -> H' d = some (.dK (dz (zX zs (nms t)))) -> Q .non H'
def spNA : Sp := fun vs H Q _ => ∃ (a : Addr) (us : List V) (ts : List Tm), vs = [.ref a] /\ H a = some (.lst us) /\ TAts H ts us /\ (∀ t ∈ ts, Fit 20 t /\ wt t <= 900) /\ wts ts <= 20000 /\ (zX [] (nmss ts)).length < 64 /\
 ∀ p zs' H', Same H H' -> H' p = some (.lst (zs'.map V.str)) -> zs'.Perm (zX [] (nmss ts)) -> PyProof.Rows.sortedS zs' = true -> Q (.ref p) H'
section
variable {P : Program} {w : World} {K : PySem.W.Frag} {mg : Str -> Option Value} {base : Heap} {f : Addr} {fd : FuncData}
theorem ok_parts_of (bi : Bi mg) (F : Fun K "parts_of" "parts_of" s_A f fd) : FnOk P w K mg base CX0 1 f fd ["t"] spPt := by
 refine F.ok sc_A (fun vs H Q E h => ?_) (fun cdv A outer s H vs Q E hr h => ?_)
 · obtain ⟨v, t, rfl, _⟩ := h
   rfl
 obtain ⟨v, t, rfl, ht, hw, q⟩ := h
 refine ⟨_, (zF (zL (pe_ifExp (zO op_eq (zS ix_tup (pv 0) zE (fun _ _ => rfl)) zV (zR _)) (zY pa_nil) (yJ sl_tup (pv 0) (yO zE) po_none)))), ?_⟩
 cases t with
 | name x =>
   obtain ⟨a, rfl, ha⟩ := TAt.name ht
   simp! []
   refine ⟨_, SqT.of ha, .str "name", at0, rfl, ?_⟩
   rw [if_pos rfl]
   exact ⟨zI (by decide), fun p hp => q _ [] _ (zB hp _) zC rfl⟩
 | node wd ts =>
   obtain ⟨a, us, rfl, ha, hu⟩ := TAt.node ht
   simp! []
   refine ⟨_, SqT.of ha, .str wd, at0, rfl, ?_⟩
   rw [if_neg (fun e => (hw wd ts rfl).ne (V.str.inj e))]
   refine ⟨_, SqT.of ha, yR _ _, fun p hp => ?_⟩
   rw [jN]
   exact q p us _ (zB hp _) zC (TAts.tups (zB hp _).tups hu)
theorem qE (bi : Bi mg) (h_A : Has P w K mg base 1 "parts_of" ["t"] spPt) (F : Fun K "gather_names" "gather_names" s_f f fd) (b : Binds K fd ["t", "found"] []) (m : mg "gather_names" = some (.ref f)) : ∀ n, FnOk P w K mg base CX0 n f fd ["t", "found"] (spGa n) := by
 refine qO F b m (fun vs H Q E h => h) (fun n h_f => ?_)
 cases n with
 | zero => exact ⟨fun vs H Q E h => h.elim, fun A outer s H args us vs Q E _ _ _ _ h => h.elim⟩
 | succ n =>
 refine F.ok sc_f (fun vs H Q E h => ?_) (fun cdv A outer s H vs Q E hr h => ?_)
 · obtain ⟨v, d, t, zs, rfl, _⟩ := h
   rfl
 obtain ⟨v, d, t, zs, rfl, ht, hf, hw, hd, hz, q⟩ := h
 refine ⟨_, (zD (yC (zO op_eq (zS ix_tup (pv 0) zE (fun _ _ => rfl)) zV (zR _)) (zF (ps_dput (hu_of hr) (pv 1) (zS ix_tup (pv 0) zE (fun _ _ => rfl)) yY rfl)) pss_nil) (zF (yK PassesOwn.never rfl (qP (zK h_A (hr.mono (by omega)) rfl (zA (pv 0) pa_nil))) (zP (i := 2) sc_f.nd rfl (Or.inl rfl)) (zF (yW (zK h_f hr rfl (zA (pv 2) (zA (pv 1) pa_nil)))))))), ?_⟩
 have hnm : nms t = hdn t ++ nmss (prt t) := by
   cases t with
   | name x => rw [nms, hdn, prt, nmss]; rfl
   | node wd ts => rw [nms, hdn, prt]; rfl
 have hwp : wts (prt t) <= wt t /\ (hdn t).length + wts (prt t) <= wt t := by
   cases t with
   | name x => rw [prt, wts, hdn, wt]; exact ⟨by omega, by simp⟩
   | node wd ts => rw [prt, wt, hdn]; exact ⟨by omega, by simp⟩
 have hwr : ∀ w ts, t = .node w ts -> Wrd w := fun w ts e => by subst e; exact hf.wrd
 have part : ∀ (i : Nat) (u : Tm), (prt t)[i]? = some u -> ∃ m, n = m + 1 /\ Fit m u /\ wt u <= wts (prt t) := fun i u hi => by
   have hm := List.mem_of_getElem? hi
   have := wts_mem hm
   cases t with
   | name x => cases hm
   | node wd ts =>
     have hm : u ∈ ts := hm
     cases n with
     | zero => rw [hf.2] at hm; cases hm
     | succ n => exact ⟨n, rfl, hf.part hm, this⟩
 refine zW (fun σ H' => SameD d H H' /\ H' d = some (.dK (dz (zX zs (hdn t)))) /\ ∃ o, σ = [some v, some (V.ref d), o]) (fun N hN => ?_) (fun σ H' h => ?_)
 · simp! [sDPut]
   cases t with
   | name x =>
     obtain ⟨a, rfl, ha⟩ := TAt.name ht
     refine ⟨_, rfl, _, SqT.of ha, .str "name", at0, rfl, ?_⟩
     rw [if_pos rfl]
     refine ⟨_, rfl, _, SqT.of ha, .str x, at1, _, DPut.k (k := .inr x) hd (Nat.lt_of_le_of_lt (show (dz zs).length <= 1000000 by unfold dz; rw [List.length_map]; omega) (by decide)), hN _ _ ?_⟩
     rw [putK_dz]
     exact ⟨(SameD.refl d H).upd, zC, _, rfl⟩
   | node wd ts =>
     obtain ⟨a, us, rfl, ha, hu⟩ := TAt.node ht
     refine ⟨_, rfl, _, SqT.of ha, .str wd, at0, rfl, ?_⟩
     rw [if_neg (fun e => hf.wrd.ne (V.str.inj e))]
     exact hN _ _ ⟨SameD.refl d H, hd, _, rfl⟩
 · obtain ⟨es, hd1, o, rfl⟩ := h
   have ht1 := TAt.tups (es.tups hd) ht
   simp! [spPt]
   refine ⟨t, ht1, hwr, fun p us H2 e2 hp hu => ⟨⟨_, SqT.of hp⟩, ?_⟩⟩
   have hl := hu.length
   have hpd : p ≠ d := ne_of hp (e2 _ _ hd1) (by intro z; cases z)
   refine fw_tup (xs := us) (fun i σ H' => SameD d H2 H' /\ H' p = some (.tup us) /\ H' d = some (.dK (dz (zX (zX zs (hdn t)) (nmss ((prt t).take i))))) /\ ∃ o, σ = [some v, some (V.ref d), o]) ?_ (fun i σ H' _ h => SqT.of h.2.1) (fun i x σ H' hx h => ?_) (fun σ H' h => ?_)
   · exact ⟨SameD.refl _ _, hp, e2 _ _ hd1, _, rfl⟩
   · obtain ⟨es3, hp3, hd3, o', rfl⟩ := h
     obtain ⟨u, hu', hx'⟩ := hu.getV hx
     obtain ⟨m', rfl, f1, f2⟩ := part i u hu'
     have l1 := addAll_len (hdn t) zs
     have l2 := addAll_len (nmss ((prt t).take i)) (zX zs (hdn t))
     have l3 := nmss_len ((prt t).take i)
     have l4 : wts ((prt t).take (i + 1)) <= wts (prt t) := by
       have := congrArg wts (List.take_append_drop (i + 1) (prt t))
       rw [wts_append] at this
       omega
     have l5 : wts ((prt t).take (i + 1)) = wts ((prt t).take i) + wt u := by
       obtain ⟨il, ie⟩ := List.getElem?_eq_some_iff.mp hu'
       rw [List.take_succ_eq_append_getElem il, ie, wts_append]
       show _ + (wt u + wts []) = _
       rw [wts]
       omega
     simp! [spGa]
     refine ⟨u, TAt.tups (es3.tups (e2 _ _ hd1)) hx', f1, by omega, _, hd3, by omega, fun H4 e4 h4 => ⟨es3.trans e4, e4 _ _ hp3 hpd, ?_, _, rfl⟩⟩
     rw [jV hu', jD]
     exact h4
   · obtain ⟨es3, hp3, hd3, o', rfl⟩ := h
     rw [List.take_of_length_le (by omega)] at hd3
     refine q _ ((es.trans (SameD.of e2)).trans es3) ?_
     rw [hnm, jD]
     exact hd3
theorem qD (bi : Bi mg) (h_f : Has P w K mg base 22 "gather_names" ["t", "found"] (spGa 22)) (F : Fun K "names_of_all" "names_of_all" s_i f fd) : FnOk P w K mg base CX0 23 f fd ["terms"] spNA := by
 refine F.ok sc_i (fun vs H Q E h => ?_) (fun cdv A outer s H vs Q E hr h => ?_)
 · obtain ⟨a, us, ts, rfl, _⟩ := h
   rfl
 obtain ⟨a, us, ts, rfl, ha, hu, hf, hw, h64, q⟩ := h
 have hl := hu.length
 have hwl := wts_len ts
 refine ⟨_, (zD (zN (i := 1) sc_i.nd rfl (Or.inl rfl) pe_dnewK) (zD (yK PassesOwn.never rfl (yE (pv 0)) (zP (i := 2) sc_i.nd rfl (Or.inl rfl)) (zF (yW (zK h_f (hr.mono (by omega)) rfl (zA (pv 2) (zA (pv 1) pa_nil)))))) (zF (zL (zM call_sortedD rfl bi.sorted bt_sorted (zA (pv 1) pa_nil)))))), ?_⟩
 refine zH fun N hN => ?_
 simp! []
 refine fun d hnd => hN _ _ ?_
 have e1 := zB hnd (.dK [])
 have h1 : upd H d (.dK []) d = some (.dK (dz [])) := zC
 generalize upd H d (.dK []) = H1 at e1 h1 ⊢
 have had : a ≠ d := yH ha hnd
 refine zW (fun σ H' => SameD d H1 H' /\ H' d = some (.dK (dz (zX [] (nmss ts)))) /\ ∃ o1 o2, σ = [o1, some (V.ref d), o2]) (fun N hN => ?_) (fun σ H' h => ?_)
 · simp! []
   refine ⟨⟨_, SqL.of (e1 _ _ ha)⟩, ?_⟩
   refine yX (xs := us) (fun i σ H' => SameD d H1 H' /\ H' d = some (.dK (dz (zX [] (nmss (ts.take i))))) /\ ∃ o1 o2, σ = [o1, some (V.ref d), o2]) ?_ (fun i σ H' _ h => SqL.of (h.1 _ _ (e1 _ _ ha) had)) (fun i x σ H' hx h => ?_) (fun σ H' h => ?_)
   · exact ⟨SameD.refl _ _, h1, _, _, rfl⟩
   · obtain ⟨es3, hd3, o1, o2, rfl⟩ := h
     obtain ⟨u, hu', hx'⟩ := hu.getV hx
     have hm := List.mem_of_getElem? hu'
     have l0 := wts_mem hm
     have l2 := addAll_len (nmss (ts.take i)) []
     have l3 := nmss_len (ts.take i)
     have l4 : wts (ts.take i) <= wts ts := by
       have := congrArg wts (List.take_append_drop i ts)
       rw [wts_append] at this
       omega
     simp! [spGa]
     refine ⟨u, TAt.tups (e1.tups.trans (es3.tups h1)) hx', (hf u hm).1, (hf u hm).2, _, hd3, by simp at l2; omega, fun H4 e4 h4 => ⟨es3.trans e4, ?_, _, rfl⟩⟩
     rw [jV hu', jD]
     exact h4
   · obtain ⟨es3, hd3, o1, o2, rfl⟩ := h
     rw [List.take_of_length_le (by omega)] at hd3
     exact hN _ _ ⟨es3, hd3, _, _, rfl⟩
 · obtain ⟨es3, hd3, o1, o2, rfl⟩ := h
   simp! []
   refine ⟨_, hd3, zX [] (nmss ts), by unfold dz; rw [List.map_map]; rfl, h64, fun l zs' hl' hp hs => ?_⟩
   have es : Same H H' := fun b o hb => es3 b o (e1 _ _ hb) (yH hb hnd)
   exact q _ _ _ (es.trans (zB hl' _)) zC hp hs
end
abbrev s_y : Stmt := top 8
theorem sc_y : FnScope ["book", "saying", "terms", "rule", "premise"] ["book", "saying"] (zG s_y) := ⟨rfl, rfl, rfl, by decide +kernel, rfl, by decide +kernel, by decide +kernel⟩
abbrev s_B : Stmt := top 9
theorem sc_B : FnScope ["book", "saying"] ["book", "saying"] (zG s_B) := ⟨rfl, rfl, rfl, by decide +kernel, rfl, by decide +kernel, by decide +kernel⟩
abbrev s_w : Stmt := top 13
theorem sc_w : FnScope ["truths", "saying"] ["truths", "saying"] (zG s_w) := ⟨rfl, rfl, rfl, by decide +kernel, rfl, by decide +kernel, by decide +kernel⟩
abbrev s_C : Stmt := top 14
theorem sc_C : FnScope ["truths", "rule"] ["truths", "rule"] (zG s_C) := ⟨rfl, rfl, rfl, by decide +kernel, rfl, by decide +kernel, by decide +kernel⟩
abbrev s_p : Stmt := top 16
theorem sc_p : FnScope ["truths", "book", "saying"] ["truths", "book", "saying"] (zG s_p) := ⟨rfl, rfl, rfl, by decide +kernel, rfl, by decide +kernel, by decide +kernel⟩
abbrev s_x : Stmt := top 27
theorem sc_x : FnScope ["sides", "saying"] ["sides", "saying"] (zG s_x) := ⟨rfl, rfl, rfl, by decide +kernel, rfl, by decide +kernel, by decide +kernel⟩
abbrev s_g : Stmt := top 28
theorem sc_g : FnScope ["sides", "rule"] ["sides", "rule"] (zG s_g) := ⟨rfl, rfl, rfl, by decide +kernel, rfl, by decide +kernel, by decide +kernel⟩
abbrev Rul := List (Tm × Tm) × (Tm × Tm)
def tmP (p : Tm × Tm) : List Tm := [p.1, p.2]
def yG (ps : List (Tm × Tm)) : List Tm := ps.flatMap tmP
def tmR (r : Rul) : List Tm := yG r.1 ++ tmP r.2
def tmB (rs : List Rul) : List Tm := rs.flatMap tmR
theorem uP {ps : List (Tm × Tm)} {i : Nat} {p : Tm × Tm} (h : ps[i]? = some p) : yG (ps.take (i + 1)) = yG (ps.take i) ++ tmP p := by
 obtain ⟨il, ie⟩ := List.getElem?_eq_some_iff.mp h
 unfold yG
 rw [List.take_succ_eq_append_getElem il, ie, List.flatMap_append]
 simp
theorem qM {rs : List Rul} {i : Nat} {r : Rul} (h : rs[i]? = some r) : tmB (rs.take (i + 1)) = tmB (rs.take i) ++ tmR r := by
 obtain ⟨il, ie⟩ := List.getElem?_eq_some_iff.mp h
 unfold tmB
 rw [List.take_succ_eq_append_getElem il, ie, List.flatMap_append]
 simp
theorem tmB_split (rs : List Rul) (i : Nat) : (tmB (rs.take i)).length <= (tmB rs).length := by
 have : tmB rs = tmB (rs.take i) ++ tmB (rs.drop i) := by
   unfold tmB
   rw [← List.flatMap_append, List.take_append_drop]
 rw [this, List.length_append]
 omega
theorem tmPs_split (ps : List (Tm × Tm)) (i : Nat) : (yG (ps.take i)).length <= (yG ps).length := by
 have : yG ps = yG (ps.take i) ++ yG (ps.drop i) := by
   unfold yG
   rw [← List.flatMap_append, List.take_append_drop]
 rw [this, List.length_append]
 omega
abbrev RAts (H : Hp) (rs : List Rul) (vs : List V) : Prop := DAts H (rs.map qX) vs
theorem RAts.length {H : Hp} {rs : List Rul} {vs : List V} (h : RAts H rs vs) : vs.length = rs.length := by
 have := DAts.length h
 rw [List.length_map] at this
 exact this
theorem RAts.getV {H : Hp} {rs : List Rul} {vs : List V} {i : Nat} {v : V} (h : RAts H rs vs) (hv : vs[i]? = some v) : ∃ r, rs[i]? = some r /\ RAt H r v := by
 have hi : i < rs.length := by rw [← h.length]; exact (List.getElem?_eq_some_iff.mp hv).1
 obtain ⟨u, h1, h2⟩ := DAts.get (d := qX rs[i]) h (by rw [List.getElem?_map, List.getElem?_eq_getElem hi]; rfl)
 rw [hv] at h1
 cases h1
 exact ⟨_, List.getElem?_eq_getElem hi, h2⟩
theorem RAts.snoc {H : Hp} {rs : List Rul} {vs : List V} {i : Nat} {r : Rul} {v : V} (ht : rs[i]? = some r) (h : RAts H (rs.take i) vs) (h1 : RAt H r v) : RAts H (rs.take (i + 1)) (vs ++ [v]) := by
 obtain ⟨hi, e⟩ := List.getElem?_eq_some_iff.mp ht
 unfold RAts
 rw [List.take_succ_eq_append_getElem hi, e, List.map_append]
 exact DAts.append h (DAts.one h1)
theorem SAt.two {H : Hp} {p : Tm × Tm} {v : V} (h : SAt H p v) : ∃ a us, v = .ref a /\ H a = some (.tup us) /\ TAts H (tmP p) us /\ us.length = 2 := by
 obtain ⟨a, v1, v2, e1, e2, e3, e4⟩ := SAt.out h
 exact ⟨a, _, e1, e2, ⟨v1, _, rfl, e3, v2, _, rfl, e4, rfl⟩, rfl⟩
theorem jH {H H' : Hp} {p : Addr} {o : HO} (e : Same H H') (hp : H p = none) : Same H (upd H' p o) := e.upd hp
def spTI : Sp := fun vs H Q _ => ∃ (a : Addr) (sv : V) (bs : List V) (rs : List Rul) (s : Tm × Tm), vs = [.ref a, sv] /\ H a = some (.lst bs) /\ RAts H rs bs /\ SAt H s sv /\ (tmB rs).length <= 1000 /\
 ∀ p us H', Same H H' -> H' p = some (.lst us) -> TAts H' (tmB rs ++ tmP s) us -> Q (.ref p) H'
def spNI : Sp := fun vs H Q _ => ∃ (a : Addr) (sv : V) (bs : List V) (rs : List Rul) (s : Tm × Tm), vs = [.ref a, sv] /\ H a = some (.lst bs) /\ RAts H rs bs /\ SAt H s sv /\ (tmB rs).length <= 1000 /\
 (∀ t ∈ tmB rs ++ tmP s, Fit 20 t /\ wt t <= 900) /\ wts (tmB rs ++ tmP s) <= 20000 /\ (zX [] (nmss (tmB rs ++ tmP s))).length < 64 /\
 ∀ p zs' H', Same H H' -> H' p = some (.lst (zs'.map V.str)) -> zs'.Perm (zX [] (nmss (tmB rs ++ tmP s))) -> PyProof.Rows.sortedS zs' = true -> Q (.ref p) H'
def hoB (L : Str -> Bool) (s : Tm × Tm) : Bool := !(wrt L s.1) || wrt L s.2
def fiB (L : Str -> Bool) (r : Rul) : Bool := hoB L r.2 || !(r.1.all (hoB L))
def opB (L : Str -> Bool) (b : List Rul) (s : Tm × Tm) : Bool := !(hoB L s) && b.all (fiB L)
def Sy (kvs : List (Key × V)) (L : Str -> Bool) (s : Tm × Tm) : Prop := (Fit 20 s.1 /\ wt s.1 <= 900) /\ (Fit 20 s.2 /\ wt s.2 <= 900) /\ ∀ x, x ∈ nms s.1 \/ x ∈ nms s.2 -> yQ kvs (.inr x) = some (.bl (L x))
def Ry (kvs : List (Key × V)) (L : Str -> Bool) (r : Rul) : Prop := r.1.length <= 50 /\ (∀ p ∈ r.1, Sy kvs L p) /\ Sy kvs L r.2
def spHy : Sp := fun vs H Q _ => ∃ (d : Addr) (v : V) (s : Tm × Tm) (kvs : List (Key × V)) (L : Str -> Bool), vs = [.ref d, v] /\ SAt H s v /\ H d = some (.dK kvs) /\ Sy kvs L s /\ ∀ H', Same H H' -> Q (.bl (hoB L s)) H'
def spFy : Sp := fun vs H Q _ => ∃ (d : Addr) (v : V) (r : Rul) (kvs : List (Key × V)) (L : Str -> Bool), vs = [.ref d, v] /\ RAt H r v /\ H d = some (.dK kvs) /\ Ry kvs L r /\ ∀ H', Same H H' -> Q (.bl (fiB L r)) H'
def spOy : Sp := fun vs H Q _ => ∃ (d ba : Addr) (v : V) (bs : List V) (b : List Rul) (s : Tm × Tm) (kvs : List (Key × V)) (L : Str -> Bool), vs = [.ref d, .ref ba, v] /\ H ba = some (.lst bs) /\ RAts H b bs /\ b.length <= 50 /\ SAt H s v /\ H d = some (.dK kvs) /\ (∀ r ∈ b, Ry kvs L r) /\ Sy kvs L s /\ ∀ H', Same H H' -> Q (.bl (opB L b s)) H'
section
variable {P : Program} {w : World} {K : PySem.W.Frag} {mg : Str -> Option Value} {base : Heap} {f : Addr} {fd : FuncData}
theorem ok_terms_in (bi : Bi mg) (F : Fun K "terms_in" "terms_in" s_y f fd) : FnOk P w K mg base CX0 1 f fd ["book", "saying"] spTI := by
 refine F.ok sc_y (fun vs H Q E h => ?_) (fun cdv A outer s H vs Q E hr h => ?_)
 · obtain ⟨a, sv, bs, rs, s, rfl, _⟩ := h
   rfl
 obtain ⟨a, sv, bs, rs, s, rfl, ha, hr', hs, hz, q⟩ := h
 have hbl := hr'.length
 refine ⟨_, (zD (zN (i := 2) sc_y.nd rfl (Or.inl rfl) (zZ pa_nil)) (zD (yK PassesOwn.never rfl (yE (pv 0)) (zP (i := 3) sc_y.nd rfl (Or.inl rfl)) (zD (yK PassesOwn.never rfl (yE (zS ix_tup (pv 3) zE (fun _ _ => rfl))) (zP (i := 4) sc_y.nd rfl (Or.inl rfl)) (zF (yW (xX PySem.F.plainAttrs_list PySem.F.slot_list_extend PySem.F.type_list_extend mt_extendT (pv 2) (zA (pv 4) pa_nil))))) (zF (yW (xX PySem.F.plainAttrs_list PySem.F.slot_list_extend PySem.F.type_list_extend mt_extendT (pv 2) (zA (zS ix_tup (pv 3) zE (fun _ _ => rfl)) pa_nil)))))) (zD (yW (xX PySem.F.plainAttrs_list PySem.F.slot_list_extend PySem.F.type_list_extend mt_extendT (pv 2) (zA (pv 1) pa_nil))) (zF (zL (pv 2)))))), ?_⟩
 refine zH fun N hN => ?_
 simp! []
 refine ⟨zI (by decide), fun p hp => hN _ _ ?_⟩
 refine zW (fun σ H' => Same H H' /\ (∃ us, H' p = some (.lst us) /\ TAts H (tmB rs) us) /\ ∃ o1 o2, σ = [some (V.ref a), some sv, some (V.ref p), o1, o2]) (fun N hN => ?_) (fun σ H' h => ?_)
 · simp! []
   refine ⟨⟨_, SqL.of (zB hp _ _ _ ha)⟩, ?_⟩
   refine yX (xs := bs) (fun i σ H' => Same H H' /\ (∃ us, H' p = some (.lst us) /\ TAts H (tmB (rs.take i)) us) /\ ∃ o1 o2, σ = [some (V.ref a), some sv, some (V.ref p), o1, o2]) ?_ (fun i σ H' _ h => SqL.of (h.1 _ _ ha)) (fun i x σ H' hx h => ?_) (fun σ H' h => ?_)
   · exact ⟨zB hp _, ⟨[], zC, rfl⟩, _, _, rfl⟩
   · obtain ⟨es, ⟨us, hus, hut⟩, o1, o2, rfl⟩ := h
     obtain ⟨r, hri, hx'⟩ := hr'.getV hx
     obtain ⟨ra, l, sv2, vs, rfl, hra, hl, hps, hs2⟩ := RAt.out hx'
     have hln : vs.length = r.1.length := SAts.length hps
     have hb1 := tmB_split rs (i + 1)
     rw [qM hri, List.length_append] at hb1
     have hb2 : (tmR r).length = (yG r.1).length + 2 := by unfold tmR; rw [List.length_append]; rfl
     show tSeq _ _ _ _ _
     refine zW (fun σ H' => Same H H' /\ (∃ us, H' p = some (.lst us) /\ TAts H (tmB (rs.take i) ++ yG r.1) us) /\ ∃ o2, σ = [some (V.ref a), some sv, some (V.ref p), some (V.ref ra), o2]) (fun N hN => ?_) (fun σ H' h => ?_)
     · simp! []
       refine ⟨_, SqT.of (es _ _ hra), .ref l, at0, _, rfl, ⟨_, SqL.of (es _ _ hl)⟩, ?_⟩
       refine yX (xs := vs) (fun j σ H' => Same H H' /\ (∃ us, H' p = some (.lst us) /\ TAts H (tmB (rs.take i) ++ yG (r.1.take j)) us) /\ ∃ o2, σ = [some (V.ref a), some sv, some (V.ref p), some (V.ref ra), o2]) ?_ (fun j σ H' _ h => SqL.of (h.1 _ _ hl)) (fun j y σ H' hy h => ?_) (fun σ H' h => ?_)
       · exact ⟨es, ⟨us, hus, by simpa [yG] using hut⟩, _, rfl⟩
       · obtain ⟨es, ⟨us, hus, hut⟩, o2, rfl⟩ := h
         obtain ⟨pr, hpi, hy'⟩ := SAts.getV hps hy
         obtain ⟨sa, ws, rfl, hsa, hws, hw2⟩ := SAt.two hy'
         have hlu := hut.length
         have hb3 := tmPs_split r.1 j
         rw [List.length_append] at hlu
         simp! [jK]
         refine ⟨.inl ⟨rfl, _, SqL.of hus⟩, _, hus, _, SqT.of (es _ _ hsa), Nat.le_trans (m := 1000000) (by omega) (by decide), ?_⟩
         refine ⟨jH es hp, ⟨_, zC, ?_⟩, _, rfl⟩
         rw [uP hpi, ← List.append_assoc]
         exact TAts.append hut hws
       · obtain ⟨es, ⟨us, hus, hut⟩, o2, rfl⟩ := h
         rw [show r.1.take vs.length = r.1 from List.take_of_length_le (by omega)] at hut
         exact hN _ _ ⟨es, ⟨us, hus, hut⟩, _, rfl⟩
     · obtain ⟨es, ⟨us, hus, hut⟩, o2, rfl⟩ := h
       obtain ⟨sa, ws, rfl, hsa, hws, hw2⟩ := SAt.two hs2
       have hlu := hut.length
       rw [List.length_append] at hlu
       simp! [jK]
       refine ⟨.inl ⟨rfl, _, SqL.of hus⟩, _, SqT.of (es _ _ hra), .ref sa, at1, sa, rfl, _, hus, _, SqT.of (es _ _ hsa), Nat.le_trans (m := 1000000) (by omega) (by decide), ?_⟩
       refine ⟨jH es hp, ⟨_, zC, ?_⟩, _, rfl⟩
       rw [qM hri]
       unfold tmR
       rw [← List.append_assoc]
       exact TAts.append hut hws
   · obtain ⟨es, ⟨us, hus, hut⟩, o1, o2, rfl⟩ := h
     rw [List.take_of_length_le (by omega)] at hut
     exact hN _ _ ⟨es, ⟨us, hus, hut⟩, _, _, rfl⟩
 · obtain ⟨es, ⟨us, hus, hut⟩, o1, o2, rfl⟩ := h
   obtain ⟨sa, ws, rfl, hsa, hws, hw2⟩ := SAt.two hs
   have hlu := hut.length
   refine zH fun N hN => ?_
   simp! [jK]
   refine ⟨.inl ⟨rfl, _, SqL.of hus⟩, _, hus, _, SqT.of (es _ _ hsa), Nat.le_trans (m := 1000000) (by omega) (by decide), hN _ _ ?_⟩
   simp! []
   exact q p _ _ (jH es hp) zC (DAts.same (jH es hp) (TAts.append hut hws))
theorem ok_names_in (bi : Bi mg) (h_i : Has P w K mg base 23 "names_of_all" ["terms"] spNA) (h_y : Has P w K mg base 1 "terms_in" ["book", "saying"] spTI) (F : Fun K "names_in" "names_in" s_B f fd) : FnOk P w K mg base CX0 24 f fd ["book", "saying"] spNI := by
 refine F.ok sc_B (fun vs H Q E h => ?_) (fun cdv A outer s H vs Q E hr h => ?_)
 · obtain ⟨a, sv, bs, rs, s, rfl, _⟩ := h
   rfl
 obtain ⟨a, sv, bs, rs, s, rfl, ha, hr', hs, hz, hf, hw, h64, q⟩ := h
 refine ⟨_, (zF (zL (zK h_i (hr.mono (by omega)) rfl (zA (zK h_y (hr.mono (by omega)) rfl (zA (pv 0) (zA (pv 1) pa_nil))) pa_nil)))), ?_⟩
 simp! [spNA, spTI]
 refine ⟨_, ha, rs, hr', s, hs, hz, fun p us H1 e1 hp hu => ?_⟩
 exact ⟨us, hp, _, hu, hf, hw, h64, fun p2 zs' H2 e2 h2 hpm hso => q p2 zs' H2 (e1.trans e2) h2 hpm hso⟩
theorem ok_holds_by (bi : Bi mg) (h_u : Has P w K mg base 21 "worth_by" ["truths", "t"] (spWo 21)) (F : Fun K "holds_by" "holds_by" s_w f fd) : FnOk P w K mg base CX0 22 f fd ["truths", "saying"] spHy := by
 refine F.ok sc_w (fun vs H Q E h => ?_) (fun cdv A outer s H vs Q E hr h => ?_)
 · obtain ⟨d, v, s, kvs, L, rfl, _⟩ := h
   rfl
 obtain ⟨d, v, sy, kvs, L, rfl, hs, hd, hy, q⟩ := h
 refine ⟨_, (zF (zL (pe_or (jA (zK h_u (hr.mono (by omega)) rfl (zA (pv 0) (zA (zS ix_tup (pv 1) zE (fun _ _ => rfl)) pa_nil)))) (jU (zK h_u (hr.mono (by omega)) rfl (zA (pv 0) (zA (zS ix_tup (pv 1) zE (fun _ _ => rfl)) pa_nil))))))), ?_⟩
 obtain ⟨sa, v1, v2, rfl, hsa, h1, h2⟩ := SAt.out hs
 simp! []
 refine ⟨_, SqT.of hsa, v1, at0, v1, d, sy.1, kvs, L, rfl, h1, hy.1.1, hy.1.2, hd, fun x hx => hy.2.2 x (.inl hx), fun H1 s1 => ?_⟩
 refine ⟨_, rfl, ?_⟩
 have q1 : ∀ H', Same H H' -> hoB L sy = true -> Q (.bl true) H' := fun H' e h => by rw [← h]; exact q _ e
 unfold hoB at q
 cases c1 : wrt L sy.1 with
 | false =>
   rw [if_pos rfl]
   refine q1 _ s1 ?_
   unfold hoB
   rw [c1]
   rfl
 | true =>
 rw [if_neg (by decide)]
 rw [c1] at q
 exact ⟨_, SqT.of (s1 _ _ hsa), v2, at1, v2, d, sy.2, kvs, L, rfl, TAt.tups s1.tups h2, hy.2.1.1, hy.2.1.2, s1 _ _ hd, fun x hx => hy.2.2 x (.inr hx), fun H2 s2 => q _ (s1.trans s2)⟩
theorem ok_good (bi : Bi mg) (h_q : Has P w K mg base 21 "_law_plain" ["sides", "t"] (spWo 21)) (F : Fun K "_law_good" "_law_good" s_x f fd) : FnOk P w K mg base CX0 22 f fd ["sides", "saying"] spHy := by
 refine F.ok sc_x (fun vs H Q E h => ?_) (fun cdv A outer s H vs Q E hr h => ?_)
 · obtain ⟨d, v, s, kvs, L, rfl, _⟩ := h
   rfl
 obtain ⟨d, v, sy, kvs, L, rfl, hs, hd, hy, q⟩ := h
 refine ⟨_, (zF (zL (pe_or (zK h_q (hr.mono (by omega)) rfl (zA (pv 0) (zA (zS ix_tup (pv 1) zE (fun _ _ => rfl)) pa_nil))) (jU (jA (zK h_q (hr.mono (by omega)) rfl (zA (pv 0) (zA (zS ix_tup (pv 1) zE (fun _ _ => rfl)) pa_nil)))))))), ?_⟩
 obtain ⟨sa, v1, v2, rfl, hsa, h1, h2⟩ := SAt.out hs
 simp! []
 refine ⟨_, SqT.of hsa, v2, at1, v2, d, sy.2, kvs, L, rfl, h2, hy.2.1.1, hy.2.1.2, hd, fun x hx => hy.2.2 x (.inr hx), fun H1 s1 => ?_⟩
 refine ⟨_, rfl, ?_⟩
 unfold hoB at q
 cases c1 : wrt L sy.2 with
 | true =>
   rw [if_pos rfl]
   rw [c1, Bool.or_true] at q
   exact q _ s1
 | false =>
 rw [if_neg (by decide)]
 rw [c1, Bool.or_false] at q
 exact ⟨_, SqT.of (s1 _ _ hsa), v1, at0, v1, d, sy.1, kvs, L, rfl, TAt.tups s1.tups h1, hy.1.1, hy.1.2, s1 _ _ hd, fun x hx => hy.2.2 x (.inl hx), fun H2 s2 => ⟨_, rfl, q _ (s1.trans s2)⟩⟩
theorem ok_fits_by (bi : Bi mg) (h_w : Has P w K mg base 22 "holds_by" ["truths", "saying"] spHy) (F : Fun K "fits_by" "fits_by" s_C f fd) : FnOk P w K mg base CX0 23 f fd ["truths", "rule"] spFy := by
 refine F.ok sc_C (fun vs H Q E h => ?_) (fun cdv A outer s H vs Q E hr h => ?_)
 · obtain ⟨d, v, s, kvs, L, rfl, _⟩ := h
   rfl
 obtain ⟨d, v, r, kvs, L, rfl, hv, hd, hy, q⟩ := h
 refine ⟨_, (zF (zL (pe_or (zK h_w (hr.mono (by omega)) rfl (zA (pv 0) (zA (zS ix_tup (pv 1) zE (fun _ _ => rfl)) pa_nil))) (jU (jA (zM call_all rfl bi.all bt_all (zA (yP ["premise"] ["truths"] [0] (yE (zS ix_tup (pv 1) zE (fun _ _ => rfl))) (fun _ _ _ _ nd => zP (i := 0) nd rfl (Or.inl rfl)) (fun _ _ _ _ => yI) (fun _ _ _ _ => (zK h_w (hr.mono (by omega)) rfl (zA (pv 1) (zA (pv 0) pa_nil))))) pa_nil))))))), ?_⟩
 obtain ⟨ra, l, sv, vs, rfl, hra, hl, hps, hs2⟩ := RAt.out hv
 have hvl : vs.length = r.1.length := SAts.length hps
 have hrl := hy.1
 simp! []
 refine ⟨_, SqT.of hra, sv, at1, d, sv, r.2, kvs, L, rfl, hs2, hd, hy.2.2, fun H1 s1 => ⟨_, rfl, ?_⟩⟩
 unfold fiB at q
 cases c1 : hoB L r.2 with
 | true =>
   rw [if_pos rfl]
   rw [c1, Bool.true_or] at q
   exact q _ s1
 | false =>
 rw [if_neg (by decide)]
 rw [c1, Bool.false_or] at q
 refine ⟨_, SqT.of (s1 _ _ hra), .ref l, at0, l, rfl, ⟨_, SqL.of (s1 _ _ hl)⟩, ?_⟩
 refine yS (xs := vs) (fun i ys σ H' => Same H H' /\ ys = ((r.1.take i).map (hoB L)).map V.bl /\ ∃ o, σ = [o, some (V.ref d)]) ⟨s1, rfl, _, rfl⟩ (zI (by omega)) (fun i ys σ H' e => ?_) (fun i ys σ H' e => SqL.of (e.1 _ _ hl)) (fun i y ys σ H' C' hyy e hC => ?_) (fun ys σ H' e p3 hp3 => ?_)
 · rw [e.2.1, List.length_map, List.length_map, List.length_take]; omega
 · obtain ⟨es, rfl, o, rfl⟩ := e
   obtain ⟨pr, hpi, hy'⟩ := SAts.getV hps hyy
   obtain ⟨hil, hie⟩ := List.getElem?_eq_some_iff.mp hpi
   simp! []
   refine ⟨d, y, pr, kvs, L, rfl, DAt.same es hy', es _ _ hd, hy.2.1 pr (List.mem_of_getElem? hpi), fun H2 s2 => hC _ _ _ ⟨es.trans s2, ?_, _, rfl⟩⟩
   rw [List.take_succ_eq_append_getElem hil, hie, List.map_append, List.map_append]
   rfl
 obtain ⟨es, rfl, o, rfl⟩ := e
 rw [hvl, List.take_of_length_le (Nat.le_refl _)]
 refine ⟨p3, rfl, _, SqL.of zC, ?_⟩
 rw [show (r.1.map (hoB L)).all id = r.1.all (hoB L) by rw [List.all_map]; rfl]
 exact q _ (es.trans (zB hp3 _))
theorem vP (bi : Bi mg) (h_x : Has P w K mg base 22 "_law_good" ["sides", "saying"] spHy) (F : Fun K "_law_good_rule" "_law_good_rule" s_g f fd) : FnOk P w K mg base CX0 23 f fd ["sides", "rule"] spFy := by
 refine F.ok sc_g (fun vs H Q E h => ?_) (fun cdv A outer s H vs Q E hr h => ?_)
 · obtain ⟨d, v, s, kvs, L, rfl, _⟩ := h
   rfl
 obtain ⟨d, v, r, kvs, L, rfl, hv, hd, hy, q⟩ := h
 refine ⟨_, (zD (yC (jT (zK h_x (hr.mono (by omega)) rfl (zA (pv 0) (zA (zS ix_tup (pv 1) zE (fun _ _ => rfl)) pa_nil)))) (zF (zL yY)) pss_nil) (zF (zL (jA (zM call_all rfl bi.all bt_all (zA (yP ["one"] ["sides"] [0] (yE (zS ix_tup (pv 1) zE (fun _ _ => rfl))) (fun _ _ _ _ nd => zP (i := 0) nd rfl (Or.inl rfl)) (fun _ _ _ _ => yI) (fun _ _ _ _ => (zK h_x (hr.mono (by omega)) rfl (zA (pv 1) (zA (pv 0) pa_nil))))) pa_nil)))))), ?_⟩
 obtain ⟨ra, l, sv, vs, rfl, hra, hl, hps, hs2⟩ := RAt.out hv
 have hvl : vs.length = r.1.length := SAts.length hps
 have hrl := hy.1
 refine zH fun N hN => ?_
 simp! []
 refine ⟨_, SqT.of hra, sv, at1, d, sv, r.2, kvs, L, rfl, hs2, hd, hy.2.2, fun H1 s1 => ⟨_, rfl, ?_⟩⟩
 unfold fiB at q
 cases c1 : hoB L r.2 with
 | true =>
   rw [if_pos rfl]
   rw [c1, Bool.true_or] at q
   exact q _ s1
 | false =>
 rw [if_neg (by decide)]
 rw [c1, Bool.false_or] at q
 refine hN _ _ ?_
 clear hN
 simp! []
 refine ⟨_, SqT.of (s1 _ _ hra), .ref l, at0, l, rfl, ⟨_, SqL.of (s1 _ _ hl)⟩, ?_⟩
 refine yS (xs := vs) (fun i ys σ H' => Same H H' /\ ys = ((r.1.take i).map (hoB L)).map V.bl /\ ∃ o, σ = [o, some (V.ref d)]) ⟨s1, rfl, _, rfl⟩ (zI (by omega)) (fun i ys σ H' e => ?_) (fun i ys σ H' e => SqL.of (e.1 _ _ hl)) (fun i y ys σ H' C' hyy e hC => ?_) (fun ys σ H' e p3 hp3 => ?_)
 · rw [e.2.1, List.length_map, List.length_map, List.length_take]; omega
 · obtain ⟨es, rfl, o, rfl⟩ := e
   obtain ⟨pr, hpi, hy'⟩ := SAts.getV hps hyy
   obtain ⟨hil, hie⟩ := List.getElem?_eq_some_iff.mp hpi
   simp! []
   refine ⟨d, y, pr, kvs, L, rfl, DAt.same es hy', es _ _ hd, hy.2.1 pr (List.mem_of_getElem? hpi), fun H2 s2 => hC _ _ _ ⟨es.trans s2, ?_, _, rfl⟩⟩
   rw [List.take_succ_eq_append_getElem hil, hie, List.map_append, List.map_append]
   rfl
 obtain ⟨es, rfl, o, rfl⟩ := e
 rw [hvl, List.take_of_length_le (Nat.le_refl _)]
 refine ⟨p3, rfl, _, SqL.of zC, ?_⟩
 rw [show (r.1.map (hoB L)).all id = r.1.all (hoB L) by rw [List.all_map]; rfl]
 exact q _ (es.trans (zB hp3 _))
theorem uG (bi : Bi mg) (h_w : Has P w K mg base 22 "holds_by" ["truths", "saying"] spHy) (h_C : Has P w K mg base 23 "fits_by" ["truths", "rule"] spFy) (F : Fun K "is_open_by" "is_open_by" s_p f fd) : FnOk P w K mg base CX0 24 f fd ["truths", "book", "saying"] spOy := by
 refine F.ok sc_p (fun vs H Q E h => ?_) (fun cdv A outer s H vs Q E hr h => ?_)
 · obtain ⟨d, ba, v, bs, b, s, kvs, L, rfl, _⟩ := h
   rfl
 obtain ⟨d, ba, v, bs, b, sy, kvs, L, rfl, hba, hbs, hbl, hs, hd, hb, hy, q⟩ := h
 refine ⟨_, (zF (zL (pe_and (jA (zK h_w (hr.mono (by omega)) rfl (zA (pv 0) (zA (pv 2) pa_nil)))) (jU (zM call_all rfl bi.all bt_all (zA (yP ["rule"] ["truths"] [0] (yE (pv 1)) (fun _ _ _ _ nd => zP (i := 0) nd rfl (Or.inl rfl)) (fun _ _ _ _ => yI) (fun _ _ _ _ => (zK h_C (hr.mono (by omega)) rfl (zA (pv 1) (zA (pv 0) pa_nil))))) pa_nil)))))), ?_⟩
 have hvl : bs.length = b.length := RAts.length hbs
 simp! []
 refine ⟨d, v, sy, kvs, L, rfl, hs, hd, hy, fun H1 s1 => ⟨_, rfl, ?_⟩⟩
 unfold opB at q
 cases c1 : hoB L sy with
 | true =>
   rw [if_neg (by decide)]
   rw [c1] at q
   exact q _ s1
 | false =>
 rw [if_pos rfl]
 rw [c1] at q
 refine ⟨⟨_, SqL.of (s1 _ _ hba)⟩, ?_⟩
 refine yS (xs := bs) (fun i ys σ H' => Same H H' /\ ys = ((b.take i).map (fiB L)).map V.bl /\ ∃ o, σ = [o, some (V.ref d)]) ⟨s1, rfl, _, rfl⟩ (zI (by omega)) (fun i ys σ H' e => ?_) (fun i ys σ H' e => SqL.of (e.1 _ _ hba)) (fun i y ys σ H' C' hyy e hC => ?_) (fun ys σ H' e p3 hp3 => ?_)
 · rw [e.2.1, List.length_map, List.length_map, List.length_take]; omega
 · obtain ⟨es, rfl, o, rfl⟩ := e
   obtain ⟨r, hpi, hy'⟩ := RAts.getV hbs hyy
   obtain ⟨hil, hie⟩ := List.getElem?_eq_some_iff.mp hpi
   simp! []
   refine ⟨d, y, r, kvs, L, rfl, DAt.same es hy', es _ _ hd, hb r (List.mem_of_getElem? hpi), fun H2 s2 => hC _ _ _ ⟨es.trans s2, ?_, _, rfl⟩⟩
   rw [List.take_succ_eq_append_getElem hil, hie, List.map_append, List.map_append]
   rfl
 obtain ⟨es, rfl, o, rfl⟩ := e
 rw [hvl, List.take_of_length_le (Nat.le_refl _)]
 refine ⟨p3, rfl, _, SqL.of zC, ?_⟩
 rw [show (b.map (fiB L)).all id = b.all (fiB L) by rw [List.all_map]; rfl]
 exact q _ (es.trans (zB hp3 _))
end
abbrev s_r : Stmt := top 23
theorem sc_r : FnScope ["pick", "names", "one", "way", "other"] ["pick", "names"] (zG s_r) := ⟨rfl, rfl, rfl, by decide +kernel, rfl, by decide +kernel, by decide +kernel⟩
abbrev s_b : Stmt := top 24
theorem sc_b : FnScope ["pick", "names", "room"] ["pick", "names"] (zG s_b) := ⟨rfl, rfl, rfl, by decide +kernel, rfl, by decide +kernel, by decide +kernel⟩
abbrev s_z : Stmt := top 33
theorem sc_z : FnScope ["name", "side"] ["name", "side"] (zG s_z) := ⟨rfl, rfl, rfl, by decide +kernel, rfl, by decide +kernel, by decide +kernel⟩
def spSl : Sp := fun vs H Q _ => ∃ (c : Int) (na : Addr) (j : Nat) (zs : List Str), vs = [.int c, .ref na] /\ 0 <= c /\ Nms H na j zs /\ 1 <= j /\ j <= 5 /\ ∀ v t H', Same H H' -> TAt H' t v -> Fit 20 t -> wt t <= 4 -> (∀ x ∈ nms t, x ∈ zs) -> Q v H'
def Gs (zs : List Str) (p : Tm × Tm) : Prop := (Fit 20 p.1 /\ wt p.1 <= 4) /\ (Fit 20 p.2 /\ wt p.2 <= 4) /\ ∀ x ∈ nms p.1 ++ nms p.2, x ∈ zs
def spSs : Sp := fun vs H Q _ => ∃ (c : Int) (na : Addr) (j : Nat) (zs : List Str), vs = [.int c, .ref na] /\ 0 <= c /\ Nms H na j zs /\ 1 <= j /\ j <= 5 /\ ∀ v s H', Same H H' -> SAt H' s v -> Gs zs s -> Q v H'
section
variable {P : Program} {w : World} {K : PySem.W.Frag} {mg : Str -> Option Value} {base : Heap} {f : Addr} {fd : FuncData}
theorem ok_small (bi : Bi mg) (F : Fun K "_law_small" "_law_small" s_r f fd) : FnOk P w K mg base CX0 1 f fd ["pick", "names"] spSl := by
 refine F.ok sc_r (fun vs H Q E h => ?_) (fun cdv A outer s H vs Q E hr h => ?_)
 · obtain ⟨c, na, j, zs, rfl, _⟩ := h
   rfl
 obtain ⟨c, na, j, zs, rfl, hc, hnm, hj1, hj5, q⟩ := h
 refine ⟨_, (zD (zN (i := 2) sc_r.nd rfl (Or.inl rfl) (zY (zA zV (zA (zS ix_list (pv 1) (zJ op_mod (pv 0) (zM call_len rfl bi.len bt_len (zA (pv 1) pa_nil))) (fun _ _ => rfl)) pa_nil)))) (zD (zN (i := 3) sc_r.nd rfl (Or.inl rfl) (zJ op_mod (zJ op_fdiv (pv 0) (zM call_len rfl bi.len bt_len (zA (pv 1) pa_nil))) zE)) (zD (zN (i := 4) sc_r.nd rfl (Or.inl rfl) (zY (zA zV (zA (zS ix_list (pv 1) (zJ op_mod (zJ op_fdiv (zJ op_fdiv (pv 0) (zM call_len rfl bi.len bt_len (zA (pv 1) pa_nil))) zE) (zM call_len rfl bi.len bt_len (zA (pv 1) pa_nil))) (fun _ _ => rfl)) pa_nil)))) (zD (yC (zO op_eq (pv 3) zE (zR _)) (zF (zL (zY (zA zV (zA (pv 2) pa_nil))))) pss_nil) (zD (yC (zO op_eq (pv 3) zE (zR _)) (zF (zL (zY (zA zV pa_nil)))) pss_nil) (zD (yC (zO op_eq (pv 3) zE (zR _)) (zF (zL (zY (zA zV (zA (pv 2) (zA (pv 4) pa_nil)))))) pss_nil) (zD (yC (zO op_eq (pv 3) zE (zR _)) (zF (zL (zY (zA zV (zA (pv 4) (zA (zY (zA zV (zA (pv 2) pa_nil))) pa_nil)))))) pss_nil) (zD (yC (zO op_eq (pv 3) zE (zR _)) (zF (zL (zY (zA zV pa_nil)))) pss_nil) (zF (zL (pv 2))))))))))), ?_⟩
 have hjz := hnm.len
 have ix : ∀ c : Int, ∃ n, c % (zs.length : Int) = (n : Nat) /\ ∃ h : n < zs.length, atI (zs.map V.str) ((n : Nat) : Int) = some (V.str zs[n]) := fun c => by
   have h1 := Int.emod_nonneg c (b := (zs.length : Int)) (by omega)
   have h2 := Int.emod_lt_of_pos c (b := (zs.length : Int)) (by omega)
   have h3 : (c % (zs.length : Int)).toNat < zs.length := by omega
   exact ⟨(c % (zs.length : Int)).toNat, by omega, h3, xA (by rw [List.getElem?_map, List.getElem?_eq_getElem h3]; rfl)⟩
 refine zH fun N hN => ?_
 simp! []
 obtain ⟨n1, e1, hn1, ha1⟩ := ix c
 refine ⟨zs.length, .inl ⟨_, SqL.of hnm.lst, (List.length_map _).symm⟩, by omega, _, SqL.of hnm.lst, V.str zs[n1], by rw [e1]; exact ha1, zI (by decide), fun p1 hp1 => hN _ _ ?_⟩
 clear hN
 have s1 := zB hp1 (.tup [V.str "name", V.str zs[n1]])
 have t1 : TAt (upd H p1 (.tup [V.str "name", V.str zs[n1]])) (.name zs[n1]) (.ref p1) := TAt.mkName zC
 generalize upd H p1 (.tup [V.str "name", V.str zs[n1]]) = H1 at s1 t1 ⊢
 have hm1 : zs[n1] ∈ zs := List.getElem_mem hn1
 have hN1 := hnm.nm _ hm1
 generalize zs[n1] = y1 at t1 hm1 hN1
 refine zH fun N hN => ?_
 simp! []
 refine ⟨zs.length, .inl ⟨_, SqL.of (s1 _ _ hnm.lst), (List.length_map _).symm⟩, ?_⟩
 refine ⟨⟨by omega, by omega⟩, by decide, hN _ _ ?_⟩
 clear hN
 generalize c / (zs.length : Int) % 7 = way
 obtain ⟨n2, e2, hn2, ha2⟩ := ix (c / (zs.length : Int) / 7)
 refine zH fun N hN => ?_
 simp! []
 refine ⟨zs.length, .inl ⟨_, SqL.of (s1 _ _ hnm.lst), (List.length_map _).symm⟩, ⟨by omega, by omega⟩, ⟨by decide, by decide⟩, zs.length, .inl ⟨_, SqL.of (s1 _ _ hnm.lst), (List.length_map _).symm⟩, by omega, _, SqL.of (s1 _ _ hnm.lst), V.str zs[n2], by rw [e2]; exact ha2, zI (by decide), fun p2 hp2 => hN _ _ ?_⟩
 clear hN
 have s2 := zB hp2 (.tup [V.str "name", V.str zs[n2]])
 have t2 : TAt (upd H1 p2 (.tup [V.str "name", V.str zs[n2]])) (.name zs[n2]) (.ref p2) := TAt.mkName zC
 replace t1 := TAt.tups s2.tups t1
 replace s2 := s1.trans s2
 generalize upd H1 p2 (.tup [V.str "name", V.str zs[n2]]) = H2 at s2 t2 t1 ⊢
 have hm2 : zs[n2] ∈ zs := List.getElem_mem hn2
 have hN2 := hnm.nm _ hm2
 generalize zs[n2] = y2 at t2 hm2 hN2
 have f1 : Fit 0 (.name y1) := hN1
 have f2 : Fit 0 (.name y2) := hN2
 have done : ∀ {J : Hp} {v : V} {t : Tm}, Same H2 J -> TAt J t v -> Fit 2 t -> wt t <= 4 -> (∀ x ∈ nms t, x = y1 \/ x = y2) -> Q v J := fun sJ ht hf hw hn => q _ _ _ (s2.trans sJ) ht (hf.mono (by omega)) hw fun x hx => (hn x hx).elim (fun e => e ▸ hm1) fun e => e ▸ hm2
 refine zH fun N hN => ?_
 simp! []
 refine ⟨rfl, ?_⟩
 by_cases c2 : way = 2
 · rw [if_pos c2]
   refine ⟨zI (by decide), fun p hp => done (zB hp _) (TAt.mkNode (w := "not") (ts := [.name y1]) (vs := [.ref p1]) zC (TAts.one (TAt.tups (zB hp _).tups t1))) ?_ ?_ ?_⟩
   · exact ⟨.inr (.inr (.inl ⟨rfl, rfl⟩)), fun t ht => by rw [List.mem_singleton.mp ht]; exact f1.mono (by omega)⟩
   · simp [wt, wts]
   · intro x hx; simp [nms, nmss] at hx; exact .inl hx
 rw [if_neg c2]
 refine hN _ _ ?_
 clear hN
 refine zH fun N hN => ?_
 simp! []
 refine ⟨rfl, ?_⟩
 by_cases c3 : way = 3
 · rw [if_pos c3]
   refine ⟨zI (by decide), fun p hp => done (zB hp _) (TAt.mkNode (w := "none") (ts := []) (vs := []) zC rfl) ?_ ?_ ?_⟩
   · exact ⟨.inl ⟨rfl, rfl⟩, fun t ht => by cases ht⟩
   · simp [wt, wts]
   · intro x hx; simp [nms, nmss] at hx
 rw [if_neg c3]
 refine hN _ _ ?_
 clear hN
 refine zH fun N hN => ?_
 simp! []
 refine ⟨rfl, ?_⟩
 by_cases c4 : way = 4
 · rw [if_pos c4]
   refine ⟨zI (by decide), fun p hp => done (zB hp _) (TAt.mkNode (w := "both") (ts := [.name y1, .name y2]) (vs := [.ref p1, .ref p2]) zC (TAts.append (TAts.one (TAt.tups (zB hp _).tups t1)) (TAts.one (TAt.tups (zB hp _).tups t2)))) ?_ ?_ ?_⟩
   · refine ⟨.inr (.inr (.inr (.inl ⟨rfl, by simp⟩))), fun t ht => ?_⟩
     simp only [List.mem_cons, List.not_mem_nil, or_false] at ht
     rcases ht with rfl | rfl
     · exact f1.mono (by omega)
     · exact f2.mono (by omega)
   · simp [wt, wts]
   · intro x hx; simp [nms, nmss] at hx; exact hx
 rw [if_neg c4]
 refine hN _ _ ?_
 clear hN
 refine zH fun N hN => ?_
 simp! []
 refine ⟨rfl, ?_⟩
 by_cases c5 : way = 5
 · rw [if_pos c5]
   refine ⟨zI (by decide), fun p hp => ⟨zI (by decide), fun p' hp' => ?_⟩⟩
   have sn := (zB hp (.tup [V.str "not", V.ref p1])).trans (zB hp' (.tup [V.str "either", V.ref p2, V.ref p]))
   refine done sn (TAt.mkNode (w := "either") (ts := [.name y2, .node "not" [.name y1]]) (vs := [.ref p2, .ref p]) zC (TAts.append (TAts.one (TAt.tups sn.tups t2)) (TAts.one (TAt.mkNode (w := "not") (ts := [.name y1]) (vs := [.ref p1]) (zB hp' _ _ _ zC) (TAts.one (TAt.tups sn.tups t1)))))) ?_ ?_ ?_
   · refine ⟨.inr (.inr (.inr (.inr ⟨rfl, by simp⟩))), fun t ht => ?_⟩
     simp only [List.mem_cons, List.not_mem_nil, or_false] at ht
     rcases ht with rfl | rfl
     · exact f2.mono (by omega)
     · exact ⟨.inr (.inr (.inl ⟨rfl, rfl⟩)), fun t ht => by rw [List.mem_singleton.mp ht]; exact f1⟩
   · simp [wt, wts]
   · intro x hx; simp [nms, nmss] at hx; exact hx.symm
 rw [if_neg c5]
 refine hN _ _ ?_
 clear hN
 refine zH fun N hN => ?_
 simp! []
 refine ⟨rfl, ?_⟩
 by_cases c6 : way = 6
 · rw [if_pos c6]
   refine ⟨zI (by decide), fun p hp => done (zB hp _) (TAt.mkNode (w := "all") (ts := []) (vs := []) zC rfl) ?_ ?_ ?_⟩
   · exact ⟨.inr (.inl ⟨rfl, rfl⟩), fun t ht => by cases ht⟩
   · simp [wt, wts]
   · intro x hx; simp [nms, nmss] at hx
 rw [if_neg c6]
 refine hN _ _ ?_
 clear hN
 simp! []
 refine done (Same.refl _) t1 (f1.mono (by omega)) (by rw [wt]; omega) fun x hx => ?_
 rw [nms, List.mem_singleton] at hx
 exact .inl hx
theorem qB (bi : Bi mg) (h_r : Has P w K mg base 1 "_law_small" ["pick", "names"] spSl) (F : Fun K "_law_small_saying" "_law_small_saying" s_b f fd) : FnOk P w K mg base CX0 2 f fd ["pick", "names"] spSs := by
 refine F.ok sc_b (fun vs H Q E h => ?_) (fun cdv A outer s H vs Q E hr h => ?_)
 · obtain ⟨c, na, j, zs, rfl, _⟩ := h
   rfl
 obtain ⟨c, na, j, zs, rfl, hc, hnm, hj1, hj5, q⟩ := h
 refine ⟨_, (zD (zN (i := 2) sc_b.nd rfl (Or.inl rfl) (zJ op_mul (zJ op_mul zE (zM call_len rfl bi.len bt_len (zA (pv 1) pa_nil))) (zM call_len rfl bi.len bt_len (zA (pv 1) pa_nil)))) (zF (zL (zY (zA (zK h_r (hr.mono (by omega)) rfl (zA (zJ op_mod (pv 0) (pv 2)) (zA (pv 1) pa_nil))) (zA (zK h_r (hr.mono (by omega)) rfl (zA (zJ op_fdiv (pv 0) (pv 2)) (zA (pv 1) pa_nil))) pa_nil)))))), ?_⟩
 have hjz := hnm.len
 refine zH fun N hN => ?_
 simp! []
 refine ⟨zs.length, .inl ⟨_, SqL.of hnm.lst, (List.length_map _).symm⟩, .inl ⟨by decide, by decide⟩, zs.length, .inl ⟨_, SqL.of hnm.lst, (List.length_map _).symm⟩, .inr ⟨by omega, by omega⟩, hN _ _ ?_⟩
 clear hN
 have hroom : 0 < 7 * (zs.length : Int) * (zs.length : Int) /\ 7 * (zs.length : Int) * (zs.length : Int) < 1000 := by
   rw [hjz]
   match j, hj1, hj5 with
   | 1, _, _ => decide
   | 2, _, _ => decide
   | 3, _, _ => decide
   | 4, _, _ => decide
   | 5, _, _ => decide
 generalize 7 * (zs.length : Int) * (zs.length : Int) = room at hroom ⊢
 simp! []
 refine ⟨by omega, _, na, j, zs, rfl, Int.emod_nonneg _ (by omega), hnm, hj1, hj5, fun v1 t1 H1 s1 h1 f1 w1 n1 => ?_⟩
 refine ⟨⟨by omega, by omega⟩, _, na, j, zs, rfl, Int.ediv_nonneg hc (by omega), hnm.same s1, hj1, hj5, fun v2 t2 H2 s2 h2 f2 w2 n2 => ⟨zI (by decide), fun p hp => ?_⟩⟩
 have s3 := zB hp (.tup [v1, v2])
 exact q (.ref p) (t1, t2) _ ((s1.trans s2).trans s3) ⟨p, _, rfl, zC, _, _, rfl, TAt.tups (s2.trans s3).tups h1, _, _, rfl, TAt.tups s3.tups h2, rfl⟩ ⟨⟨f1, w1⟩, ⟨f2, w2⟩, fun x hx => (List.mem_append.mp hx).elim (n1 x) (n2 x)⟩
end
abbrev s_c : Stmt := top 25
theorem sc_c : FnScope ["cell", "names", "rest", "room", "one", "premises", "k"] ["cell", "names"] (zG s_c) := ⟨rfl, rfl, rfl, by decide +kernel, rfl, by decide +kernel, by decide +kernel⟩
theorem SAt.tups {H H' : Hp} (e : TupSame H H') {p : Tm × Tm} {v : V} (h : SAt H p v) : SAt H' p v := by
 obtain ⟨a, v1, v2, rfl, ha, h1, h2⟩ := SAt.out h
 exact ⟨a, _, rfl, e _ _ ha, _, _, rfl, TAt.tups e h1, _, _, rfl, TAt.tups e h2, rfl⟩
theorem SAts.tups {H H' : Hp} (e : TupSame H H') : ∀ {ps : List (Tm × Tm)} {vs : List V}, SAts H ps vs -> SAts H' ps vs
 | [], vs, h => h
 | p :: ps, vs, h => by
   obtain ⟨v, r, rfl, h1, h2⟩ := h
   exact ⟨v, r, rfl, SAt.tups e h1, SAts.tups e h2⟩
def Gr (zs : List Str) (r : Rul) : Prop := r.1.length <= 5 /\ (∀ p ∈ r.1, Gs zs p) /\ Gs zs r.2
def RuF (H H' : Hp) (r : Rul) (v : V) : Prop := ∃ (ra la : Addr) (sv : V) (vs : List V), v = .ref ra /\ H' ra = some (.tup [.ref la, sv]) /\ H la = none /\ H' la = some (.lst vs) /\ SAts H' r.1 vs /\ SAt H' r.2 sv
def spSr : Sp := fun vs H Q _ => ∃ (c : Int) (na : Addr) (j : Nat) (zs : List Str), vs = [.int c, .ref na] /\ Nms H na j zs /\ 1 <= j /\ j <= 5 /\ ∀ v r H', Same H H' -> RuF H H' r v -> Gr zs r -> Q v H'
def spSi : Sp := fun vs H Q _ => ∃ (x : Str) (b : Bool), vs = [.str x, .bl b] /\ Nm x /\ ∀ v s H', Same H H' -> SAt H' s v -> Gs [x] s -> Q v H'
section
variable {P : Program} {w : World} {K : PySem.W.Frag} {mg : Str -> Option Value} {base : Heap} {f : Addr} {fd : FuncData}
theorem ok_side (bi : Bi mg) (F : Fun K "_law_side" "_law_side" s_z f fd) : FnOk P w K mg base CX0 1 f fd ["name", "side"] spSi := by
 refine F.ok sc_z (fun vs H Q E h => ?_) (fun cdv A outer s H vs Q E hr h => ?_)
 · obtain ⟨x, b, rfl, _⟩ := h
   rfl
 obtain ⟨x, b, rfl, hx, q⟩ := h
 refine ⟨_, (zD (yC (jT (pv 1)) (zF (zL (zY (zA (zY (zA zV pa_nil)) (zA (zY (zA zV (zA (pv 0) pa_nil))) pa_nil))))) pss_nil) (zF (zL (zY (zA (zY (zA zV (zA (pv 0) pa_nil))) (zA (zY (zA zV pa_nil)) pa_nil)))))), ?_⟩
 have fx : Fit 20 (.name x) := Fit.mono (n := 0) hx (by omega)
 have fall : Fit 20 (.node "all" []) := Fit.mono (n := 0) ⟨.inr (.inl ⟨rfl, rfl⟩), rfl⟩ (by omega)
 have fnon : Fit 20 (.node "none" []) := Fit.mono (n := 0) ⟨.inl ⟨rfl, rfl⟩, rfl⟩ (by omega)
 refine zH fun N hN => ?_
 simp! []
 cases b with
 | true =>
   rw [if_pos rfl]
   refine ⟨zI (by decide), fun p1 h1 => ⟨zI (by decide), fun p2 h2 => ⟨zI (by decide), fun p3 h3 => ?_⟩⟩⟩
   have s3 := zB h3 (.tup [V.ref p1, V.ref p2])
   have s23 := (zB h2 (.tup [V.str "name", V.str x])).trans s3
   refine q (.ref p3) (.node "all" [], .name x) _ ((zB h1 _).trans s23) ⟨p3, _, rfl, zC, _, _, rfl, TAt.mkNode (ts := []) (vs := []) (s23 _ _ zC) rfl, _, _, rfl, TAt.mkName (s3 _ _ zC), rfl⟩ ⟨⟨fall, by simp [wt, wts]⟩, ⟨fx, by simp [wt]⟩, fun z hz => by simpa [nms, nmss] using hz⟩
 | false =>
   rw [if_neg (by decide)]
   refine hN _ _ ?_
   clear hN
   simp! []
   refine ⟨zI (by decide), fun p1 h1 => ⟨zI (by decide), fun p2 h2 => ⟨zI (by decide), fun p3 h3 => ?_⟩⟩⟩
   have s3 := zB h3 (.tup [V.ref p1, V.ref p2])
   have s23 := (zB h2 (.tup [V.str "none"])).trans s3
   refine q (.ref p3) (.name x, .node "none" []) _ ((zB h1 _).trans s23) ⟨p3, _, rfl, zC, _, _, rfl, TAt.mkName (s23 _ _ zC), _, _, rfl, TAt.mkNode (ts := []) (vs := []) (s3 _ _ zC) rfl, rfl⟩ ⟨⟨fx, by simp [wt]⟩, ⟨fnon, by simp [wt, wts]⟩, fun z hz => by simpa [nms, nmss] using hz⟩
theorem uE (bi : Bi mg) (h_b : Has P w K mg base 2 "_law_small_saying" ["pick", "names"] spSs) (F : Fun K "_law_small_rule" "_law_small_rule" s_c f fd) : FnOk P w K mg base CX0 3 f fd ["cell", "names"] spSr := by
 refine F.ok sc_c (fun vs H Q E h => ?_) (fun cdv A outer s H vs Q E hr h => ?_)
 · obtain ⟨c, na, j, zs, rfl, _⟩ := h
   rfl
 obtain ⟨c, na, j, zs, rfl, hnm, hj1, hj5, q⟩ := h
 refine ⟨_, (zD (zN (i := 2) sc_c.nd rfl (Or.inl rfl) (zJ op_mod (zJ op_mul (pv 0) zE) (zJ op_pow zE zE))) (zD (zN (i := 3) sc_c.nd rfl (Or.inl rfl) (zJ op_mul zE (zJ op_pow (zM call_len rfl bi.len bt_len (zA (pv 1) pa_nil)) zE))) (zD (zN (i := 4) sc_c.nd rfl (Or.inl rfl) (zK h_b (hr.mono (by omega)) rfl (zA (zJ op_mod (pv 2) (pv 3)) (zA (pv 1) pa_nil)))) (zD (zN (i := 2) sc_c.nd rfl (Or.inl rfl) (zJ op_fdiv (pv 2) (pv 3))) (zD (zN (i := 5) sc_c.nd rfl (Or.inl rfl) (zZ pa_nil)) (zD (yK PassesOwn.never rfl (xD rfl bi.range (zA (zJ op_mod (pv 2) zE) pa_nil)) (zP (i := 6) sc_c.nd rfl (Or.inl rfl)) (zD (zN (i := 2) sc_c.nd rfl (Or.inl rfl) (zJ op_fdiv (pv 2) zE)) (zD (yW (xX PySem.F.plainAttrs_list PySem.F.slot_list_append PySem.F.type_list_append mt_append (pv 5) (zA (zK h_b (hr.mono (by omega)) rfl (zA (zJ op_mod (pv 2) (pv 3)) (zA (pv 1) pa_nil))) pa_nil))) (zF (zN (i := 2) sc_c.nd rfl (Or.inl rfl) (zJ op_fdiv (pv 2) (pv 3))))))) (zF (zL (zY (zA (pv 5) (zA (pv 4) pa_nil))))))))))), ?_⟩
 have hjz := hnm.len
 refine zH fun N hN => ?_
 simp! []
 refine ⟨.inr ⟨by decide, by decide⟩, ⟨by decide, by decide, by decide⟩, by decide, hN _ _ ?_⟩
 clear hN
 have hr0 : 0 <= c * 982451653 % 2 ^ Int.toNat 61 := Int.emod_nonneg _ (by decide)
 generalize c * 982451653 % 2 ^ Int.toNat 61 = rest at hr0 ⊢
 refine zH fun N hN => ?_
 simp! []
 refine ⟨zs.length, .inl ⟨_, SqL.of hnm.lst, (List.length_map _).symm⟩, ⟨by decide, by decide, by omega⟩, .inl ⟨by decide, by decide⟩, hN _ _ ?_⟩
 clear hN
 have hroom : 0 < 49 * (zs.length : Int) ^ Int.toNat 4 /\ 49 * (zs.length : Int) ^ Int.toNat 4 < 100000 := by
   rw [hjz]
   match j, hj1, hj5 with
   | 1, _, _ => decide
   | 2, _, _ => decide
   | 3, _, _ => decide
   | 4, _, _ => decide
   | 5, _, _ => decide
 generalize 49 * (zs.length : Int) ^ Int.toNat 4 = room at hroom ⊢
 refine zH fun N hN => ?_
 simp! []
 refine ⟨by omega, _, na, j, zs, rfl, Int.emod_nonneg _ (by omega), hnm, hj1, hj5, fun v1 s1 H1 e1 h1 g1 => hN _ _ ?_⟩
 clear hN
 refine zH fun N hN => ?_
 simp! []
 refine ⟨⟨by omega, by omega⟩, hN _ _ ?_⟩
 clear hN
 have hr1 : 0 <= rest / room := Int.ediv_nonneg hr0 (by omega)
 generalize rest / room = r1 at hr1 ⊢
 refine zH fun N hN => ?_
 simp! []
 refine ⟨zI (by decide), fun pa hpa => hN _ _ ?_⟩
 clear hN
 refine zW (fun σ H' => ∃ (us : List V) (prs : List (Tm × Tm)) (o1 o2 : Option V), Same H1 H' /\ H' pa = some (.lst us) /\ SAts H' prs us /\ prs.length <= 5 /\ (∀ p ∈ prs, Gs zs p) /\ σ = [some (V.int c), some (V.ref na), o1, some (V.int room), some v1, some (V.ref pa), o2]) (fun N hN => ?_) (fun σ H' h => ?_)
 · simp! []
   refine ⟨by decide, by omega, by omega, ?_⟩
   refine xH (n := (r1 % 3).toNat) (fun i σ H' => ∃ (us : List V) (prs : List (Tm × Tm)) (r : Int) (o2 : Option V), 0 <= r /\ Same H1 H' /\ H' pa = some (.lst us) /\ SAts H' prs us /\ prs.length = i /\ (∀ p ∈ prs, Gs zs p) /\ σ = [some (V.int c), some (V.ref na), some (V.int r), some (V.int room), some v1, some (V.ref pa), o2]) ⟨[], [], r1, _, hr1, zB hpa _, zC, rfl, rfl, (fun p hp => by cases hp), rfl⟩ (fun i σ H' hi h => ?_) (fun σ H' h => ?_)
   · obtain ⟨us, prs, r, o2, hr2, es, kpa, hps, hpl, hpg, rfl⟩ := h
     refine zH fun N hN => ?_
     simp! []
     refine ⟨⟨by decide, by decide⟩, hN _ _ ?_⟩
     clear hN
     have hr3 : 0 <= r / 3 := by omega
     generalize r / 3 = r3 at hr3 ⊢
     refine zH fun N hN => ?_
     simp! []
     refine ⟨.inl ⟨rfl, _, SqL.of kpa⟩, by omega, _, na, j, zs, rfl, Int.emod_nonneg _ (by omega), hnm.same (e1.trans es), hj1, hj5, fun v2 s2 H2 e2 h2 g2 => ?_⟩
     have kpa2 := e2 _ _ kpa
     have tsm : TupSame H2 (upd H2 pa (.lst (us ++ [v2]))) := fun b xs h => by
       rw [zU (fun z => by rw [z, kpa2] at h; cases h)]
       exact h
     have hul : us.length = prs.length := SAts.length hps
     refine ⟨us, kpa2, Nat.lt_of_lt_of_le (show us.length < 64 by omega) (zI (by decide)), hN _ _ ?_⟩
     clear hN
     simp! []
     refine ⟨⟨by omega, by omega⟩, ?_⟩
     have hr4 : 0 <= r3 / room := Int.ediv_nonneg hr3 (by omega)
     refine ⟨us ++ [v2], prs ++ [s2], r3 / room, hr4, (es.trans e2).upd hpa, zC, ?_, by rw [List.length_append, hpl]; rfl, fun p hp => ?_, rfl, _, rfl⟩
     · unfold SAts
       rw [List.map_append]
       exact DAts.append (SAts.tups tsm (SAts.tups e2.tups hps)) (DAts.one (SAt.tups tsm h2))
     · rcases List.mem_append.mp hp with hp | hp
       · exact hpg p hp
       · rw [List.mem_singleton.mp hp]; exact g2
   · obtain ⟨us, prs, r, o2, hr2, es, kpa, hps, hpl, hpg, rfl⟩ := h
     exact hN _ _ ⟨us, prs, _, _, es, kpa, hps, by omega, hpg, rfl⟩
 obtain ⟨us, prs, o1, o2, es, kpa, hps, hpl, hpg, rfl⟩ := h
 simp! []
 refine ⟨zI (by decide), fun p hp => ?_⟩
 have sp := zB hp (.tup [V.ref pa, v1])
 exact q (.ref p) (prs, s1) _ ((e1.trans es).trans sp) ⟨p, pa, v1, us, rfl, zC, e1.free hpa, sp _ _ kpa, DAts.same sp hps, DAt.same (es.trans sp) h1⟩ ⟨hpl, hpg, g1⟩
end
abbrev s_k : Stmt := top 31
theorem sc_k : FnScope ["t", "found", "part"] ["t"] (zG s_k) := ⟨rfl, rfl, rfl, by decide +kernel, rfl, by decide +kernel, by decide +kernel⟩
def spLg : Nat -> Sp
 | 0 => fun _ _ _ _ => False
 | n + 1 => fun vs H Q _ => ∃ (v : V) (t : Tm), vs = [v] /\ TAt H t v /\ Fit n t /\ wt t <= 900 /\ ∀ p H', Same H H' -> H' p = some (.lst ((nms t).map V.str)) -> Q (.ref p) H'
section
variable {P : Program} {w : World} {K : PySem.W.Frag} {mg : Str -> Option Value} {base : Heap} {f : Addr} {fd : FuncData}
theorem ok_gather (bi : Bi mg) (F : Fun K "_law_gather" "_law_gather" s_k f fd) (b : Binds K fd ["t"] []) (m : mg "_law_gather" = some (.ref f)) : ∀ n, FnOk P w K mg base CX0 n f fd ["t"] (spLg n) := by
 refine qO F b m (fun vs H Q E h => h) (fun n h_k => ?_)
 refine F.ok sc_k (fun vs H Q E h => ?_) (fun cdv A outer s H vs Q E hr h => ?_)
 · obtain ⟨v, t, rfl, _⟩ := h
   rfl
 obtain ⟨v, t, rfl, ht, hf, hw, q⟩ := h
 refine ⟨_, (zD (yC (zO op_eq (zS ix_tup (pv 0) zE (fun _ _ => rfl)) zV (zR _)) (zF (zL (zZ (zA (zS ix_tup (pv 0) zE (fun _ _ => rfl)) pa_nil)))) pss_nil) (zD (zN (i := 1) sc_k.nd rfl (Or.inl rfl) (zZ pa_nil)) (zD (yK PassesOwn.never rfl (qP (yJ sl_tup (pv 0) (yO zE) po_none)) (zP (i := 2) sc_k.nd rfl (Or.inl rfl)) (zF (zN (i := 1) sc_k.nd rfl (Or.inl rfl) (zJ op_cat (pv 1) (zK h_k hr rfl (zA (pv 2) pa_nil)))))) (zF (zL (pv 1)))))), ?_⟩
 cases t with
 | name y =>
   obtain ⟨a, rfl, ha⟩ := TAt.name ht
   simp! []
   refine ⟨_, SqT.of ha, .str "name", at0, rfl, ?_⟩
   rw [if_pos rfl]
   refine ⟨_, SqT.of ha, .str y, at1, zI (by decide), fun p hp => q p _ (zB hp _) ?_⟩
   rw [zC, nms]
   rfl
 | node wd ts =>
   obtain ⟨a, us, rfl, ha, hu⟩ := TAt.node ht
   have hwd := hf.wrd
   have hl := hu.length
   have hll := wts_len ts
   have hnl := nmss_len ts
   rw [wt] at hw
   rw [nms] at q
   refine zH fun N hN => ?_
   simp! []
   refine ⟨_, SqT.of ha, .str wd, at0, rfl, ?_⟩
   rw [if_neg (fun z => hwd.ne (V.str.inj z))]
   refine hN _ _ ?_
   clear hN
   refine zH fun N hN => ?_
   simp! []
   refine ⟨zI (by decide), fun p0 hp0 => hN _ _ ?_⟩
   clear hN
   have s0 := zB hp0 (.lst [])
   have k0 : upd H p0 (.lst []) p0 = some (.lst []) := zC
   generalize upd H p0 (.lst []) = H0 at s0 k0 ⊢
   refine zW (fun σ H' => ∃ (p : Addr) (o : Option V), Same H H' /\ H' p = some (.lst ((nmss ts).map V.str)) /\ σ = [some (V.ref a), some (V.ref p), o]) (fun N hN => ?_) (fun σ H' h => ?_)
   · simp! []
     refine ⟨_, SqT.of (s0 _ _ ha), yR _ _, fun p2 hp2 => ?_⟩
     rw [jN]
     have s2 := s0.trans (zB hp2 (.tup us))
     have k2 : upd H0 p2 (.tup us) p2 = some (.tup us) := zC
     replace k0 := zB hp2 (.tup us) _ _ k0
     generalize upd H0 p2 (.tup us) = H2 at s2 k2 k0 ⊢
     refine ⟨⟨_, SqT.of k2⟩, ?_⟩
     refine fw_tup (xs := us) (fun i σ H' => ∃ (p : Addr) (o : Option V), Same H2 H' /\ H' p = some (.lst ((nmss (ts.take i)).map V.str)) /\ σ = [some (V.ref a), some (V.ref p), o]) ⟨p0, _, Same.refl _, k0, rfl⟩ (fun i σ H' _ h => by obtain ⟨_, _, e, _⟩ := h; exact SqT.of (e _ _ k2)) (fun i x σ H' hx h => ?_) (fun σ H' h => ?_)
     · obtain ⟨p, o, es, kp, rfl⟩ := h
       obtain ⟨t, ht', hx'⟩ := hu.getV hx
       cases n with
       | zero => have := hf.2; subst this; simp at ht'
       | succ n =>
         have hm := List.mem_of_getElem? ht'
         have hmt := wts_mem hm
         have s3 := s2.trans es
         simp! [spLg]
         have hn1 := nms_len t
         have hnT : (nmss (ts.take i)).length <= (nmss ts).length := by
           have e : nmss ts = nmss (ts.take i) ++ nmss (ts.drop i) := by rw [← nmss_app, List.take_append_drop]
           rw [e, List.length_append]
           omega
         refine ⟨t, TAt.tups s3.tups hx', hf.part hm, by omega, fun p1 H3 s4 k4 => ⟨_, s4 _ _ kp, _, k4, Nat.le_trans (m := 1000000) (by rw [List.length_map, List.length_map]; omega) (by decide), fun p3 hp3 => ⟨(es.trans s4).trans (zB hp3 _), p3, ?_, rfl, _, rfl⟩⟩⟩
         rw [zC, jV ht', List.map_append]
     · obtain ⟨p, o, es, kp, rfl⟩ := h
       rw [show ts.take us.length = ts from List.take_of_length_le (by omega)] at kp
       exact hN _ _ ⟨p, o, s2.trans es, kp, rfl⟩
   obtain ⟨p, o, es, kp, rfl⟩ := h
   simp! []
   exact q p _ es kp
end
abbrev s_j : Stmt := top 15
theorem sc_j : FnScope ["names", "readings", "name", "longer", "reading"] ["names"] (zG s_j) := ⟨rfl, rfl, rfl, by decide +kernel, rfl, by decide +kernel, by decide +kernel⟩
def rdg (zs : List Str) : List (List (Str × Bool)) := zs.foldl (fun rs z => rs.flatMap fun r => [r ++ [(z, false)], r ++ [(z, true)]]) [[]]
def dPb (p : Str × Bool) : Dt := .tup [.str p.1, .bl p.2]
def dRd (r : List (Str × Bool)) : Dt := .lst (r.map dPb)
def spRo : Sp := fun vs H Q _ => ∃ (na : Addr) (zs : List Str), vs = [.ref na] /\ H na = some (.lst (zs.map V.str)) /\ zs.length <= 5 /\ ∀ p us H', Same H H' -> H' p = some (.lst us) -> DAts H' ((rdg zs).map dRd) us -> Q (.ref p) H'
structure Ov (H J : Hp) (lg : Addr) (us : List V) : Prop where
 eq : H = upd J lg (.lst us)
 no : J lg = none
theorem Ov.at {H J : Hp} {lg : Addr} {us : List V} (h : Ov H J lg us) : H lg = some (.lst us) := by rw [h.eq]; exact zC
theorem Ov.sub {H J : Hp} {lg : Addr} {us : List V} (h : Ov H J lg us) : Same J H := by rw [h.eq]; exact zB h.no _
theorem Ov.ne {H J : Hp} {lg p : Addr} {us : List V} (h : Ov H J lg us) (hp : H p = none) : p ≠ lg := fun z => by
 rw [z, h.at] at hp
 cases hp
theorem Ov.free {H J : Hp} {lg p : Addr} {us : List V} (h : Ov H J lg us) (hp : H p = none) : J p = none := h.sub.free hp
theorem Ov.new {H J : Hp} {lg p : Addr} {us : List V} (h : Ov H J lg us) (hp : H p = none) (o : HO) : Ov (upd H p o) (upd J p o) lg us := by
 have hne := h.ne hp
 refine ⟨?_, by rw [zU (Ne.symm hne)]; exact h.no⟩
 rw [h.eq]
 funext b
 by_cases h1 : b = p
 · subst h1
   rw [zC, zU hne, zC]
 · rw [zU h1]
   by_cases h2 : b = lg
   · subst h2
     rw [zC, zC]
   · rw [zU h2, zU h2, zU h1]
theorem Ov.set {H J : Hp} {lg : Addr} {us : List V} (h : Ov H J lg us) (vs : List V) : Ov (upd H lg (.lst vs)) J lg vs := ⟨by rw [h.eq, upd_upd], h.no⟩
theorem Ov.mk0 {H : Hp} {lg : Addr} (h : H lg = none) : Ov (upd H lg (.lst [])) H lg [] := ⟨rfl, h⟩
theorem vG {α β : Type} (a b : α -> β) : ∀ rs : List α, (rs.flatMap fun r => [a r, b r]).length = 2 * rs.length
 | [] => rfl
 | r :: rs => by
   rw [List.flatMap_cons, List.length_append, vG a b rs]
   show 2 + 2 * rs.length = 2 * (rs.length + 1)
   omega
theorem rdg_lens : ∀ (zs : List Str) (rs : List (List (Str × Bool))) (n : Nat), (∀ r ∈ rs, r.length = n) -> (zs.foldl (fun rs z => rs.flatMap fun r => [r ++ [(z, false)], r ++ [(z, true)]]) rs).length = rs.length * 2 ^ zs.length /\ ∀ r ∈ zs.foldl (fun rs z => rs.flatMap fun r => [r ++ [(z, false)], r ++ [(z, true)]]) rs, r.length = n + zs.length
 | [], rs, n, h => ⟨by simp, fun r hr => by have := h r hr; simp [this]⟩
 | z :: zs, rs, n, h => by
   have := rdg_lens zs (rs.flatMap fun r => [r ++ [(z, false)], r ++ [(z, true)]]) (n + 1) fun r hr => by
     obtain ⟨r', hr', hm⟩ := List.mem_flatMap.mp hr
     simp only [List.mem_cons, List.not_mem_nil, or_false] at hm
     have := h r' hr'
     rcases hm with rfl | rfl <;> simp [this]
   refine ⟨?_, fun r hr => ?_⟩
   · rw [List.foldl_cons, this.1, vG, List.length_cons, Nat.pow_succ, Nat.mul_comm 2, Nat.mul_assoc, Nat.mul_comm 2]
   · rw [List.foldl_cons] at hr
     rw [this.2 r hr, List.length_cons]
     omega
theorem qJ {α : Type} {H : Hp} {f : α -> Dt} {xs : List α} {us : List V} {i : Nat} {v : V} (h : DAts H (xs.map f) us) (hv : us[i]? = some v) : ∃ x, xs[i]? = some x /\ DAt H (f x) v := by
 have hl := DAts.length h
 rw [List.length_map] at hl
 have hi : i < xs.length := by rw [← hl]; exact (List.getElem?_eq_some_iff.mp hv).1
 obtain ⟨u, h1, h2⟩ := DAts.get (d := f xs[i]) h (by rw [List.getElem?_map, List.getElem?_eq_getElem hi]; rfl)
 rw [hv] at h1
 cases h1
 exact ⟨_, List.getElem?_eq_getElem hi, h2⟩
section
variable {P : Program} {w : World} {K : PySem.W.Frag} {mg : Str -> Option Value} {base : Heap} {f : Addr} {fd : FuncData}
theorem qS (bi : Bi mg) (F : Fun K "readings_of" "readings_of" s_j f fd) : FnOk P w K mg base CX0 1 f fd ["names"] spRo := by
 refine F.ok sc_j (fun vs H Q E h => ?_) (fun cdv A outer s H vs Q E hr h => ?_)
 · obtain ⟨na, zs, rfl, _⟩ := h
   rfl
 obtain ⟨na, zs, rfl, hna, hzl, q⟩ := h
 refine ⟨_, (zD (zN (i := 1) sc_j.nd rfl (Or.inl rfl) (zZ (zA (zZ pa_nil) pa_nil))) (zD (yK PassesOwn.never rfl (yE (pv 0)) (zP (i := 2) sc_j.nd rfl (Or.inr rfl)) (zD (zN (i := 3) sc_j.nd rfl (Or.inl rfl) (zZ pa_nil)) (zD (yK PassesOwn.never rfl (yE (pv 1)) (zP (i := 4) sc_j.nd rfl (Or.inr rfl)) (zF (yW (xX PySem.F.plainAttrs_list PySem.F.slot_list_extend PySem.F.type_list_extend mt_extend (pv 3) (zA (yP ["truth"] ["reading", "name"] [4, 2] (qP (zY (zA yY (zA yY pa_nil)))) (fun _ _ _ _ nd => zP (i := 0) nd rfl (Or.inl rfl)) (fun _ _ _ _ => yI) (fun _ _ _ _ => (zJ op_cat (pv 1) (zZ (zA (zY (zA (pv 2) (zA (pv 0) pa_nil))) pa_nil))))) pa_nil))))) (zF (zN (i := 1) sc_j.nd rfl (Or.inl rfl) (pv 3)))))) (zF (zL (pv 1))))), ?_⟩
 refine zH fun N hN => ?_
 simp! []
 refine ⟨zI (by decide), fun e0 he0 => ⟨zI (by decide), fun r0 hr0 => hN _ _ ?_⟩⟩
 clear hN
 have s0 := (zB he0 (.lst [])).trans (zB hr0 (.lst [V.ref e0]))
 have k0 : upd (upd H e0 (.lst [])) r0 (.lst [V.ref e0]) r0 = some (.lst [V.ref e0]) := zC
 have d0 : DAts (upd (upd H e0 (.lst [])) r0 (.lst [V.ref e0])) ((rdg []).map dRd) [V.ref e0] := DAts.one ⟨e0, [], rfl, zB hr0 _ _ _ zC, rfl⟩
 generalize upd (upd H e0 (.lst [])) r0 (.lst [V.ref e0]) = H0 at s0 k0 d0 ⊢
 refine zW (fun σ H' => ∃ (p : Addr) (us : List V) (o1 o2 o3 : Option V), Same H H' /\ H' p = some (.lst us) /\ DAts H' ((rdg zs).map dRd) us /\ σ = [some (V.ref na), some (V.ref p), o1, o2, o3]) (fun N hN => ?_) (fun σ H' h => ?_)
 · simp! []
   refine ⟨⟨_, SqL.of (s0 _ _ hna)⟩, ?_⟩
   refine yX (xs := zs.map V.str) (fun i σ H' => ∃ (p : Addr) (us : List V) (o1 o2 o3 : Option V), Same H H' /\ H' p = some (.lst us) /\ DAts H' ((rdg (zs.take i)).map dRd) us /\ σ = [some (V.ref na), some (V.ref p), o1, o2, o3]) ⟨r0, _, _, _, _, s0, k0, d0, rfl⟩ (fun i σ H' _ h => by obtain ⟨_, _, _, _, _, e, _⟩ := h; exact SqL.of (e _ _ hna)) (fun i x σ H' hx h => ?_) (fun σ H' h => ?_)
   · obtain ⟨p, us, o1, o2, o3, es, kp, hd, rfl⟩ := h
     rw [List.getElem?_map] at hx
     obtain ⟨z, hz, rfl⟩ := Option.map_eq_some_iff.mp hx
     obtain ⟨hil, hie⟩ := List.getElem?_eq_some_iff.mp hz
     have hstep : rdg (zs.take (i + 1)) = (rdg (zs.take i)).flatMap fun r => [r ++ [(z, false)], r ++ [(z, true)]] := by
       rw [List.take_succ_eq_append_getElem hil, hie]
       unfold rdg
       rw [List.foldl_append]
       rfl
     refine zH fun N hN => ?_
     simp! []
     refine ⟨zI (by decide), fun lg hlg => hN _ _ ?_⟩
     clear hN
     have ov0 := Ov.mk0 hlg
     generalize upd H' lg (.lst []) = H1 at ov0 ⊢
     generalize hrs : rdg (zs.take i) = rs at hd hstep
     have hul : us.length = rs.length := by have := DAts.length hd; rwa [List.length_map] at this
     refine zW (fun σ H2 => ∃ (J : Hp) (vs : List V) (o : Option V), Ov H2 J lg vs /\ Same H' J /\ DAts J ((rs.flatMap fun r => [r ++ [(z, false)], r ++ [(z, true)]]).map dRd) vs /\ σ = [some (V.ref na), some (V.ref p), some (V.str z), some (V.ref lg), o]) (fun N hN => ?_) (fun σ H2 h => ?_)
     · simp! []
       refine ⟨⟨_, SqL.of (ov0.sub _ _ kp)⟩, ?_⟩
       refine yX (xs := us) (fun k σ H2 => ∃ (J : Hp) (vs : List V) (o : Option V), Ov H2 J lg vs /\ Same H' J /\ DAts J (((rs.take k).flatMap fun r => [r ++ [(z, false)], r ++ [(z, true)]]).map dRd) vs /\ σ = [some (V.ref na), some (V.ref p), some (V.str z), some (V.ref lg), o]) ⟨H', [], _, ov0, Same.refl _, rfl, rfl⟩ (fun k σ H2 _ h => by obtain ⟨J, _, _, ov, e, _⟩ := h; exact SqL.of (ov.sub _ _ (e _ _ kp))) (fun k y σ H2 hy h => ?_) (fun σ H2 h => ?_)
       · obtain ⟨J, vs, o, ov, eJ, hdJ, rfl⟩ := h
         simp! [rExtend]
         refine ⟨.inl ⟨rfl, _, SqL.of ov.at⟩, zI (by decide), fun tt htt => ?_⟩
         obtain ⟨r, hrk, hry⟩ := qJ hd hy
         obtain ⟨hkl, hke⟩ := List.getElem?_eq_some_iff.mp hrk
         obtain ⟨ya, wl, rfl, hya, hwl⟩ := hry
         have ov1 := ov.new htt (.tup [V.bl false, V.bl true])
         have eJ1 : Same H' (upd J tt (.tup [V.bl false, V.bl true])) := eJ.trans (zB (ov.free htt) _)
         have ktt : upd J tt (.tup [V.bl false, V.bl true]) tt = some (.tup [V.bl false, V.bl true]) := zC
         have hdJ1 := DAts.same (zB (ov.free htt) (.tup [V.bl false, V.bl true])) hdJ
         generalize upd J tt (.tup [V.bl false, V.bl true]) = J1 at ov1 eJ1 ktt hdJ1
         generalize upd H2 tt (.tup [V.bl false, V.bl true]) = H3 at ov1 ⊢
         have hvl : vs.length <= 2 * rs.length := by
           have := DAts.length hdJ
           rw [List.length_map, vG, List.length_take] at this
           omega
         have hwr : wl.length = r.length := by have := DAts.length hwl; rwa [List.length_map] at this
         have hln := rdg_lens (zs.take i) [[]] 0 fun r hr => by rw [List.mem_singleton.mp hr]; rfl
         have hti : (zs.take i).length <= 5 := by rw [List.length_take]; omega
         have hrl : r.length <= 5 := by
           have := hln.2 r (by rw [show List.foldl _ _ _ = rs from hrs]; exact List.mem_of_getElem? hrk)
           omega
         have hrsl : rs.length <= 32 := by
           have h1 := hln.1
           rw [show List.foldl _ _ _ = rs from hrs] at h1
           have h2 : 2 ^ (zs.take i).length <= 2 ^ 5 := Nat.pow_le_pow_right (by decide) hti
           rw [h1]
           simpa using h2
         refine ⟨⟨_, SqT.of (ov1.sub _ _ ktt)⟩, ?_⟩
         refine lc_tup (xs := [V.bl false, V.bl true]) (fun i ys σ H4 => ∃ J4, Ov H4 J4 lg vs /\ Same J1 J4 /\ DAts J4 (([r ++ [(z, false)], r ++ [(z, true)]].take i).map dRd) ys /\ ∃ o, σ = [o, some (V.ref ya), some (V.str z)]) ⟨J1, ov1, Same.refl _, rfl, _, rfl⟩ (zI (by decide)) (fun i ys σ H4 e => ?_) (fun i ys σ H4 e => ?_) (fun i x ys σ H4 C' hx e hC => ?_) (fun ys σ H4 e p3 hp3 => ?_)
         · obtain ⟨J4, _, _, hd4, _⟩ := e
           have := DAts.length hd4
           rw [List.length_map, List.length_take] at this
           omega
         · obtain ⟨J4, ov4, e4, _, _⟩ := e
           exact SqT.of (ov4.sub _ _ (e4 _ _ ktt))
         · obtain ⟨J4, ov4, e4, hd4, o', rfl⟩ := e
           obtain ⟨b, rfl, hb⟩ : ∃ b, x = V.bl b /\ [r ++ [(z, false)], r ++ [(z, true)]][i]? = some (r ++ [(z, b)]) := by
             match i, hx with
             | 0, hx => cases hx; exact ⟨false, rfl, rfl⟩
             | 1, hx => cases hx; exact ⟨true, rfl, rfl⟩
           obtain ⟨hbl, hbe⟩ := List.getElem?_eq_some_iff.mp hb
           have eH4 := eJ1.trans e4
           simp! []
           refine ⟨zI (by decide), fun t1 h1 => ⟨zI (by decide), fun l1 h2 => ?_⟩⟩
           have ov5 := (ov4.new h1 (.tup [V.str z, V.bl b])).new h2 (.lst [V.ref t1])
           have f1 := ov4.free h1
           have f2 := (ov4.new h1 (.tup [V.str z, V.bl b])).free h2
           have e5 := (zB f1 (.tup [V.str z, V.bl b])).trans (zB f2 (.lst [V.ref t1]))
           have k1 : upd (upd J4 t1 (.tup [V.str z, V.bl b])) l1 (.lst [V.ref t1]) t1 = some (.tup [V.str z, V.bl b]) := zB f2 _ _ _ zC
           have k2 : upd (upd J4 t1 (.tup [V.str z, V.bl b])) l1 (.lst [V.ref t1]) l1 = some (.lst [V.ref t1]) := zC
           generalize upd (upd J4 t1 (.tup [V.str z, V.bl b])) l1 (.lst [V.ref t1]) = J5 at ov5 e5 k1 k2
           generalize upd (upd H4 t1 (.tup [V.str z, V.bl b])) l1 (.lst [V.ref t1]) = H5 at ov5 ⊢
           refine ⟨_, ov5.sub _ _ (e5 _ _ (eH4 _ _ hya)), _, ov5.sub _ _ k2, zI (by rw [hwr]; simp only [List.length_cons, List.length_nil]; omega), fun l2 h3 => hC _ _ _ ⟨_, ov5.new h3 _, (e4.trans e5).trans (zB (ov5.free h3) _), ?_, _, rfl⟩⟩
           have e6 := zB (ov5.free h3) (.lst (wl ++ [V.ref t1]))
           rw [List.take_succ_eq_append_getElem hbl, hbe, List.map_append]
           refine DAts.append (DAts.same (e5.trans e6) hd4) (DAts.one ⟨l2, _, rfl, zC, ?_⟩)
           rw [List.map_append]
           exact DAts.append (DAts.same ((eH4.trans e5).trans e6) hwl) (DAts.one ⟨t1, _, rfl, e6 _ _ k1, _, _, rfl, rfl, _, _, rfl, rfl, rfl⟩)
         · obtain ⟨J4, ov4, e4, hd4, o', rfl⟩ := e
           have ov5 := ov4.new hp3 (.lst ys)
           have e5 := zB (ov4.free hp3) (.lst ys)
           have hyl : ys.length = 2 := by have := DAts.length hd4; rw [List.length_map] at this; exact this
           refine ⟨p3, rfl, vs, ov5.at, ys, zC, zI (by omega), _, vs ++ ys, ov5.set _, (eJ1.trans e4).trans e5, ?_, _, rfl⟩
           rw [List.take_succ_eq_append_getElem hkl, hke, List.flatMap_append, List.map_append]
           refine DAts.append (DAts.same (e4.trans e5) hdJ1) ?_
           have := DAts.same e5 hd4
           simpa using this
       · obtain ⟨J, vs, o, ov, eJ, hdJ, rfl⟩ := h
         rw [hul, List.take_of_length_le (Nat.le_refl _)] at hdJ
         exact hN _ _ ⟨J, vs, o, ov, eJ, hdJ, rfl⟩
     obtain ⟨J, vs, o, ov, eJ, hdJ, rfl⟩ := h
     simp! []
     refine ⟨es.trans (eJ.trans ov.sub), lg, vs, ov.at, ?_, rfl, _, rfl⟩
     rw [hstep]
     exact DAts.same ov.sub hdJ
   · obtain ⟨p, us, o1, o2, o3, es, kp, hd, rfl⟩ := h
     rw [List.length_map, List.take_of_length_le (Nat.le_refl _)] at hd
     exact hN _ _ ⟨p, us, _, _, _, es, kp, hd, rfl⟩
 obtain ⟨p, us, o1, o2, o3, es, kp, hd, rfl⟩ := h
 simp! []
 exact q p us _ es kp hd
end
abbrev s_n : Stmt := top 17
theorem sc_n : FnScope ["book", "saying", "names", "reading"] ["book", "saying"] (zG s_n) := ⟨rfl, rfl, rfl, by decide +kernel, rfl, by decide +kernel, by decide +kernel⟩
theorem addAll_sub : ∀ (xs zs : List Str) {y : Str}, y ∈ zs \/ y ∈ xs -> y ∈ zX zs xs
 | [], zs, y, h => h.elim id fun z => by cases z
 | x :: xs, zs, y, h => addAll_sub xs (jC zs x) (by
   rcases h with h | h
   · left
     unfold jC
     split
     · exact h
     · exact List.mem_append_left _ h
   · rcases List.mem_cons.mp h with e | h
     · left
       subst e
       unfold jC
       split
       · rename_i hx; exact hx
       · exact List.mem_append_right _ (List.mem_singleton.mpr rfl)
     · exact .inr h)
theorem addN_nd {zs : List Str} {x : Str} (h : zs.Nodup) : (jC zs x).Nodup := by
 unfold jC
 split
 · exact h
 · rename_i hx
   rw [List.nodup_append]
   refine ⟨h, by simp, fun a ha b hb e => ?_⟩
   rw [List.mem_singleton.mp hb] at e
   exact hx (e ▸ ha)
theorem addAll_nd : ∀ (xs zs : List Str), zs.Nodup -> (zX zs xs).Nodup
 | [], zs, h => h
 | x :: xs, zs, h => addAll_nd xs (jC zs x) (addN_nd h)
def lkR : List (Str × Bool) -> Str -> Bool
 | [], _ => false
 | p :: r, x => if p.1 = x then p.2 else lkR r x
def kvR (r : List (Str × Bool)) : List (Key × V) := r.map fun p => (.inr p.1, .bl p.2)
theorem kvR_val : ∀ {r : List (Str × Bool)} {x : Str}, x ∈ r.map (·.1) -> yQ (kvR r) (.inr x) = some (.bl (lkR r x))
 | p :: r, x, h => by
   unfold lkR
   by_cases e : p.1 = x
   · rw [if_pos e]
     exact yL (show (Sum.inr p.1 : Key) = Sum.inr x by rw [e])
   · rw [if_neg e]
     have e1 : yQ (kvR (p :: r)) (.inr x) = yQ (kvR r) (.inr x) := yM (fun z => e (Sum.inr.inj z))
     rw [e1]
     refine kvR_val ?_
     rcases List.mem_cons.mp h with h | h
     · exact absurd h.symm e
     · exact h
theorem rdg_nms : ∀ (zs : List Str) (rs : List (List (Str × Bool))) (ys : List Str), (∀ r ∈ rs, r.map (·.1) = ys) -> ∀ r ∈ zs.foldl (fun rs z => rs.flatMap fun r => [r ++ [(z, false)], r ++ [(z, true)]]) rs, r.map (·.1) = ys ++ zs
 | [], rs, ys, h, r, hr => by rw [List.append_nil]; exact h r hr
 | z :: zs, rs, ys, h, r, hr => by
   rw [List.foldl_cons] at hr
   have := rdg_nms zs (rs.flatMap fun r => [r ++ [(z, false)], r ++ [(z, true)]]) (ys ++ [z]) (fun r hr => by
     obtain ⟨r', hr', hm⟩ := List.mem_flatMap.mp hr
     simp only [List.mem_cons, List.not_mem_nil, or_false] at hm
     have := h r' hr'
     rcases hm with rfl | rfl <;> simp [this]) r hr
   rw [this, List.append_assoc]
   rfl
theorem rdg_map {zs : List Str} {r : List (Str × Bool)} (h : r ∈ rdg zs) : r.map (·.1) = zs := by
 have := rdg_nms zs [[]] [] (fun r hr => by rw [List.mem_singleton.mp hr]; rfl) r h
 simpa using this
theorem pbAt {H : Hp} : ∀ {r : List (Str × Bool)} {wl : List V}, DAts H (r.map dPb) wl -> ∃ as : List Addr, wl = as.map V.ref /\ as.length = r.length /\ ∀ (i : Nat) (p : Str × Bool), r[i]? = some p -> ∃ a, as[i]? = some a /\ H a = some (.tup [.str p.1, .bl p.2])
 | [], wl, h => ⟨[], h, rfl, fun i p hp => by simp at hp⟩
 | p :: r, wl, h => by
   obtain ⟨v, w2, rfl, ⟨a, vs, rfl, ha, x, y, rfl, hx, x2, y2, rfl, hx2, hy2⟩, h2⟩ := h
   have hx : x = V.str p.1 := hx
   have hx2 : x2 = V.bl p.2 := hx2
   have hy2 : y2 = [] := hy2
   subst hx hx2 hy2
   obtain ⟨as, rfl, hl, hall⟩ := pbAt h2
   refine ⟨a :: as, rfl, by rw [List.length_cons, hl, List.length_cons], fun i q hq => ?_⟩
   cases i with
   | zero => cases hq; exact ⟨a, rfl, ha⟩
   | succ i => exact hall i q hq
theorem tmPs_len : ∀ ps : List (Tm × Tm), (yG ps).length = 2 * ps.length
 | [] => rfl
 | p :: ps => by
   show (tmP p ++ yG ps).length = _
   rw [List.length_append, tmPs_len ps, List.length_cons]
   show 2 + _ = _
   omega
theorem tmB_len : ∀ b : List Rul, (∀ r ∈ b, r.1.length <= 8) -> (tmB b).length <= 18 * b.length
 | [], _ => Nat.le_refl _
 | r :: b, h => by
   show (tmR r ++ tmB b).length <= _
   have h1 := tmB_len b fun r' hr' => h r' (List.mem_cons_of_mem _ hr')
   have h2 := h r List.mem_cons_self
   have h3 : (tmR r).length = 2 * r.1.length + 2 := by
     unfold tmR
     rw [List.length_append, tmPs_len]
     rfl
   rw [List.length_append, List.length_cons]
   omega
def Fo (b : List Rul) (s : Tm × Tm) : Prop := b.length <= 20 /\ (∀ r ∈ b, r.1.length <= 8) /\ (∀ t ∈ tmB b ++ tmP s, Fit 20 t /\ wt t <= 900) /\ wts (tmB b ++ tmP s) <= 20000 /\ (zX [] (nmss (tmB b ++ tmP s))).length < 64
def spFO (CU : Addr) : Sp := fun vs H Q E => ∃ (ba : Addr) (v : V) (bs : List V) (b : List Rul) (s : Tm × Tm), vs = [.ref ba, v] /\ H ba = some (.lst bs) /\ RAts H b bs /\ SAt H s v /\ Fo b s /\
 ((zX [] (nmss (tmB b ++ tmP s))).length <= 4 -> ∀ zs', zs'.Perm (zX [] (nmss (tmB b ++ tmP s))) -> PyProof.Rows.sortedS zs' = true -> ∀ u H', Same H H' -> (match (rdg zs').find? (fun r => opB (lkR r) b s) with | none => u = .non | some r => DAt H' (dRd r) u) -> Q u H') /\
 (4 < (zX [] (nmss (tmB b ++ tmP s))).length -> ∀ H', Same H H' -> E (.ref CU) none H')
section
variable {P : Program} {w : World} {K : PySem.W.Frag} {mg : Str -> Option Value} {base : Heap} {f : Addr} {fd : FuncData} {C_TooMuch : Addr} {bm : List Value} {bn nid iid : String}
theorem uH (O_TooMuch : PyProof.Rows.OwnCls "TooMuch" C_TooMuch bm nid mg base) (FB_TooMuch : ExcBaseFacts bn nid iid bm) (m_TooMuch : mg "TooMuch" = some (.ref C_TooMuch)) (g_MOST_NAMES : Gc mg "MOST_NAMES" (.int 4)) (bi : Bi mg) (h_B : Has P w K mg base 24 "names_in" ["book", "saying"] spNI) (h_j : Has P w K mg base 1 "readings_of" ["names"] spRo) (h_p : Has P w K mg base 24 "is_open_by" ["truths", "book", "saying"] spOy) (F : Fun K "first_open" "first_open" s_n f fd) : FnOk P w K mg base (CX1 P w) 25 f fd ["book", "saying"] (spFO C_TooMuch) := by
 refine F.okX sc_n (fun vs H Q E h => ?_) (fun cdv A outer s H vs Q E hr h => ?_)
 · obtain ⟨ba, v, bs, b, s, rfl, _⟩ := h
   rfl
 obtain ⟨ba, v, bs, b, sy, rfl, hba, hbs, hs, hfo, q, qx⟩ := h
 refine ⟨_, (zD (zN (i := 2) sc_n.nd rfl (Or.inl rfl) (zK h_B (hr.mono (by omega)) rfl (zA (pv 0) (zA (pv 1) pa_nil)))) (zD (yC (zO op_gt (zM call_len rfl bi.len bt_len (zA (pv 2) pa_nil)) (pe_gc g_MOST_NAMES rfl) (zR _)) (zF (ps_raise O_TooMuch FB_TooMuch rfl m_TooMuch (zA zV pa_nil))) pss_nil) (zD (yK PassesOwn.leaving rfl (yE (zK h_j (hr.mono (by omega)) rfl (zA (pv 2) pa_nil))) (zP (i := 3) sc_n.nd rfl (Or.inl rfl)) (zF (yC (jT (zK h_p (hr.mono (by omega)) rfl (zA (xS call_dictP rfl bi.dict bt_dict (zA (pv 3) pa_nil)) (zA (pv 0) (zA (pv 1) pa_nil))))) (zF (zL (pv 3))) pss_nil))) (zF (zL qR))))), ?_⟩
 refine zH fun N hN => ?_
 simp! []
 refine ⟨ba, v, bs, b, sy, rfl, hba, hbs, hs, ?_, hfo.2.2.1, hfo.2.2.2.1, hfo.2.2.2.2, fun pn zs' H1 s1 k1 hperm hsort => hN _ _ ?_⟩
 · have h1 := tmB_len b hfo.2.1
   have h2 := hfo.1
   omega
 clear hN
 refine zH fun N hN => ?_
 simp! [tRaise]
 have hzl : zs'.length = (zX [] (nmss (tmB b ++ tmP sy))).length := hperm.length_eq
 refine ⟨zs'.length, .inl ⟨_, SqL.of k1, (List.length_map _).symm⟩, ?_⟩
 by_cases c4 : (4 : Int) < (zs'.length : Int)
 · rw [if_pos c4]
   exact ⟨zI (by decide), qx (by omega) _ s1⟩
 rw [if_neg c4]
 refine hN _ _ ?_
 clear hN
 have hq := q (by omega) zs' hperm hsort
 clear q qx
 have hfew : ∀ x, x ∈ nmss (tmB b ++ tmP sy) -> x ∈ zs' := fun x hx => hperm.mem_iff.mpr (addAll_sub _ _ (.inr hx))
 refine zW (fun σ H' => Same H H' /\ (rdg zs').find? (fun r => opB (lkR r) b sy) = none /\ ∃ o, σ = [some (V.ref ba), some v, some (V.ref pn), o]) (fun N hN => ?_) (fun σ H' h => ?_)
 · simp! []
   refine ⟨pn, zs', rfl, k1, by omega, fun pr us H2 s2 k2 hd => ⟨pr, rfl, ⟨_, SqL.of k2⟩, ?_⟩⟩
   have hul : us.length = (rdg zs').length := by have := DAts.length hd; rwa [List.length_map] at this
   refine yX (xs := us) (fun i σ H' => Same H2 H' /\ (((rdg zs').take i).find? (fun r => opB (lkR r) b sy)) = none /\ ∃ o, σ = [some (V.ref ba), some v, some (V.ref pn), o]) ⟨Same.refl _, rfl, _, rfl⟩ (fun i σ H' _ h => SqL.of (h.1 _ _ k2)) (fun i x σ H' hx h => ?_) (fun σ H' h => ?_)
   · obtain ⟨es, hnone, o, rfl⟩ := h
     obtain ⟨r, hri, hrd⟩ := qJ hd hx
     obtain ⟨hil, hie⟩ := List.getElem?_eq_some_iff.mp hri
     obtain ⟨xa, wl, rfl, hxa, hwl⟩ := hrd
     simp! []
     obtain ⟨as, rfl, hal, hall⟩ := pbAt hwl
     have hrm := rdg_map (List.mem_of_getElem? hri)
     have hnd : zs'.Nodup := hperm.nodup_iff.mpr (addAll_nd _ _ .nil)
     have s12 := (s1.trans s2).trans es
     refine ⟨as, SqL.of (es _ _ hxa), kvR r, by unfold kvR; rw [List.length_map]; exact hal, ?_, fun i k v hi => ?_, fun l hl => ?_⟩
     · have e : (kvR r).map (·.1) = zs'.map Sum.inr := by
         rw [← hrm]
         unfold kvR
         rw [List.map_map, List.map_map]
         rfl
       rw [e]
       exact List.Pairwise.map _ (fun a b h e => h (Sum.inr.inj e)) hnd
     · unfold kvR at hi
       rw [List.getElem?_map] at hi
       obtain ⟨p, hp, ep⟩ := Option.map_eq_some_iff.mp hi
       cases ep
       obtain ⟨a, h1, h2⟩ := hall i p hp
       exact ⟨a, h1, SqT.of (es _ _ h2)⟩
     have sl := s12.trans (zB hl (.dK (kvR r)))
     have hSy : ∀ p : Tm × Tm, (∀ t, t = p.1 \/ t = p.2 -> t ∈ tmB b ++ tmP sy) -> Sy (kvR r) (lkR r) p := fun p hp => ⟨hfo.2.2.1 _ (hp _ (.inl rfl)), hfo.2.2.1 _ (hp _ (.inr rfl)), fun x hx => kvR_val (by
       rw [hrm]
       refine hfew x (nmss_mem.mpr ?_)
       rcases hx with hx | hx
       · exact ⟨_, hp _ (.inl rfl), hx⟩
       · exact ⟨_, hp _ (.inr rfl), hx⟩)⟩
     have inB : ∀ r' ∈ b, ∀ t ∈ tmR r', t ∈ tmB b ++ tmP sy := fun r' hr' t ht => List.mem_append_left _ (List.mem_flatMap.mpr ⟨r', hr', ht⟩)
     refine ⟨l, ba, v, bs, b, sy, kvR r, lkR r, rfl, sl _ _ hba, DAts.same sl hbs, Nat.le_trans hfo.1 (by decide), DAt.same sl hs, zC, fun r' hr' => ⟨Nat.le_trans (hfo.2.1 r' hr') (by decide), fun p hp => hSy p fun t ht => inB r' hr' t ?_, hSy _ fun t ht => inB r' hr' t ?_⟩, hSy _ fun t ht => List.mem_append_right _ ?_, fun H3 s3 => ⟨_, rfl, ?_⟩⟩
     · unfold tmR yG
       refine List.mem_append_left _ (List.mem_flatMap.mpr ⟨p, hp, ?_⟩)
       rcases ht with rfl | rfl <;> simp [tmP]
     · unfold tmR
       refine List.mem_append_right _ ?_
       rcases ht with rfl | rfl <;> simp [tmP]
     · rcases ht with rfl | rfl <;> simp [tmP]
     have s23 := (zB hl (.dK (kvR r))).trans s3
     have htk : (rdg zs').take (i + 1) = (rdg zs').take i ++ [r] := by rw [List.take_succ_eq_append_getElem hil, hie]
     cases c1 : opB (lkR r) b sy with
     | true =>
       rw [if_pos rfl]
       refine hq _ _ (s12.trans s23) ?_
       have ef : (rdg zs').find? (fun r => opB (lkR r) b sy) = some r := by
         rw [← List.take_append_drop (i + 1) (rdg zs'), List.find?_append, htk, List.find?_append, hnone]
         simp [c1]
       rw [ef]
       exact DAt.same (es.trans s23) ⟨xa, _, rfl, hxa, hwl⟩
     | false =>
       rw [if_neg (by decide)]
       refine ⟨es.trans s23, ?_, _, rfl⟩
       rw [htk, List.find?_append, hnone]
       simp [c1]
   · obtain ⟨es, hnone, o, rfl⟩ := h
     rw [hul, List.take_of_length_le (Nat.le_refl _)] at hnone
     exact hN _ _ ⟨(s1.trans s2).trans es, hnone, _, rfl⟩
 obtain ⟨es, hnone, o, rfl⟩ := h
 simp! []
 exact hq _ _ es (by rw [hnone])
end
abbrev s_l : Stmt := top 36
theorem sc_l : FnScope ["book", "saying", "kinds", "found", "e"] ["book", "saying"] (zG s_l) := ⟨rfl, rfl, rfl, by decide +kernel, rfl, by decide +kernel, by decide +kernel⟩
structure Errs (K : PySem.W.Frag) (mg : Str -> Option Value) (CE CU CT : Addr) : Prop where
 ce : mg "ClashError" = some (.ref CE)
 cb : xSub K CE (.type "BaseException") = some true
 ct : xSub K CU (.ref CE) = some true
 xc : XCls K CU
 ve : mg "ValueError" = none
 g1 : Gc mg "TooMuch" (.ref CU)
 g2 : Gc mg "NoText" (.ref CT)
 k0 : PySem.W.kitOne K (.ref CU) (.type "ValueError") = some true
 k1 : PySem.W.kitOne K (.ref CU) (.ref CU) = some true
 k2 : PySem.W.kitOne K (.ref CU) (.ref CT) = some false
def spAw : Sp := fun vs H Q _ => ∃ (ba : Addr) (v : V) (bs : List V) (b : List Rul) (s : Tm × Tm), vs = [.ref ba, v] /\ H ba = some (.lst bs) /\ RAts H b bs /\ SAt H s v /\ Fo b s /\
 ((zX [] (nmss (tmB b ++ tmP s))).length <= 4 -> ∀ zs', zs'.Perm (zX [] (nmss (tmB b ++ tmP s))) -> PyProof.Rows.sortedS zs' = true -> ∀ p k u H', Same H H' -> (match (rdg zs').find? (fun r => opB (lkR r) b s) with | none => u = .non | some r => DAt H' (dRd r) u) -> H' p = some (.tup [.ref k, u]) -> H' k = some (.lst []) -> Q (.ref p) H') /\
 (4 < (zX [] (nmss (tmB b ++ tmP s))).length -> ∀ p k H', Same H H' -> H' p = some (.tup [.ref k, .non]) -> H' k = some (.lst [.bl true, .bl true, .bl false]) -> Q (.ref p) H')
section
variable {P : Program} {w : World} {K : PySem.W.Frag} {mg : Str -> Option Value} {base : Heap} {f : Addr} {fd : FuncData} {CE CU CT : Addr}
theorem ok_answer (Er : Errs K mg CE CU CT) (bi : Bi mg) (h_n : HasX P w K mg base 25 "first_open" ["book", "saying"] (spFO CU)) (F : Fun K "_law_answer" "_law_answer" s_l f fd) : FnOk P w K mg base CX0 26 f fd ["book", "saying"] spAw := by
 have m_ClashError := Er.ce
 have xb_ClashError := Er.cb
 have bz_ValueError := Er.ve
 have g_TooMuch := Er.g1
 have g_NoText := Er.g2
 refine F.ok sc_l (fun vs H Q E h => ?_) (fun cdv A outer s H vs Q E hr h => ?_)
 · obtain ⟨ba, v, bs, b, s, rfl, _⟩ := h
   rfl
 obtain ⟨ba, v, bs, b, sy, rfl, hba, hbs, hs, hfo, qg, qb⟩ := h
 refine ⟨_, (zD (zN (i := 2) sc_l.nd rfl (Or.inl rfl) (zZ pa_nil)) (zD (zN (i := 3) sc_l.nd rfl (Or.inl rfl) qR) (zD (ps_try (i := 4) body_nox sc_l.nd rfl rfl rfl m_ClashError xb_ClashError rfl (px_set (i := 3) rfl h_n (hr.mono (by omega)) rfl sc_l.nd rfl (Or.inl rfl) (zA (pv 0) (zA (pv 1) pa_nil))) (fun _ => (zF (zN (i := 2) sc_l.nd rfl (Or.inl rfl) (zZ (zA (zM (jX K rfl) rfl bi.isinstance bt_isinstance (zA (pv 4) (zA (pe_gc g_TooMuch rfl) pa_nil))) (zA (zM (jX K rfl) rfl bi.isinstance bt_isinstance (zA (pv 4) (zA (pe_ty bz_ValueError bt_ValueError rfl) pa_nil))) (zA (zM (jX K rfl) rfl bi.isinstance bt_isinstance (zA (pv 4) (zA (pe_gc g_NoText rfl) pa_nil))) pa_nil)))))))) (zF (zL (zY (zA (pv 2) (zA (pv 3) pa_nil)))))))), ?_⟩
 refine zH fun N hN => ?_
 simp! []
 refine ⟨zI (by decide), fun k hk => hN _ _ ?_⟩
 clear hN
 have s1 := zB hk (.lst [])
 have k1 : upd H k (.lst []) k = some (.lst []) := zC
 generalize upd H k (.lst []) = H1 at s1 k1 ⊢
 refine zH fun N hN => ?_
 simp! []
 refine hN _ _ ?_
 clear hN
 refine zH fun N hN => ?_
 have good : ∀ {J : Hp} {k' : Addr} {u : V} {ks : List V}, J k' = some (.lst ks) -> (∀ (p : Addr) H', Same J H' -> H' p = some (.tup [.ref k', u]) -> H' k' = some (.lst ks) -> Q (.ref p) H') -> N [some (.ref ba), some v, some (.ref k'), some u, none] J := fun {J k' u ks} hk' hq => hN _ _ (by
   simp! []
   exact ⟨zI (by decide), fun p hp => hq p _ (zB hp _) zC (zB hp _ _ _ hk')⟩)
 clear hN
 simp! [tTry, tXIf, tXSet, rIsX]
 refine ⟨ba, v, bs, b, sy, rfl, s1 _ _ hba, DAts.same s1 hbs, DAt.same s1 hs, hfo, fun h4 zs' hperm hsort u H2 s2 hu => ?_, fun h4 H2 s2 => ?_⟩
 · exact good (s2 _ _ k1) fun p H' sH h1 h2 => qg h4 zs' hperm hsort p k u H' ((s1.trans s2).trans sH) (by
     revert hu
     cases (rdg zs').find? (fun r => opB (lkR r) b sy) with
     | none => exact id
     | some r => exact fun h => DAt.same sH h) h1 h2
 · refine ⟨CU, rfl, Er.ct, fun ea hea => ?_⟩
   have se := zB hea (xO ea CU)
   refine ⟨CU, zC, Er.xc, _, .inl ⟨_, rfl, rfl⟩, _, Er.k1, CU, zC, Er.xc, _, .inr ⟨_, rfl, rfl⟩, _, Er.k0, CU, zC, Er.xc, _, .inl ⟨_, rfl, rfl⟩, _, Er.k2, zI (by decide), fun p1 hp1 => ?_⟩
   have sp1 := zB hp1 (.lst [V.bl true, V.bl true, V.bl false])
   exact good zC fun p H' sH h1 h2 => qb h4 p p1 H' ((s1.trans s2).trans ((se.trans sp1).trans sH)) h1 h2
end
abbrev s_e : Stmt := top 32
theorem sc_e : FnScope ["book", "saying", "found", "premises", "one", "s", "t"] ["book", "saying"] (zG s_e) := ⟨rfl, rfl, rfl, by decide +kernel, rfl, by decide +kernel, by decide +kernel⟩
theorem addAll_mem : ∀ (xs zs : List Str) {y : Str}, y ∈ zX zs xs -> y ∈ zs \/ y ∈ xs
 | [], zs, y, h => .inl h
 | x :: xs, zs, y, h => by
   rcases addAll_mem xs (jC zs x) h with h | h
   · unfold jC at h
     split at h
     · exact .inl h
     · rcases List.mem_append.mp h with h | h
       · exact .inl h
       · rw [List.mem_singleton] at h
         exact .inr (h ▸ List.mem_cons_self)
   · exact .inr (List.mem_cons_of_mem _ h)
theorem nmss_le (ts us : List Tm) : (nmss ts).length <= (nmss (ts ++ us)).length := by
 rw [nmss_app, List.length_append]
 omega
def spLn : Sp := fun vs H Q _ => ∃ (ba : Addr) (v : V) (bs : List V) (b : List Rul) (s : Tm × Tm), vs = [.ref ba, v] /\ H ba = some (.lst bs) /\ RAts H b bs /\ SAt H s v /\ Fo b s /\ wts (tmB b ++ tmP s) < 4000 /\
 ∀ p zs' H', Same H H' -> H' p = some (.lst (zs'.map V.str)) -> zs'.Perm (zX [] (nmss (tmB b ++ tmP s))) -> PyProof.Rows.sortedS zs' = true -> Q (.ref p) H'
section
variable {P : Program} {w : World} {K : PySem.W.Frag} {mg : Str -> Option Value} {base : Heap} {f : Addr} {fd : FuncData}
theorem vO (bi : Bi mg) (h_k : Has P w K mg base 21 "_law_gather" ["t"] (spLg 21)) (F : Fun K "_law_names_in" "_law_names_in" s_e f fd) : FnOk P w K mg base CX0 22 f fd ["book", "saying"] spLn := by
 refine F.ok sc_e (fun vs H Q E h => ?_) (fun cdv A outer s H vs Q E hr h => ?_)
 · obtain ⟨ba, v, bs, b, s, rfl, _⟩ := h
   rfl
 obtain ⟨ba, v, bs, b, sy, rfl, hba, hbs, hs, hfo, hw4, q⟩ := h
 refine ⟨_, (zD (zN (i := 2) sc_e.nd rfl (Or.inl rfl) (zZ pa_nil)) (zD (yK PassesOwn.never rfl (yE (zJ op_cat (pv 0) (zZ (zA (zY (zA (zZ pa_nil) (zA (pv 1) pa_nil))) pa_nil)))) (pg_tup rfl (xG (zP (i := 3) sc_e.nd rfl (Or.inl rfl)) (xG (zP (i := 4) sc_e.nd rfl (Or.inl rfl)) pgs_nil))) (zF (yK PassesOwn.never rfl (yE (zJ op_cat (pv 3) (zZ (zA (pv 4) pa_nil)))) (pg_tup rfl (xG (zP (i := 5) sc_e.nd rfl (Or.inl rfl)) (xG (zP (i := 6) sc_e.nd rfl (Or.inl rfl)) pgs_nil))) (zF (zN (i := 2) sc_e.nd rfl (Or.inl rfl) (zJ op_cat (zJ op_cat (pv 2) (zK h_k (hr.mono (by omega)) rfl (zA (pv 5) pa_nil))) (zK h_k (hr.mono (by omega)) rfl (zA (pv 6) pa_nil)))))))) (zF (zL (zM call_sortedX rfl bi.sorted bt_sorted (zA (xS call_setT rfl bi.set bt_set (zA (pv 2) pa_nil)) pa_nil)))))), ?_⟩
 have hbl := hbs.length
 have hb20 := hfo.1
 refine zH fun N hN => ?_
 simp! []
 refine ⟨zI (by decide), fun p0 hp0 => hN _ _ ?_⟩
 clear hN
 have s0 := zB hp0 (.lst [])
 have k0 : upd H p0 (.lst []) p0 = some (.lst []) := zC
 generalize upd H p0 (.lst []) = H0 at s0 k0 ⊢
 have hnl := nmss_len (tmB b ++ tmP sy)
 refine zW (fun σ H' => ∃ (p : Addr) (o1 o2 o3 o4 : Option V), Same H H' /\ H' p = some (.lst ((nmss (tmB b ++ tmP sy)).map V.str)) /\ σ = [some (V.ref ba), some v, some (V.ref p), o1, o2, o3, o4]) (fun N hN => ?_) (fun σ H' h => ?_)
 · simp! []
   refine ⟨zI (by decide), fun p1 hp1 => ?_⟩
   have s1 := s0.trans (zB hp1 (.lst []))
   have k1 : upd H0 p1 (.lst []) p1 = some (.lst []) := zC
   replace k0 := zB hp1 (.lst []) _ _ k0
   generalize upd H0 p1 (.lst []) = H1 at s1 k1 k0 ⊢
   refine ⟨zI (by decide), fun p2 hp2 => ?_⟩
   have e2 := zB hp2 (.tup [V.ref p1, v])
   have k2 : upd H1 p2 (.tup [V.ref p1, v]) p2 = some (.tup [V.ref p1, v]) := zC
   replace k0 := e2 _ _ k0
   replace k1 := e2 _ _ k1
   have s2 := s1.trans e2
   generalize upd H1 p2 (.tup [V.ref p1, v]) = H2 at s2 k2 k1 k0 ⊢
   refine ⟨zI (by decide), fun p3 hp3 => ?_⟩
   have e3 := zB hp3 (.lst [V.ref p2])
   have k3 : upd H2 p3 (.lst [V.ref p2]) p3 = some (.lst [V.ref p2]) := zC
   replace k0 := e3 _ _ k0
   replace k1 := e3 _ _ k1
   replace k2 := e3 _ _ k2
   have s3 := s2.trans e3
   generalize upd H2 p3 (.lst [V.ref p2]) = H3 at s3 k3 k2 k1 k0 ⊢
   refine ⟨_, s3 _ _ hba, _, k3, zI (by simp; omega), fun p4 hp4 => ?_⟩
   have e4 := zB hp4 (.lst (bs ++ [V.ref p2]))
   have k4 : upd H3 p4 (.lst (bs ++ [V.ref p2])) p4 = some (.lst (bs ++ [V.ref p2])) := zC
   replace k0 := e4 _ _ k0
   replace k1 := e4 _ _ k1
   replace k2 := e4 _ _ k2
   have s4 := s3.trans e4
   generalize upd H3 p4 (.lst (bs ++ [V.ref p2])) = H4 at s4 k4 k2 k1 k0 ⊢
   clear e2 e3 e4 k3 s1 s2 s3 hp0 hp1 hp2 hp3 hp4
   have hall : RAts H4 (b ++ [([], sy)]) (bs ++ [V.ref p2]) := by
     unfold RAts
     rw [List.map_append]
     exact DAts.append (DAts.same s4 hbs) (DAts.one ⟨p2, _, rfl, k2, _, _, rfl, ⟨p1, [], rfl, k1, rfl⟩, _, _, rfl, DAt.same s4 hs, rfl⟩)
   have etm : tmB (b ++ [([], sy)]) = tmB b ++ tmP sy := by
     unfold tmB
     rw [List.flatMap_append]
     simp [tmR, yG]
   have hfit := hfo.2.2.1
   have h8 : ∀ r ∈ b ++ [([], sy)], r.1.length <= 8 := fun r hr => by
     rcases List.mem_append.mp hr with hr | hr
     · exact hfo.2.1 r hr
     · rw [List.mem_singleton.mp hr]; exact Nat.zero_le _
   rw [← etm] at hfit hnl hw4 hN
   clear etm hbs hs hfo
   have hlen := hall.length
   generalize bs ++ [V.ref p2] = xs at hall hlen k4 ⊢
   generalize b ++ [([], sy)] = c at hall hlen hfit hnl hw4 hN h8
   refine ⟨⟨_, SqL.of k4⟩, ?_⟩
   refine yX (xs := xs) (fun i σ H' => ∃ (p : Addr) (o1 o2 o3 o4 : Option V), Same H4 H' /\ H' p = some (.lst ((nmss (tmB (c.take i))).map V.str)) /\ σ = [some (V.ref ba), some v, some (V.ref p), o1, o2, o3, o4]) ⟨p0, _, _, _, _, Same.refl _, k0, rfl⟩ (fun i σ H' _ h => by obtain ⟨_, _, _, _, _, e, _⟩ := h; exact SqL.of (e _ _ k4)) (fun i x σ H' hx h => ?_) (fun σ H' h => ?_)
   · obtain ⟨p, o1, o2, o3, o4, es, kp, rfl⟩ := h
     obtain ⟨r, hri, hx'⟩ := hall.getV hx
     obtain ⟨ra, l, sv2, vs, rfl, hra, hl, hps, hs2⟩ := RAt.out hx'
     have hln : vs.length = r.1.length := SAts.length hps
     have hr8 := h8 r (List.mem_of_getElem? hri)
     simp! [gTup, gCons, gNil]
     refine ⟨_, SqT.of (es _ _ hra), rfl, _, _, rfl, _, _, rfl, rfl, zI (by decide), fun p5 hp5 => ?_⟩
     have e5 := es.trans (zB hp5 (.lst [sv2]))
     have k5 : upd H' p5 (.lst [sv2]) p5 = some (.lst [sv2]) := zC
     replace kp := zB hp5 (.lst [sv2]) _ _ kp
     generalize upd H' p5 (.lst [sv2]) = H5 at e5 k5 kp ⊢
     refine ⟨_, rfl, _, e5 _ _ hl, _, k5, zI (by simp; omega), fun p6 hp6 => ?_⟩
     have e6 := e5.trans (zB hp6 (.lst (vs ++ [sv2])))
     have k6 : upd H5 p6 (.lst (vs ++ [sv2])) p6 = some (.lst (vs ++ [sv2])) := zC
     replace kp := zB hp6 (.lst (vs ++ [sv2])) _ _ kp
     generalize upd H5 p6 (.lst (vs ++ [sv2])) = H6 at e6 k6 kp ⊢
     refine ⟨⟨_, SqL.of k6⟩, ?_⟩
     have hps2 : SAts H4 (r.1 ++ [r.2]) (vs ++ [sv2]) := by
       unfold SAts
       rw [List.map_append]
       exact DAts.append hps (DAts.one hs2)
     have epm : yG (r.1 ++ [r.2]) = tmR r := by
       unfold yG tmR yG
       rw [List.flatMap_append]
       simp
     have hpl : (vs ++ [sv2]).length = (r.1 ++ [r.2]).length := SAts.length hps2
     have hfr : ∀ t ∈ yG (r.1 ++ [r.2]), Fit 20 t /\ wt t <= 900 := fun t ht => hfit t (List.mem_flatMap.mpr ⟨r, List.mem_of_getElem? hri, by rw [← epm]; exact ht⟩)
     have enx : nmss (tmB (c.take (i + 1))) = nmss (tmB (c.take i)) ++ nmss (yG (r.1 ++ [r.2])) := by rw [qM hri, nmss_app, epm]
     have hbd : (nmss (tmB (c.take (i + 1)))).length <= (nmss (tmB c)).length := by
       have e : tmB c = tmB (c.take (i + 1)) ++ tmB (c.drop (i + 1)) := by
         unfold tmB
         rw [← List.flatMap_append, List.take_append_drop]
       rw [e]
       exact nmss_le _ _
     rw [enx] at hbd ⊢
     rw [List.length_append] at hbd
     generalize r.1 ++ [r.2] = ps at hps2 hpl hfr enx hbd ⊢
     generalize vs ++ [sv2] = ys at hps2 hpl k6 ⊢
     refine yX (xs := ys) (fun j σ H' => ∃ (p : Addr) (o3 o4 : Option V), Same H4 H' /\ Same H6 H' /\ H' p = some (.lst ((nmss (tmB (c.take i)) ++ nmss (yG (ps.take j))).map V.str)) /\ σ = [some (V.ref ba), some v, some (V.ref p), some (V.ref l), some sv2, o3, o4]) ⟨p, _, _, e6, Same.refl _, by simpa [yG, nmss] using kp, rfl⟩ (fun j σ H' _ h => by obtain ⟨_, _, _, _, e, _⟩ := h; exact SqL.of (e _ _ k6)) (fun j y σ H' hy h => ?_) (fun σ H' h => ?_)
     · obtain ⟨p, o3, o4, es, eq, kp, rfl⟩ := h
       obtain ⟨pr, hpi, hy'⟩ := SAts.getV hps2 hy
       obtain ⟨sa, v1, v2, rfl, hsa, h1, h2⟩ := SAt.out hy'
       have em : ∀ t ∈ tmP pr, t ∈ yG ps := fun t ht => List.mem_flatMap.mpr ⟨pr, List.mem_of_getElem? hpi, ht⟩
       have f1 := hfr pr.1 (em _ (by simp [tmP]))
       have f2 := hfr pr.2 (em _ (by simp [tmP]))
       have hb3 : (nmss (yG (ps.take (j + 1)))).length <= (nmss (yG ps)).length := by
         have e : yG ps = yG (ps.take (j + 1)) ++ yG (ps.drop (j + 1)) := by
           unfold yG
           rw [← List.flatMap_append, List.take_append_drop]
         rw [e]
         exact nmss_le _ _
       have ej : nmss (yG (ps.take (j + 1))) = nmss (yG (ps.take j)) ++ (nms pr.1 ++ nms pr.2) := by
         rw [uP hpi, nmss_app]
         simp [tmP, nmss]
       rw [ej, List.length_append, List.length_append] at hb3
       simp! [gTup, gCons, gNil, spLg]
       refine ⟨_, SqT.of (es _ _ hsa), rfl, _, _, rfl, _, _, rfl, rfl, pr.1, TAt.tups es.tups h1, f1.1, f1.2, fun p7 H7 s7 k7 => ?_⟩
       refine ⟨_, s7 _ _ kp, _, k7, Nat.le_trans (m := 1000000) (by simp; omega) (by decide), fun p8 hp8 => ?_⟩
       have s8 := s7.trans (zB hp8 (.lst ((nmss (tmB (c.take i)) ++ nmss (yG (ps.take j))).map V.str ++ (nms pr.1).map V.str)))
       have k8 : upd H7 p8 (.lst ((nmss (tmB (c.take i)) ++ nmss (yG (ps.take j))).map V.str ++ (nms pr.1).map V.str)) p8 = some (.lst ((nmss (tmB (c.take i)) ++ nmss (yG (ps.take j))).map V.str ++ (nms pr.1).map V.str)) := zC
       generalize upd H7 p8 (.lst ((nmss (tmB (c.take i)) ++ nmss (yG (ps.take j))).map V.str ++ (nms pr.1).map V.str)) = H8 at s8 k8 ⊢
       refine ⟨pr.2, TAt.tups (es.trans s8).tups h2, f2.1, f2.2, fun p9 H9 s9 k9 => ?_⟩
       refine ⟨_, s9 _ _ k8, _, k9, Nat.le_trans (m := 1000000) (by simp; omega) (by decide), fun p10 hp10 => ?_⟩
       have sx := (s8.trans s9).trans (zB hp10 (.lst ((nmss (tmB (c.take i)) ++ nmss (yG (ps.take j))).map V.str ++ (nms pr.1).map V.str ++ (nms pr.2).map V.str)))
       refine ⟨es.trans sx, eq.trans sx, p10, ?_, rfl, _, rfl⟩
       rw [zC, ej]
       simp [List.append_assoc]
     · obtain ⟨p, o3, o4, es, eq, kp, rfl⟩ := h
       rw [List.take_of_length_le (i := ys.length) (by omega)] at kp
       exact ⟨es, p, kp, _, _, _, _, rfl⟩
   · obtain ⟨p, o1, o2, o3, o4, es, kp, rfl⟩ := h
     rw [List.take_of_length_le (by omega)] at kp
     exact hN _ _ ⟨p, _, _, _, _, s4.trans es, kp, rfl⟩
 obtain ⟨p, o1, o2, o3, o4, es, kp, rfl⟩ := h
 simp! [cx_P]
 have hmem : ∀ x, x ∈ zX [] (nmss (tmB b ++ tmP sy)) ↔ x ∈ nmss (tmB b ++ tmP sy) := fun x => ⟨fun h => (addAll_mem _ _ h).elim (fun z => by cases z) id, fun h => addAll_sub _ _ (.inr h)⟩
 refine ⟨nmss (tmB b ++ tmP sy), SqL.of kp, by omega, fun l5 ys hl5 hnd hys => ⟨ys, zC, ?_, fun l6 zs hl6 hpm hso => ?_⟩⟩
 · have hp := qT hnd (addAll_nd (nmss (tmB b ++ tmP sy)) [] .nil) fun x => (hys x).trans (hmem x).symm
   rw [hp.length_eq]
   exact hfo.2.2.2.2
 have e46 := (zB hl5 (TxO P w l5 ys)).trans (zB hl6 (.lst (zs.map V.str)))
 exact q _ _ _ (es.trans e46) zC (hpm.trans (qT hnd (addAll_nd (nmss (tmB b ++ tmP sy)) [] .nil) fun x => (hys x).trans (hmem x).symm)) hso
end
abbrev s_t : Stmt := top 34
theorem sc_t : FnScope ["script", "k", "many", "names", "ways", "n", "cell", "at", "left", "name"] ["script", "k", "many", "names"] (zG s_t) := ⟨rfl, rfl, rfl, by decide +kernel, rfl, by decide +kernel, by decide +kernel⟩
abbrev s_h : Stmt := top 35
theorem sc_h : FnScope ["ways", "saying"] ["ways", "saying"] (zG s_h) := ⟨rfl, rfl, rfl, by decide +kernel, rfl, by decide +kernel, by decide +kernel⟩
theorem lc_listIfT {K : PySem.W.Frag} {a : Addr} {xs : List V} {ns : List Str} {js : List Nat} {g : TG} {tc : TT} {te : TE} {σ : St} {H : Hp} {Q : VK} (Pv : Nat -> List V -> St -> Hp -> Prop) (h0 : Pv 0 [] (lcSt ns js σ) H) (hz : xs.length <= sizeLine) (hl : ∀ i ys σ H, Pv i ys σ H -> ys.length <= i)
   (hK : ∀ i ys σ H, Pv i ys σ H -> SqL K H a xs)
   (hs : ∀ (i : Nat) x ys σ H (C : V -> St -> Hp -> Prop) (D : St -> Hp -> Prop), xs[i]? = some x -> Pv i ys σ H -> (∀ y σ2 H3, Pv (i + 1) (ys ++ [y]) σ2 H3 -> C y σ2 H3) -> (∀ σ2 H3, Pv (i + 1) ys σ2 H3 -> D σ2 H3) ->
     g x σ H fun σ2 H2 => tc σ2 H2 fun b H3 => if b = true then te σ2 H3 fun y H4 => C y σ2 H4 else D σ2 H3)
   (hd : ∀ ys σ H, Pv xs.length ys σ H -> ∀ p, H p = none -> Q (.ref p) (upd H p (.lst ys))) :
   LcW (Itl K a) ns js g (some tc) te σ H Q := by
 refine ⟨fun i m ys σ H => m = xs.length - i /\ i <= xs.length /\ Pv i ys σ H, ⟨xs.length, by omega, Nat.zero_le _, h0⟩, fun i m ys σ1 H1 ⟨hm, hi, hp⟩ => ?_⟩
 by_cases h : i < xs.length
 · refine .inr ⟨⟨xs, xs[i], hK i ys σ1 H1 hp, List.getElem?_eq_getElem h⟩, ?_, fun x H' ⟨e, hx⟩ => ?_⟩
   · have := hl i ys σ1 H1 hp
     omega
   · subst e
     exact hs i x ys σ1 _ _ _ (hx xs (hK i ys σ1 _ hp)) hp (fun y σ2 H3 q => ⟨xs.length - (i + 1), by omega, rfl, by omega, q⟩) fun σ2 H3 q => ⟨xs.length - (i + 1), by omega, rfl, by omega, q⟩
 · have e : i = xs.length := by omega
   subst e
   exact .inl ⟨⟨xs, hK _ ys σ1 H1 hp, Nat.le_refl _⟩, hd ys σ1 H1 hp⟩
theorem cut_drop (xs : List V) (k : Nat) (h : k <= xs.length) : yV xs (some (k : Int)) none = xs.drop k := by
 unfold yV
 have e : HT.sIx xs.length 0 (some (k : Int)) = k := by
   unfold HT.sIx
   simp only
   rw [if_neg (by omega)]
   omega
 rw [e, HT.sIx_none]
 exact List.take_of_length_le (by rw [List.length_drop]; omega)
theorem DAts.tk {H : Hp} : ∀ (k : Nat) {ds : List Dt} {us : List V}, DAts H ds us -> DAts H (ds.take k) (us.take k)
 | 0, ds, us, _ => by rw [List.take_zero, List.take_zero]; rfl
 | k + 1, [], us, h => by
   have h : us = [] := h
   subst h
   rfl
 | k + 1, d :: ds, us, h => by
   obtain ⟨v, r, rfl, h1, h2⟩ := h
   exact ⟨v, r.take k, rfl, h1, DAts.tk k h2⟩
theorem DAts.dp {H : Hp} : ∀ (k : Nat) {ds : List Dt} {us : List V}, DAts H ds us -> DAts H (ds.drop k) (us.drop k)
 | 0, ds, us, h => h
 | k + 1, [], us, h => by
   have h : us = [] := h
   subst h
   rfl
 | k + 1, d :: ds, us, h => by
   obtain ⟨v, r, rfl, h1, h2⟩ := h
   exact DAts.dp k h2
def Wy (zs : List Str) (n : Nat) (ws : List (List (Str × Bool))) : Prop := ws.length <= n + 1 /\ 1 <= ws.length /\ ∀ r ∈ ws, r.length <= n /\ ∀ q ∈ r, q.1 ∈ zs
theorem Wy.up {zs : List Str} {n : Nat} {ws : List (List (Str × Bool))} (h : Wy zs n ws) : Wy zs (n + 1) ws := ⟨by have := h.1; omega, h.2.1, fun r hr => ⟨by have := (h.2.2 r hr).1; omega, (h.2.2 r hr).2⟩⟩
theorem Wy.two {zs : List Str} {n j : Nat} {ws : List (List (Str × Bool))} {r : List (Str × Bool)} {z : Str} (h : Wy zs n ws) (hj : ws[j]? = some r) (hz : z ∈ zs) : Wy zs (n + 1) (ws.take j ++ [r ++ [(z, true)], r ++ [(z, false)]] ++ ws.drop (j + 1)) := by
 obtain ⟨h1, h2, h3⟩ := h
 have hjl := (List.getElem?_eq_some_iff.mp hj).1
 have hr := h3 r (List.mem_of_getElem? hj)
 refine ⟨?_, ?_, fun q hq => ?_⟩
 · rw [List.length_append, List.length_append, List.length_take, List.length_drop]
   show _ + 2 + _ <= _
   omega
 · rw [List.length_append, List.length_append]
   show 1 <= _ + 2 + _
   omega
 · rcases List.mem_append.mp hq with hq | hq
   · rcases List.mem_append.mp hq with hq | hq
     · have := h3 q (List.mem_of_mem_take hq)
       exact ⟨by omega, this.2⟩
     · simp only [List.mem_cons, List.not_mem_nil, or_false] at hq
       have aux : ∀ b, (r ++ [(z, b)]).length <= n + 1 /\ ∀ q ∈ r ++ [(z, b)], q.1 ∈ zs := fun b => ⟨by rw [List.length_append]; simp; omega, fun q hq => by
         rcases List.mem_append.mp hq with hq | hq
         · exact hr.2 q hq
         · rw [List.mem_singleton.mp hq]; exact hz⟩
       rcases hq with rfl | rfl
       · exact aux true
       · exact aux false
   · have := h3 q (List.mem_of_mem_drop hq)
     exact ⟨by omega, this.2⟩
def spWy (K : PySem.W.Frag) : Sp := fun vs H Q _ => ∃ (a na : Addr) (ns : List Int) (k m : Nat) (zs : List Str), vs = [.ref a, .int k, .int m, .ref na] /\ SqL K H a (ns.map V.int) /\ ns.length <= 63 /\ k <= 50 /\ m <= 4 /\ H na = some (.lst (zs.map V.str)) /\ zs.length <= 5 /\ ∀ p us ws H', Same H H' -> H' p = some (.lst us) -> DAts H' (ws.map dRd) us -> Wy zs m ws -> Q (.ref p) H'
def Wr (zs : List Str) (s : Tm × Tm) (r : Rul) : Prop := r.1.length <= 4 /\ (∀ p ∈ r.1, Gs zs p) /\ r.2 = s
def spWr : Sp := fun vs H Q _ => ∃ (p : Addr) (v : V) (us : List V) (ws : List (List (Str × Bool))) (zs : List Str) (s : Tm × Tm), vs = [.ref p, v] /\ H p = some (.lst us) /\ DAts H (ws.map dRd) us /\ Wy zs 4 ws /\ (∀ x ∈ zs, Nm x) /\ SAt H s v /\ ∀ p us b J H', Same H J -> Ov H' J p us -> RAts J b us -> b.length <= 5 -> (∀ r ∈ b, Wr zs s r) -> Q (.ref p) H'
section
variable {P : Program} {w : World} {K : PySem.W.Frag} {mg : Str -> Option Value} {base : Heap} {f : Addr} {fd : FuncData}
theorem ok_ways (bi : Bi mg) (h_s : Has P w K mg base 1 "_law_draw" ["script", "k"] (uB K)) (F : Fun K "_law_ways" "_law_ways" s_t f fd) : FnOk P w K mg base CX0 2 f fd ["script", "k", "many", "names"] (spWy K) := by
 refine F.ok sc_t (fun vs H Q E h => ?_) (fun cdv A outer s H vs Q E hr h => ?_)
 · obtain ⟨a, na, ns, k, m, zs, rfl, _⟩ := h
   rfl
 obtain ⟨a, na, ns, k, m, zs, rfl, hS, hl, hk, hm, hna, hz5, q⟩ := h
 refine ⟨_, (zD (zN (i := 4) sc_t.nd rfl (Or.inr rfl) (zZ (zA (zZ pa_nil) pa_nil))) (zD (yK PassesOwn.never rfl (uR rfl bi.range (zA (pv 1) (zA (zJ op_add (pv 1) (pv 2)) pa_nil))) (zP (i := 5) sc_t.nd rfl (Or.inl rfl)) (zD (zN (i := 6) sc_t.nd rfl (Or.inl rfl) (zK h_s (hr.mono (by omega)) rfl (zA (pv 0) (zA (pv 5) pa_nil)))) (zD (zN (i := 7) sc_t.nd rfl (Or.inr rfl) (zJ op_mod (pv 6) (zM call_len rfl bi.len bt_len (zA (pv 4) pa_nil)))) (zD (qI (i := 8) ["name"] ["ways", "at"] [4, 7] sc_t.nd rfl (yE (pv 3)) (fun _ _ _ _ nd => zP (i := 0) nd rfl (Or.inl rfl)) (fun _ _ _ _ => pif_one (zO (uD K) (pv 0) (by exact (yP ["one"] [] [] (qQ K (zS (ix_listK K) (pv 1) (pv 2) (fun _ _ => rfl))) (fun _ _ _ _ nd => zP (i := 0) nd rfl (Or.inl rfl)) (fun _ _ _ _ => yI) (fun _ _ _ _ => (zS (xT K) (pv 0) zE (fun _ _ => rfl))))) (by with_unfolding_all rfl))) (fun _ _ _ _ => (pv 0))) (zF (yC (zO op_gt (zM call_len rfl bi.len bt_len (zA (pv 8) pa_nil)) zE (zR _)) (zD (zN (i := 9) sc_t.nd rfl (Or.inl rfl) (zS ix_list (pv 8) (zJ op_mod (zJ op_fdiv (pv 6) zE) (zM call_len rfl bi.len bt_len (zA (pv 8) pa_nil))) (fun _ _ => rfl))) (zF (zN (i := 4) sc_t.nd rfl (Or.inr rfl) (zJ op_cat (zJ op_cat (yJ sl_list (pv 4) po_none (yO (pv 7))) (zZ (zA (zJ op_cat (zS ix_list (pv 4) (pv 7) (fun _ _ => rfl)) (zZ (zA (zY (zA (pv 9) (zA yY pa_nil))) pa_nil))) (zA (zJ op_cat (zS ix_list (pv 4) (pv 7) (fun _ _ => rfl)) (zZ (zA (zY (zA (pv 9) (zA yY pa_nil))) pa_nil))) pa_nil)))) (yJ sl_list (pv 4) (yO (zJ op_add (pv 7) zE)) po_none))))) pss_nil)))))) (zF (zL (pv 4))))), ?_⟩
 refine zH fun N hN => ?_
 simp! []
 refine ⟨zI (by decide), fun p0 hp0 => ⟨zI (by decide), fun p1 hp1 => hN _ _ ?_⟩⟩
 clear hN
 have s1 := (zB hp0 (.lst [])).trans (zB hp1 (.lst [V.ref p0]))
 have k1 : upd (upd H p0 (.lst [])) p1 (.lst [V.ref p0]) p1 = some (.lst [V.ref p0]) := zC
 have d1 : DAts (upd (upd H p0 (.lst [])) p1 (.lst [V.ref p0])) ([[]].map dRd) [V.ref p0] := DAts.one ⟨p0, [], rfl, zB hp1 _ _ _ zC, rfl⟩
 generalize upd (upd H p0 (.lst [])) p1 (.lst [V.ref p0]) = H1 at s1 k1 d1 ⊢
 refine zW (fun σ H' => ∃ (p : Addr) (us : List V) (ws : List (List (Str × Bool))) (o5 o6 o7 o8 o9 : Option V), Same H H' /\ H' p = some (.lst us) /\ DAts H' (ws.map dRd) us /\ Wy zs m ws /\ σ = [some (V.ref a), some (V.int k), some (V.int m), some (V.ref na), some (V.ref p), o5, o6, o7, o8, o9]) (fun N hN => ?_) (fun σ H' h => ?_)
 · simp! []
   refine ⟨by omega, by omega, by omega, by omega, ?_⟩
   refine xH (n := ((k : Int) + (m : Int) - (k : Int)).toNat) (fun i σ H' => ∃ (p : Addr) (us : List V) (ws : List (List (Str × Bool))) (o5 o6 o7 o8 o9 : Option V), Same H H' /\ H' p = some (.lst us) /\ DAts H' (ws.map dRd) us /\ Wy zs i ws /\ σ = [some (V.ref a), some (V.int k), some (V.int m), some (V.ref na), some (V.ref p), o5, o6, o7, o8, o9]) ⟨p1, _, [[]], _, _, _, _, _, s1, k1, d1, ⟨Nat.le_refl _, Nat.le_refl _, fun r hr => by rw [List.mem_singleton.mp hr]; exact ⟨Nat.zero_le _, fun q hq => by cases hq⟩⟩, rfl⟩ (fun i σ H' hi h => ?_) (fun σ H' h => ?_)
   · obtain ⟨p, us, ws, o5, o6, o7, o8, o9, es, kp, hd, hwy, rfl⟩ := h
     have hul : us.length = ws.length := by have := DAts.length hd; rwa [List.length_map] at this
     have hwl := hwy.1
     have hw1 := hwy.2.1
     have e0 : (k : Int) + (i : Int) = ((k + i : Nat) : Int) := by omega
     refine zH fun N hN => ?_
     simp! [uB]
     rw [e0]
     refine ⟨ns, k + i, rfl, Same.seq es hS, hl, by omega, fun z hz => hN _ _ ?_⟩
     clear hN
     refine zH fun N hN => ?_
     simp! []
     refine ⟨us.length, .inl ⟨_, SqL.of kp, rfl⟩, by omega, hN _ _ ?_⟩
     clear hN
     obtain ⟨j, ej, hj⟩ : ∃ j : Nat, z % (us.length : Int) = (j : Int) /\ j < us.length := ⟨(z % (us.length : Int)).toNat, by have := Int.emod_nonneg z (b := (us.length : Int)) (by omega); omega, by have := Int.emod_lt_of_pos z (b := (us.length : Int)) (by omega); omega⟩
     rw [ej]
     obtain ⟨r, hwj, hrj⟩ := qJ hd (List.getElem?_eq_getElem hj)
     obtain ⟨wa, wl, ewa, hwa, hwl2⟩ := hrj
     obtain ⟨as, rfl, hal, hall⟩ := pbAt hwl2
     have hat : atI us (j : Int) = some (V.ref wa) := by rw [← ewa]; exact xA (List.getElem?_eq_getElem hj)
     have hr4 := (hwy.2.2 r (List.mem_of_getElem? hwj)).1
     refine zW (fun σ H2 => ∃ (p3 : Addr) (zl : List Str), Same H' H2 /\ H2 p3 = some (.lst (zl.map V.str)) /\ (∀ x ∈ zl, x ∈ zs) /\ zl.length <= 5 /\ σ = [some (V.ref a), some (V.int k), some (V.int m), some (V.ref na), some (V.ref p), some (V.int ((k + i : Nat) : Int)), some (V.int z), some (V.int j), some (V.ref p3), o9]) (fun N hN => ?_) (fun σ H2 h => ?_)
     · simp! []
       refine ⟨⟨_, SqL.of (es _ _ hna)⟩, ?_⟩
       refine lc_listIfT (xs := zs.map V.str) (fun i' ys σ H2 => ∃ (zl : List Str), Same H' H2 /\ ys = zl.map V.str /\ (∀ x ∈ zl, x ∈ zs) /\ zl.length <= i' /\ ∃ o, σ = [o, some (V.ref p), some (V.int j)]) ⟨[], Same.refl _, rfl, (fun x hx => by cases hx), Nat.le_refl _, _, rfl⟩ (zI (by rw [List.length_map]; omega)) (fun i' ys σ H2 e => ?_) (fun i' ys σ H2 e => ?_) (fun i' x ys σ H2 C D hx e hC hD => ?_) (fun ys σ H2 e p3 hp3 => hN _ _ ?_)
       · obtain ⟨zl, _, rfl, _, h4, _⟩ := e
         rw [List.length_map]; exact h4
       · obtain ⟨zl, e1, _⟩ := e
         exact SqL.of ((es.trans e1) _ _ hna)
       · obtain ⟨zl, e1, rfl, e3, e4, o, rfl⟩ := e
         rw [List.getElem?_map] at hx
         obtain ⟨y, hy, rfl⟩ := Option.map_eq_some_iff.mp hx
         simp! []
         have e5 := es.trans e1
         refine ⟨_, SqL.of (e1 _ _ kp), _, hat, wa, rfl, ⟨_, SqL.of (e1 _ _ hwa)⟩, ?_⟩
         refine yS (xs := as.map V.ref) (fun i2 ys σ H3 => Same H2 H3 /\ ys = ((r.take i2).map (·.1)).map V.str /\ ∃ o, σ = [o]) ⟨Same.refl _, rfl, _, rfl⟩ (zI (by rw [List.length_map]; omega)) (fun i2 ys σ H3 e => ?_) (fun i2 ys σ H3 e => SqL.of ((e1.trans e.1) _ _ hwa)) (fun i2 u ys σ H3 C' hu e hC' => ?_) (fun ys σ H3 e p4 hp4 => ?_)
         · rw [e.2.1, List.length_map, List.length_map, List.length_take]; omega
         · obtain ⟨e6, rfl, o', rfl⟩ := e
           rw [List.getElem?_map] at hu
           obtain ⟨ua, hua, rfl⟩ := Option.map_eq_some_iff.mp hu
           have hi2 : i2 < r.length := by rw [← hal]; exact (List.getElem?_eq_some_iff.mp hua).1
           obtain ⟨ua', g1, g2⟩ := hall i2 r[i2] (List.getElem?_eq_getElem hi2)
           rw [hua] at g1
           cases g1
           simp! []
           refine ⟨_, SqT.of ((e1.trans e6) _ _ g2), _, at0, hC' _ _ _ ⟨e6, ?_, _, rfl⟩⟩
           rw [List.take_succ_eq_append_getElem hi2, List.map_append, List.map_append]
           rfl
         obtain ⟨e6, rfl, o', rfl⟩ := e
         have e7 := e6.trans (zB hp4 (.lst (((r.take (as.map V.ref).length).map (·.1)).map V.str)))
         have hfl : ∀ l : List Str, (l.map V.str).all flatV = true := fun l => by
           rw [List.all_map]
           exact List.all_eq_true.mpr fun _ _ => rfl
         have kq : upd H3 p4 (.lst (((r.take (as.map V.ref).length).map (·.1)).map V.str)) p4 = some (.lst (((r.take (as.map V.ref).length).map (·.1)).map V.str)) := zC
         generalize upd H3 p4 (.lst (((r.take (as.map V.ref).length).map (·.1)).map V.str)) = Hx at e7 kq ⊢
         have key : ∀ bb : Bool, if bb = true then C (V.str y) [some (V.str y), some (V.ref p), some (V.int j)] Hx else D [some (V.str y), some (V.ref p), some (V.int j)] Hx := fun bb => by
           cases bb with
           | false => exact hD _ _ ⟨zl, e1.trans e7, rfl, e3, by omega, _, rfl⟩
           | true =>
             refine hC _ _ _ ⟨zl ++ [y], e1.trans e7, by rw [List.map_append]; rfl, fun x hx => ?_, by rw [List.length_append]; simp; omega, _, rfl⟩
             rcases List.mem_append.mp hx with hx | hx
             · exact e3 x hx
             · rw [List.mem_singleton.mp hx]; exact List.mem_of_getElem? hy
         exact ⟨p4, _, rfl, .inl (SqL.of kq), rfl, hfl _, _, rfl, key _⟩
       · obtain ⟨zl, e1, rfl, e3, e4, o, rfl⟩ := e
         rw [List.length_map] at e4
         exact ⟨p3, zl, e1.trans (zB hp3 _), zC, e3, by omega, rfl⟩
     obtain ⟨p3, zl, s2, k3, hzl, hz5', rfl⟩ := h
     simp! []
     refine ⟨zl.length, .inl ⟨_, SqL.of k3, (List.length_map _).symm⟩, ?_⟩
     by_cases c0 : (0 : Int) < (zl.length : Int)
     · rw [if_pos c0]
       obtain ⟨j2, ej2, hj2⟩ : ∃ j : Nat, z / 60 % (zl.length : Int) = (j : Int) /\ j < zl.length := ⟨(z / 60 % (zl.length : Int)).toNat, by have := Int.emod_nonneg (z / 60) (b := (zl.length : Int)) (by omega); omega, by have := Int.emod_lt_of_pos (z / 60) (b := (zl.length : Int)) (by omega); omega⟩
       have hat2 : atI (zl.map V.str) (z / 60 % (zl.length : Int)) = some (V.str zl[j2]) := by
         rw [ej2]
         exact xA (by rw [List.getElem?_map, List.getElem?_eq_getElem hj2]; rfl)
       have hy := hzl _ (List.getElem_mem hj2)
       generalize zl[j2] = y at hat2 hy
       replace kp := s2 _ _ kp
       replace hd := DAts.same s2 hd
       replace hwa := s2 _ _ hwa
       replace hwl2 := DAts.same s2 hwl2
       replace es := es.trans s2
       refine ⟨⟨by decide, by decide⟩, zl.length, .inl ⟨_, SqL.of k3, (List.length_map _).symm⟩, by omega, _, SqL.of k3, _, hat2, _, SqL.of kp, fun q1 hq1 => ?_⟩
       rw [qY us j (by omega)]
       clear s2 k3 hat2 ej2 c0
       have s3 := zB hq1 (.lst (us.take j))
       have kq1 : upd H2 q1 (.lst (us.take j)) q1 = some (.lst (us.take j)) := zC
       generalize upd H2 q1 (.lst (us.take j)) = H3 at s3 kq1 ⊢
       refine ⟨_, SqL.of (s3 _ _ kp), _, hat, zI (by decide), fun q2 hq2 => ?_⟩
       have s4 := s3.trans (zB hq2 (.tup [V.str y, V.bl true]))
       have kq2 : upd H3 q2 (.tup [V.str y, V.bl true]) q2 = some (.tup [V.str y, V.bl true]) := zC
       replace kq1 := zB hq2 (.tup [V.str y, V.bl true]) _ _ kq1
       generalize upd H3 q2 (.tup [V.str y, V.bl true]) = H4 at s4 kq1 kq2 ⊢
       refine ⟨zI (by decide), fun q3 hq3 => ?_⟩
       have s5 := s4.trans (zB hq3 (.lst [V.ref q2]))
       have kq3 : upd H4 q3 (.lst [V.ref q2]) q3 = some (.lst [V.ref q2]) := zC
       replace kq1 := zB hq3 (.lst [V.ref q2]) _ _ kq1
       replace kq2 := zB hq3 (.lst [V.ref q2]) _ _ kq2
       generalize upd H4 q3 (.lst [V.ref q2]) = H5 at s5 kq1 kq2 kq3 ⊢
       refine ⟨wa, rfl, _, s5 _ _ hwa, _, kq3, zI (by rw [List.length_map]; simp; omega), fun q4 hq4 => ?_⟩
       have e5 := zB hq4 (.lst (as.map V.ref ++ [V.ref q2]))
       have s6 := s5.trans e5
       have dq4 : DAt (upd H5 q4 (.lst (as.map V.ref ++ [V.ref q2]))) (dRd (r ++ [(y, true)])) (V.ref q4) := by
         refine ⟨q4, _, rfl, zC, ?_⟩
         rw [List.map_append]
         exact DAts.append (DAts.same s6 hwl2) (DAts.one ⟨q2, _, rfl, e5 _ _ kq2, _, _, rfl, rfl, _, _, rfl, rfl, rfl⟩)
       replace kq1 := e5 _ _ kq1
       generalize upd H5 q4 (.lst (as.map V.ref ++ [V.ref q2])) = H6 at s6 kq1 dq4 ⊢
       clear s3 s4 s5 e5 kq2 kq3 hq2 hq3 hq4
       refine ⟨_, SqL.of (s6 _ _ kp), _, hat, zI (by decide), fun q2 hq2 => ?_⟩
       have t4 := zB hq2 (.tup [V.str y, V.bl false])
       have kq2 : upd H6 q2 (.tup [V.str y, V.bl false]) q2 = some (.tup [V.str y, V.bl false]) := zC
       generalize upd H6 q2 (.tup [V.str y, V.bl false]) = H7 at t4 kq2 ⊢
       refine ⟨zI (by decide), fun q3 hq3 => ?_⟩
       have t5 := t4.trans (zB hq3 (.lst [V.ref q2]))
       have kq3 : upd H7 q3 (.lst [V.ref q2]) q3 = some (.lst [V.ref q2]) := zC
       replace kq2 := zB hq3 (.lst [V.ref q2]) _ _ kq2
       generalize upd H7 q3 (.lst [V.ref q2]) = H8 at t5 kq2 kq3 ⊢
       refine ⟨wa, rfl, _, (s6.trans t5) _ _ hwa, _, kq3, zI (by rw [List.length_map]; simp; omega), fun q5 hq5 => ?_⟩
       have e5 := zB hq5 (.lst (as.map V.ref ++ [V.ref q2]))
       have t6 := t5.trans e5
       have dq5 : DAt (upd H8 q5 (.lst (as.map V.ref ++ [V.ref q2]))) (dRd (r ++ [(y, false)])) (V.ref q5) := by
         refine ⟨q5, _, rfl, zC, ?_⟩
         rw [List.map_append]
         exact DAts.append (DAts.same (s6.trans t6) hwl2) (DAts.one ⟨q2, _, rfl, e5 _ _ kq2, _, _, rfl, rfl, _, _, rfl, rfl, rfl⟩)
       replace kq1 := t6 _ _ kq1
       replace dq4 := DAt.same t6 dq4
       have s9 := s6.trans t6
       generalize upd H8 q5 (.lst (as.map V.ref ++ [V.ref q2])) = H9 at s9 kq1 dq4 dq5 ⊢
       clear s6 t4 t5 t6 e5 kq2 kq3 hq2 hq3 hq5
       refine ⟨zI (by decide), fun q6 hq6 => ?_⟩
       have s10 := s9.trans (zB hq6 (.lst [V.ref q4, V.ref q5]))
       have kq6 : upd H9 q6 (.lst [V.ref q4, V.ref q5]) q6 = some (.lst [V.ref q4, V.ref q5]) := zC
       replace kq1 := zB hq6 (.lst [V.ref q4, V.ref q5]) _ _ kq1
       replace dq4 := DAt.same (zB hq6 (.lst [V.ref q4, V.ref q5])) dq4
       replace dq5 := DAt.same (zB hq6 (.lst [V.ref q4, V.ref q5])) dq5
       generalize upd H9 q6 (.lst [V.ref q4, V.ref q5]) = H10 at s10 kq1 kq6 dq4 dq5 ⊢
       refine ⟨_, kq1, _, kq6, zI (by rw [List.length_take]; simp; omega), fun q7 hq7 => ?_⟩
       have e7 := zB hq7 (.lst (us.take j ++ [V.ref q4, V.ref q5]))
       have s11 := s10.trans e7
       have kq7 : upd H10 q7 (.lst (us.take j ++ [V.ref q4, V.ref q5])) q7 = some (.lst (us.take j ++ [V.ref q4, V.ref q5])) := zC
       replace dq4 := DAt.same e7 dq4
       replace dq5 := DAt.same e7 dq5
       generalize upd H10 q7 (.lst (us.take j ++ [V.ref q4, V.ref q5])) = H11 at s11 kq7 dq4 dq5 ⊢
       refine ⟨_, SqL.of (s11 _ _ kp), fun q8 hq8 => ?_⟩
       rw [show ((j : Nat) : Int) + 1 = ((j + 1 : Nat) : Int) by omega, cut_drop us (j + 1) (by omega)]
       have e8 := zB hq8 (.lst (us.drop (j + 1)))
       have s12 := s11.trans e8
       have kq8 : upd H11 q8 (.lst (us.drop (j + 1))) q8 = some (.lst (us.drop (j + 1))) := zC
       replace dq4 := DAt.same e8 dq4
       replace dq5 := DAt.same e8 dq5
       replace kq7 := e8 _ _ kq7
       generalize upd H11 q8 (.lst (us.drop (j + 1))) = H12 at s12 kq7 kq8 dq4 dq5 ⊢
       refine ⟨_, kq7, _, kq8, zI (by rw [List.length_append, List.length_take, List.length_drop]; simp; omega), fun q9 hq9 => ?_⟩
       have e9 := zB hq9 (.lst (us.take j ++ [V.ref q4, V.ref q5] ++ us.drop (j + 1)))
       have dall : DAts (upd H12 q9 (.lst (us.take j ++ [V.ref q4, V.ref q5] ++ us.drop (j + 1)))) ((ws.take j ++ [r ++ [(y, true)], r ++ [(y, false)]] ++ ws.drop (j + 1)).map dRd) (us.take j ++ [V.ref q4, V.ref q5] ++ us.drop (j + 1)) := by
         have hd' := DAts.same (s12.trans e9) hd
         rw [List.map_append, List.map_append, List.map_take, List.map_drop]
         exact DAts.append (DAts.append (DAts.tk j hd') ⟨_, _, rfl, DAt.same e9 dq4, _, _, rfl, DAt.same e9 dq5, rfl⟩) (DAts.dp (j + 1) hd')
       exact ⟨es.trans (s12.trans e9), q9, _, zC, _, dall, hwy.two hwj hy, rfl, _, rfl⟩
     · rw [if_neg c0]
       exact ⟨es.trans s2, p, us, s2 _ _ kp, ws, DAts.same s2 hd, hwy.up, rfl, _, rfl⟩
   · obtain ⟨p, us, ws, o5, o6, o7, o8, o9, es, kp, hd, hwy, rfl⟩ := h
     have em : ((k : Int) + (m : Int) - (k : Int)).toNat = m := by omega
     rw [em] at hwy
     exact hN _ _ ⟨p, us, ws, _, _, _, _, _, es, kp, hd, hwy, rfl⟩
 obtain ⟨p, us, ws, o5, o6, o7, o8, o9, es, kp, hd, hwy, rfl⟩ := h
 simp! []
 exact q p us ws _ es kp hd hwy
theorem vN (bi : Bi mg) (h_z : Has P w K mg base 1 "_law_side" ["name", "side"] spSi) (F : Fun K "_law_way_rules" "_law_way_rules" s_h f fd) : FnOk P w K mg base CX0 2 f fd ["ways", "saying"] spWr := by
 refine F.ok sc_h (fun vs H Q E h => ?_) (fun cdv A outer s H vs Q E hr h => ?_)
 · obtain ⟨p, v, us, ws, zs, s, rfl, _⟩ := h
   rfl
 obtain ⟨p, v, us, ws, zs, sy, rfl, kp, hd, hwy, hnm, hs, q⟩ := h
 refine ⟨_, (zF (zL (yP ["way"] ["saying"] [1] (yE (pv 0)) (fun _ _ _ _ nd => zP (i := 0) nd rfl (Or.inl rfl)) (fun _ _ _ _ => yI) (fun _ _ _ _ => (zY (zA (by exact (yP ["one"] [] [] (qQ K (pv 0)) (fun _ _ _ _ nd => zP (i := 0) nd rfl (Or.inl rfl)) (fun _ _ _ _ => yI) (fun _ _ _ _ => (zK h_z (hr.mono (by omega)) rfl (zA (zS (xT K) (pv 0) zE (fun _ _ => rfl)) (zA (zS (xT K) (pv 0) zE (fun _ _ => rfl)) pa_nil)))))) (zA (pv 1) pa_nil))))))), ?_⟩
 have hul : us.length = ws.length := by have := DAts.length hd; rwa [List.length_map] at this
 have hwl := hwy.1
 simp! []
 refine ⟨⟨_, SqL.of kp⟩, ?_⟩
 refine yS (xs := us) (fun i ys σ H' => Same H H' /\ (∃ b : List Rul, RAts H' b ys /\ b.length = i /\ ∀ r ∈ b, Wr zs sy r) /\ ∃ o, σ = [o, some v]) ⟨Same.refl _, ⟨[], rfl, rfl, fun r hr => by cases hr⟩, _, rfl⟩ (zI (by omega)) (fun i ys σ H' e => ?_) (fun i ys σ H' e => SqL.of (e.1 _ _ kp)) (fun i x ys σ H' C hx e hC => ?_) (fun ys σ H' e p3 hp3 => ?_)
 · obtain ⟨_, ⟨b, h1, h2, _⟩, _⟩ := e
   rw [h1.length, h2]
   exact Nat.le_refl _
 · obtain ⟨es, ⟨b, hb, hbl, hbw⟩, o, rfl⟩ := e
   obtain ⟨r, hwi, hri⟩ := qJ hd hx
   obtain ⟨wa, wl, rfl, hwa, hwl2⟩ := hri
   obtain ⟨as, rfl, hal, hall⟩ := pbAt hwl2
   have hr4 := hwy.2.2 r (List.mem_of_getElem? hwi)
   simp! []
   refine ⟨⟨_, SqL.of (es _ _ hwa)⟩, ?_⟩
   refine yS (xs := as.map V.ref) (fun j ys σ H2 => Same H' H2 /\ (∃ ps : List (Tm × Tm), SAts H2 ps ys /\ ps.length = j /\ ∀ p ∈ ps, Gs zs p) /\ ∃ o, σ = [o]) ⟨Same.refl _, ⟨[], rfl, rfl, fun p hp => by cases hp⟩, _, rfl⟩ (zI (by rw [List.length_map]; omega)) (fun j ys σ H2 e => ?_) (fun j ys σ H2 e => SqL.of ((es.trans e.1) _ _ hwa)) (fun j u ys σ H2 C' hu e hC' => ?_) (fun ys2 σ H2 e p4 hp4 => ?_)
   · obtain ⟨_, ⟨ps, h1, h2, _⟩, _⟩ := e
     rw [SAts.length h1, h2]
     exact Nat.le_refl _
   · obtain ⟨e6, ⟨ps, hps, hpl, hpg⟩, o', rfl⟩ := e
     rw [List.getElem?_map] at hu
     obtain ⟨ua, hua, rfl⟩ := Option.map_eq_some_iff.mp hu
     have hi2 : j < r.length := by rw [← hal]; exact (List.getElem?_eq_some_iff.mp hua).1
     obtain ⟨ua', g1, g2⟩ := hall j r[j] (List.getElem?_eq_getElem hi2)
     rw [hua] at g1
     cases g1
     have g3 := (es.trans e6) _ _ g2
     simp! []
     have hxz := hr4.2 _ (List.getElem_mem hi2)
     refine ⟨_, SqT.of g3, _, at0, _, SqT.of g3, _, at1, r[j].1, r[j].2, rfl, hnm _ hxz, fun v' s' H3 s3 h3 hg => hC' _ _ _ ⟨e6.trans s3, ⟨ps ++ [s'], ?_, by rw [List.length_append, hpl]; rfl, fun p hp => ?_⟩, _, rfl⟩⟩
     · unfold SAts
       rw [List.map_append]
       exact DAts.append (DAts.same s3 hps) (DAts.one h3)
     · rcases List.mem_append.mp hp with hp | hp
       · exact hpg p hp
       · rw [List.mem_singleton.mp hp]
         exact ⟨hg.1, hg.2.1, fun x hx => by rw [List.mem_singleton.mp (hg.2.2 x hx)]; exact hxz⟩
   obtain ⟨e6, ⟨ps, hps, hpl, hpg⟩, o', rfl⟩ := e
   rw [List.length_map] at hpl
   refine ⟨zI (by decide), fun p5 hp5 => hC _ _ _ ?_⟩
   have s4 := zB hp4 (.lst ys2)
   have s5 := zB hp5 (.tup [V.ref p4, v])
   have s6 := (e6.trans s4).trans s5
   refine ⟨es.trans s6, ⟨b ++ [(ps, sy)], ?_, by rw [List.length_append, hbl]; rfl, fun r' hr' => ?_⟩, _, rfl⟩
   · unfold RAts
     rw [List.map_append]
     exact DAts.append (DAts.same s6 hb) (DAts.one ⟨p5, _, rfl, zC, _, _, rfl, ⟨p4, ys2, rfl, s5 _ _ zC, DAts.same (s4.trans s5) hps⟩, _, _, rfl, DAt.same (es.trans s6) hs, rfl⟩)
   · rcases List.mem_append.mp hr' with hr' | hr'
     · exact hbw r' hr'
     · rw [List.mem_singleton.mp hr']
       exact ⟨by show ps.length <= 4; omega, hpg, rfl⟩
 obtain ⟨es, ⟨b, hb, hbl, hbw⟩, o, rfl⟩ := e
 exact q p3 ys b _ _ es ⟨rfl, hp3⟩ hb (by omega) hbw
end
abbrev s_a : Stmt := top 29
theorem sc_a : FnScope ["book", "saying", "names", "many", "name", "bits", "sides", "rest"] ["book", "saying", "names"] (zG s_a) := ⟨rfl, rfl, rfl, by decide +kernel, rfl, by decide +kernel, by decide +kernel⟩
def bR : List Str -> Nat -> List (Str × Bool)
 | [], _ => []
 | z :: zr, n => bR zr (n / 2) ++ [(z, n % 2 == 1)]
theorem two_get {α β : Type} (a b : α -> β) : ∀ (rs : List α) (n : Nat), (rs.flatMap fun r => [a r, b r])[n]? = (rs[n / 2]?).map fun r => if n % 2 == 1 then b r else a r
 | [], n => by simp
 | r :: rs, 0 => rfl
 | r :: rs, 1 => rfl
 | r :: rs, n + 2 => by
   have e1 : (n + 2) / 2 = n / 2 + 1 := by omega
   have e2 : (n + 2) % 2 = n % 2 := by omega
   rw [List.flatMap_cons, e1, e2]
   show (rs.flatMap fun r => [a r, b r])[n]? = _
   rw [two_get a b rs n]
   rfl
theorem rdg_snoc (zs : List Str) (z : Str) : rdg (zs ++ [z]) = (rdg zs).flatMap fun r => [r ++ [(z, false)], r ++ [(z, true)]] := by
 unfold rdg
 rw [List.foldl_append]
 rfl
theorem rdg_bit : ∀ (zr : List Str) (n : Nat), n < 2 ^ zr.length -> (rdg zr.reverse)[n]? = some (bR zr n)
 | [], n, h => by
   have e : n = 0 := by simp at h; omega
   subst e
   rfl
 | z :: zr, n, h => by
   rw [List.reverse_cons, rdg_snoc, two_get, rdg_bit zr (n / 2) (by rw [List.length_cons, Nat.pow_succ] at h; omega)]
   show some _ = some (bR zr (n / 2) ++ [(z, n % 2 == 1)])
   cases n % 2 == 1 <;> rfl
theorem rdg_num (zr : List Str) : (rdg zr.reverse).length = 2 ^ zr.length := by
 have := (rdg_lens zr.reverse [[]] 0 (fun r hr => by rw [List.mem_singleton.mp hr]; rfl)).1
 rw [List.length_reverse] at this
 unfold rdg
 rw [this]
 simp
theorem bR_nms : ∀ (zr : List Str) (n : Nat), (bR zr n).map (·.1) = zr.reverse
 | [], n => rfl
 | z :: zr, n => by
   rw [bR, List.map_append, bR_nms zr, List.reverse_cons]
   rfl
theorem lkR_left : ∀ {r : List (Str × Bool)} {x : Str} (q : List (Str × Bool)), x ∈ r.map (·.1) -> lkR (r ++ q) x = lkR r x
 | p :: r, x, q, h => by
   show (if p.1 = x then p.2 else lkR (r ++ q) x) = (if p.1 = x then p.2 else lkR r x)
   by_cases e : p.1 = x
   · rw [if_pos e, if_pos e]
   · rw [if_neg e, if_neg e]
     refine lkR_left q ?_
     rcases List.mem_cons.mp h with h | h
     · exact absurd h.symm e
     · exact h
theorem lkR_right : ∀ {r : List (Str × Bool)} {x : Str} (q : List (Str × Bool)), x ∉ r.map (·.1) -> lkR (r ++ q) x = lkR q x
 | [], x, q, h => rfl
 | p :: r, x, q, h => by
   show (if p.1 = x then p.2 else lkR (r ++ q) x) = _
   rw [if_neg (fun e => h (by rw [← e]; exact List.mem_cons_self))]
   exact lkR_right q fun z => h (List.mem_cons_of_mem _ z)
theorem nodup_rev {zs : List Str} (h : zs.Nodup) : zs.reverse.Nodup := (List.reverse_perm zs).nodup_iff.mpr h
theorem bR_lk : ∀ (zr : List Str) (n i : Nat) (z : Str), zr.Nodup -> zr[i]? = some z -> lkR (bR zr n) z = (n / 2 ^ i % 2 == 1)
 | z :: zr, n, 0, y, hn, h => by
   cases h
   have := (List.nodup_cons.mp hn).1
   rw [bR, lkR_right _ (by rw [bR_nms]; simpa using this)]
   show (if z = z then _ else _) = _
   rw [if_pos rfl, Nat.pow_zero, Nat.div_one]
 | z :: zr, n, i + 1, y, hn, h => by
   have hy : zr[i]? = some y := h
   rw [bR, lkR_left _ (by rw [bR_nms, List.mem_reverse]; exact List.mem_of_getElem? hy), bR_lk zr (n / 2) i y (List.nodup_cons.mp hn).2 hy, Nat.div_div_eq_div_mul, Nat.pow_succ, Nat.mul_comm]
theorem rd_self : ∀ {r : List (Str × Bool)}, (r.map (·.1)).Nodup -> r = (r.map (·.1)).map fun z => (z, lkR r z)
 | [], _ => rfl
 | p :: r, h => by
   obtain ⟨h1, h2⟩ := List.nodup_cons.mp h
   rw [List.map_cons, List.map_cons]
   show p :: r = (p.1, if p.1 = p.1 then p.2 else _) :: _
   rw [if_pos rfl]
   have e : (r.map (·.1)).map (fun z => (z, lkR (p :: r) z)) = (r.map (·.1)).map fun z => (z, lkR r z) := List.map_congr_left fun z hz => by
     show (z, if p.1 = z then p.2 else _) = _
     rw [if_neg (fun e => h1 (by show p.1 ∈ _; rw [e]; exact hz))]
   rw [e, ← rd_self h2]
def spOr : Sp := fun vs H Q _ => ∃ (ba na : Addr) (v : V) (bs : List V) (b : List Rul) (s : Tm × Tm) (zs : List Str), vs = [.ref ba, v, .ref na] /\ H ba = some (.lst bs) /\ RAts H b bs /\ SAt H s v /\ Fo b s /\ H na = some (.lst (zs.map V.str)) /\ zs.length <= 4 /\ zs.Nodup /\ (∀ x, x ∈ nmss (tmB b ++ tmP s) -> x ∈ zs) /\
 ∀ u H', Same H H' -> (match (rdg zs).find? (fun r => opB (lkR r) b s) with | none => u = .non | some r => DAt H' (dRd r) u) -> Q u H'
section
variable {P : Program} {w : World} {K : PySem.W.Frag} {mg : Str -> Option Value} {base : Heap} {f : Addr} {fd : FuncData}
theorem qC (bi : Bi mg) (brv : mg "reversed" = none) (h_x : Has P w K mg base 22 "_law_good" ["sides", "saying"] spHy) (h_g : Has P w K mg base 23 "_law_good_rule" ["sides", "rule"] spFy) (F : Fun K "_law_open_reading" "_law_open_reading" s_a f fd) : FnOk P w K mg base CX0 24 f fd ["book", "saying", "names"] spOr := by
 refine F.ok sc_a (fun vs H Q E h => ?_) (fun cdv A outer s H vs Q E hr h => ?_)
 · obtain ⟨ba, na, v, bs, b, s, zs, rfl, _⟩ := h
   rfl
 obtain ⟨ba, na, v, bs, b, sy, zs, rfl, hba, hbs, hs, hfo, hna, hz4, hnd, hfew, q⟩ := h
 refine ⟨_, (zD (zN (i := 3) sc_a.nd rfl (Or.inl rfl) zE) (zD (yK PassesOwn.never rfl (yE (pv 2)) (zP (i := 4) sc_a.nd rfl (Or.inl rfl)) (zF (zN (i := 3) sc_a.nd rfl (Or.inl rfl) (zJ op_mul zE (pv 3))))) (zD (yK PassesOwn.never rfl (xD rfl bi.range (zA (pv 3) pa_nil)) (zP (i := 5) sc_a.nd rfl (Or.inl rfl)) (zD (zN (i := 6) sc_a.nd rfl (Or.inr rfl) pe_dnewK) (zD (zN (i := 7) sc_a.nd rfl (Or.inl rfl) (pv 5)) (zD (yK PassesOwn.never rfl (pi_rev rfl brv (zA (pv 2) pa_nil)) (zP (i := 4) sc_a.nd rfl (Or.inl rfl)) (zD (ps_dput (hu_of hr) (pv 6) (pv 4) (xJ op_eq (zJ op_mod (pv 7) zE) zE (zR _)) rfl) (zF (zN (i := 7) sc_a.nd rfl (Or.inl rfl) (zJ op_fdiv (pv 7) zE))))) (zF (yC (PW.pt (vK (jT (zM call_all rfl bi.all bt_all (zA (yP ["rule"] ["sides"] [6] (yE (pv 0)) (fun _ _ _ _ nd => zP (i := 0) nd rfl (Or.inl rfl)) (fun _ _ _ _ => yI) (fun _ _ _ _ => (zK h_g (hr.mono (by omega)) rfl (zA (pv 1) (zA (pv 0) pa_nil))))) pa_nil))) (qH (pt_not (jT (zK h_x (hr.mono (by omega)) rfl (zA (pv 6) (zA (pv 1) pa_nil)))))))) (zF (zL (yP ["name"] ["sides"] [6] (yE (pv 2)) (fun _ _ _ _ nd => zP (i := 0) nd rfl (Or.inl rfl)) (fun _ _ _ _ => yI) (fun _ _ _ _ => (zY (zA (pv 0) (zA (vL (hu_of hr) (pv 1) (pv 0) (fun _ _ => rfl)) pa_nil))))))) pss_nil)))))) (zF (zL qR))))), ?_⟩
 have hbl : bs.length = b.length := RAts.length hbs
 have hb20 := hfo.1
 refine zH fun N hN => ?_
 simp! []
 refine hN _ _ ?_
 clear hN
 refine zW (fun σ H' => H = H' /\ ∃ o4, σ = [some (V.ref ba), some v, some (V.ref na), some (V.int ((2 ^ zs.length : Nat) : Int)), o4, none, none, none]) (fun N hN => ?_) (fun σ H' h => ?_)
 · simp! []
   refine ⟨⟨_, SqL.of hna⟩, ?_⟩
   refine yX (xs := zs.map V.str) (fun i σ H' => H = H' /\ ∃ o4, σ = [some (V.ref ba), some v, some (V.ref na), some (V.int ((2 ^ i : Nat) : Int)), o4, none, none, none]) ⟨rfl, _, rfl⟩ (fun i σ H' _ h => by rw [← h.1]; exact SqL.of hna) (fun i x σ H' hx h => ?_) (fun σ H' h => ?_)
   · obtain ⟨rfl, o4, rfl⟩ := h
     simp! []
     exact ⟨.inl ⟨by decide, by decide⟩, by rw [Nat.pow_succ]; omega, _, rfl⟩
   · obtain ⟨rfl, o4, rfl⟩ := h
     rw [List.length_map]
     exact hN _ _ ⟨rfl, _, rfl⟩
 obtain ⟨rfl, o4, rfl⟩ := h
 have hrl : (rdg zs).length = 2 ^ zs.length := by have := rdg_num zs.reverse; rwa [List.reverse_reverse, List.length_reverse] at this
 have h16 : 2 ^ zs.length <= 16 := Nat.le_trans (Nat.pow_le_pow_right (by decide) hz4) (by decide)
 refine zW (fun σ H' => Same H H' /\ (rdg zs).find? (fun r => opB (lkR r) b sy) = none) (fun N hN => ?_) (fun σ H' h => ?_)
 · simp! []
   refine ⟨by omega, by omega, ?_⟩
   refine xH (n := ((2 ^ zs.length : Nat) : Int).toNat) (fun i σ H' => Same H H' /\ ((rdg zs).take i).find? (fun r => opB (lkR r) b sy) = none /\ ∃ o4 o5 o6 o7, σ = [some (V.ref ba), some v, some (V.ref na), some (V.int ((2 ^ zs.length : Nat) : Int)), o4, o5, o6, o7]) ⟨Same.refl _, rfl, _, _, _, _, rfl⟩ (fun n σ H' hn h => ?_) (fun σ H' h => ?_)
   · obtain ⟨es, hnone, o4, o5, o6, o7, rfl⟩ := h
     have hn16 : n < 2 ^ zs.length := by omega
     have hri : (rdg zs)[n]? = some (bR zs.reverse n) := by have := rdg_bit zs.reverse n (by rw [List.length_reverse]; exact hn16); rwa [List.reverse_reverse] at this
     have hrm : (bR zs.reverse n).map (·.1) = zs := by rw [bR_nms, List.reverse_reverse]
     have hlk : ∀ (i : Nat) (z : Str), zs.reverse[i]? = some z -> lkR (bR zs.reverse n) z = (n / 2 ^ i % 2 == 1) := fun i z h => bR_lk _ n i z (nodup_rev hnd) h
     generalize bR zs.reverse n = r at hri hrm hlk
     refine zH fun N hN => ?_
     simp! []
     refine fun d hd => hN _ _ ?_
     clear hN
     have k0 : upd H' d (.dK []) d = some (.dK []) := zC
     have s0 := zB hd (.dK [])
     generalize upd H' d (.dK []) = H0 at k0 s0 ⊢
     refine zH fun N hN => ?_
     simp! []
     refine hN _ _ ?_
     clear hN
     refine zW (fun σ H2 => ∃ (kvs : List (Key × V)) (o4 o7 : Option V), Same H' H2 /\ H2 d = some (.dK kvs) /\ (∀ x ∈ zs, yQ kvs (.inr x) = some (.bl (lkR r x))) /\ σ = [some (V.ref ba), some v, some (V.ref na), some (V.int ((2 ^ zs.length : Nat) : Int)), o4, some (V.int (0 + (n : Int))), some (V.ref d), o7]) (fun N hN => ?_) (fun σ H2 h => ?_)
     · simp! [iRev]
       refine ⟨zs.map V.str, s0 _ _ (es _ _ hna), ?_⟩
       refine fw_rev (xs := zs.map V.str) (fun i σ H2 => ∃ (kvs : List (Key × V)) (o4 : Option V), Same H' H2 /\ H2 d = some (.dK kvs) /\ kvs.length <= i /\ (∀ (j : Nat) x, j < i -> zs.reverse[j]? = some x -> yQ kvs (.inr x) = some (.bl (lkR r x))) /\ σ = [some (V.ref ba), some v, some (V.ref na), some (V.int ((2 ^ zs.length : Nat) : Int)), o4, some (V.int (0 + (n : Int))), some (V.ref d), some (V.int ((n / 2 ^ i : Nat) : Int))]) ⟨[], o4, s0, k0, Nat.le_refl _, fun j x hj => absurd hj (Nat.not_lt_zero _), ?_⟩ (fun i σ H2 h => ?_) (fun i x σ H2 hi hx h => ?_) (fun σ H2 h => ?_)
       · rw [Nat.pow_zero, Nat.div_one, Int.zero_add]
       · obtain ⟨kvs, o4, s2, _⟩ := h
         exact s2 _ _ (es _ _ hna)
       · obtain ⟨kvs, o4, s2, kd, hkl, hkv, rfl⟩ := h
         rw [List.length_map] at hi hx
         rw [List.getElem?_map] at hx
         obtain ⟨z, hz, rfl⟩ := Option.map_eq_some_iff.mp hx
         have hzr : zs.reverse[i]? = some z := by rw [List.getElem?_reverse hi]; exact hz
         refine zH fun N hN => ?_
         simp! [sDPut]
         have el : lkR r z = decide (((n / 2 ^ i : Nat) : Int) % 2 = 1) := by
           rw [hlk i z hzr]
           generalize n / 2 ^ i = m
           by_cases c : m % 2 = 1
           · rw [decide_eq_true (by omega), c]; rfl
           · rw [decide_eq_false (by omega), show m % 2 = 0 by omega]; rfl
         refine ⟨by decide, rfl, _, DPut.k (k := .inr z) kd (zI (by omega)), hN _ _ ?_⟩
         clear hN
         simp! []
         refine ⟨⟨by decide, by decide⟩, s2.upd hd, _, zC, Nat.le_trans (xR _ _ _) (by omega), fun j x hj hxj => ?_, ?_⟩
         · rw [valV_put]
           by_cases c : x = z
           · subst c
             rw [if_pos rfl, el]
           · rw [if_neg (fun e => c (Sum.inr.inj e))]
             refine hkv j x ?_ hxj
             have : j ≠ i := fun e => by
               rw [e, hzr] at hxj
               exact c (Option.some.inj hxj).symm
             omega
         · rw [Nat.pow_succ, ← Nat.div_div_eq_div_mul]
           generalize n / 2 ^ i = m
           omega
       · obtain ⟨kvs, o4, s2, kd, hkl, hkv, rfl⟩ := h
         refine hN _ _ ⟨kvs, _, _, s2, kd, fun x hx => ?_, rfl⟩
         obtain ⟨j, hj⟩ := List.getElem?_of_mem (List.mem_reverse.mpr hx)
         refine hkv j x ?_ hj
         have := (List.getElem?_eq_some_iff.mp hj).1
         rw [List.length_reverse] at this
         rw [List.length_map]
         exact this
     obtain ⟨kvs, o4, o7, s2, kd, hkv, rfl⟩ := h
     simp! []
     have s02 := es.trans s2
     have hSy : ∀ p : Tm × Tm, (∀ t, t = p.1 \/ t = p.2 -> t ∈ tmB b ++ tmP sy) -> Sy kvs (lkR r) p := fun p hp => ⟨hfo.2.2.1 _ (hp _ (.inl rfl)), hfo.2.2.1 _ (hp _ (.inr rfl)), fun x hx => hkv x (by
       refine hfew x (nmss_mem.mpr ?_)
       rcases hx with hx | hx
       · exact ⟨_, hp _ (.inl rfl), hx⟩
       · exact ⟨_, hp _ (.inr rfl), hx⟩)⟩
     have inB : ∀ r' ∈ b, ∀ t ∈ tmR r', t ∈ tmB b ++ tmP sy := fun r' hr' t ht => List.mem_append_left _ (List.mem_flatMap.mpr ⟨r', hr', ht⟩)
     have hRy : ∀ r' ∈ b, Ry kvs (lkR r) r' := fun r' hr' => by
       refine ⟨Nat.le_trans (hfo.2.1 r' hr') (by decide), fun p hp => hSy p fun t ht => inB r' hr' t ?_, hSy _ fun t ht => inB r' hr' t ?_⟩
       · unfold tmR yG
         refine List.mem_append_left _ (List.mem_flatMap.mpr ⟨p, hp, ?_⟩)
         rcases ht with rfl | rfl <;> simp [tmP]
       · unfold tmR
         refine List.mem_append_right _ ?_
         rcases ht with rfl | rfl <;> simp [tmP]
     have hSs : Sy kvs (lkR r) sy := hSy _ fun t ht => List.mem_append_right _ (by rcases ht with rfl | rfl <;> simp [tmP])
     obtain ⟨hil, hie⟩ := List.getElem?_eq_some_iff.mp hri
     have htk : (rdg zs).take (n + 1) = (rdg zs).take n ++ [r] := by rw [List.take_succ_eq_append_getElem hil, hie]
     have hno : opB (lkR r) b sy = false -> ((rdg zs).take (n + 1)).find? (fun r => opB (lkR r) b sy) = none := fun c1 => by
       rw [htk, List.find?_append, hnone]
       simp [c1]
     refine ⟨⟨_, SqL.of (s02 _ _ hba)⟩, ?_⟩
     refine yS (xs := bs) (fun i ys σ H3 => Same H2 H3 /\ ys = ((b.take i).map (fiB (lkR r))).map V.bl /\ ∃ o, σ = [o, some (V.ref d)]) ⟨Same.refl _, rfl, _, rfl⟩ (zI (by omega)) (fun i ys σ H3 e => ?_) (fun i ys σ H3 e => SqL.of ((s02.trans e.1) _ _ hba)) (fun i y ys σ H3 C' hyy e hC => ?_) (fun ys σ H3 e p3 hp3 => ?_)
     · rw [e.2.1, List.length_map, List.length_map, List.length_take]; omega
     · obtain ⟨e3, rfl, o, rfl⟩ := e
       obtain ⟨r', hpi, hy'⟩ := RAts.getV hbs hyy
       obtain ⟨hjl, hje⟩ := List.getElem?_eq_some_iff.mp hpi
       simp! []
       refine ⟨d, y, r', kvs, lkR r, rfl, DAt.same (s02.trans e3) hy', e3 _ _ kd, hRy r' (List.mem_of_getElem? hpi), fun H4 s4 => hC _ _ _ ⟨e3.trans s4, ?_, _, rfl⟩⟩
       rw [List.take_succ_eq_append_getElem hjl, hje, List.map_append, List.map_append]
       rfl
     obtain ⟨e3, rfl, o, rfl⟩ := e
     rw [hbl, List.take_of_length_le (Nat.le_refl _)]
     refine ⟨p3, rfl, _, SqL.of zC, ?_⟩
     rw [show (b.map (fiB (lkR r))).all id = b.all (fiB (lkR r)) by rw [List.all_map]; rfl]
     have e4 := e3.trans (zB hp3 (.lst ((b.map (fiB (lkR r))).map V.bl)))
     generalize upd H3 p3 (.lst ((b.map (fiB (lkR r))).map V.bl)) = H4 at e4 ⊢
     cases c1 : b.all (fiB (lkR r)) with
     | false =>
       rw [if_neg (by decide)]
       exact ⟨s02.trans e4, hno (by unfold opB; rw [c1, Bool.and_false]), _, rfl⟩
     | true =>
     rw [if_pos rfl]
     refine ⟨d, v, sy, kvs, lkR r, rfl, DAt.same (s02.trans e4) hs, e4 _ _ kd, hSs, fun H5 s5 => ⟨_, rfl, ?_⟩⟩
     cases c2 : hoB (lkR r) sy with
     | true =>
       rw [if_neg (by decide)]
       exact ⟨s02.trans (e4.trans s5), hno (by unfold opB; rw [c2]; rfl), _, rfl⟩
     | false =>
     rw [if_pos rfl]
     have ef : (rdg zs).find? (fun r => opB (lkR r) b sy) = some r := by
       rw [← List.take_append_drop (n + 1) (rdg zs), List.find?_append, htk, List.find?_append, hnone]
       simp [opB, c1, c2]
     rw [ef] at q
     have s45 := e4.trans s5
     have s05 := s02.trans s45
     refine ⟨⟨_, SqL.of (s05 _ _ hna)⟩, ?_⟩
     refine yS (xs := zs.map V.str) (fun i ys σ H6 => Same H5 H6 /\ DAts H6 ((zs.take i).map fun z => dPb (z, lkR r z)) ys /\ ∃ o, σ = [o, some (V.ref d)]) ⟨Same.refl _, rfl, _, rfl⟩ (zI (by rw [List.length_map]; omega)) (fun i ys σ H6 e => ?_) (fun i ys σ H6 e => SqL.of ((s05.trans e.1) _ _ hna)) (fun i y ys σ H6 C' hyy e hC => ?_) (fun ys σ H6 e p6 hp6 => ?_)
     · have := DAts.length e.2.1
       rw [List.length_map, List.length_take] at this
       omega
     · obtain ⟨e6, hd6, o, rfl⟩ := e
       rw [List.getElem?_map] at hyy
       obtain ⟨z, hz, rfl⟩ := Option.map_eq_some_iff.mp hyy
       obtain ⟨hjl, hje⟩ := List.getElem?_eq_some_iff.mp hz
       simp! []
       have hg : DGet H6 d (V.str z) (some (.bl (lkR r z))) := by
         have := DGet.k (k := .inr z) ((s45.trans e6) _ _ kd)
         rw [hkv z (List.mem_of_getElem? hz)] at this
         exact this
       refine ⟨_, hg, zI (by decide), fun p hp => hC _ _ _ ⟨e6.trans (zB hp _), ?_, _, rfl⟩⟩
       rw [List.take_succ_eq_append_getElem hjl, hje, List.map_append]
       exact DAts.append (DAts.same (zB hp _) hd6) (DAts.one ⟨p, _, rfl, zC, _, _, rfl, rfl, _, _, rfl, rfl, rfl⟩)
     obtain ⟨e6, hd6, o, rfl⟩ := e
     rw [List.length_map, List.take_of_length_le (Nat.le_refl _)] at hd6
     have s6 := zB hp6 (.lst ys)
     refine q _ _ (s05.trans (e6.trans s6)) ⟨p6, ys, rfl, zC, ?_⟩
     have er : r.map dPb = zs.map fun z => dPb (z, lkR r z) := by
       have := rd_self (r := r) (by rw [hrm]; exact hnd)
       rw [hrm] at this
       generalize lkR r = L at this
       rw [this, List.map_map]
       rfl
     rw [er]
     exact DAts.same s6 hd6
   · obtain ⟨es, hnone, o4, o5, o6, o7, rfl⟩ := h
     rw [List.take_of_length_le (by omega)] at hnone
     exact hN _ _ ⟨es, hnone⟩
 obtain ⟨es, hnone⟩ := h
 simp! []
 exact q _ _ es (by rw [hnone])
end
abbrev s_d : Stmt := top 30
theorem sc_d : FnScope ["found", "due"] ["found", "due"] (zG s_d) := ⟨rfl, rfl, rfl, by decide +kernel, rfl, by decide +kernel, by decide +kernel⟩
theorem uY {X : Cx} {T : String} (K : PySem.W.Frag) (h : X.K = K := by rfl) : yZ X (.builtin "isinstance") (fun xs H Q => ∃ x t b, xs = [x, .ty T] /\ TyOf K H x t /\ PySem.W.kitOne K t (.type T) = some b /\ Q (.bl b) H) := by
 subst h
 exact call_isi
theorem dRd_fit (r : List (Str × Bool)) (h : r.length <= 5) : DFit 4 (dRd r) := by
 refine ⟨by rw [List.length_map]; omega, fun d hd => ?_⟩
 obtain ⟨p, _, rfl⟩ := List.mem_map.mp hd
 refine ⟨by simp, fun d hd => ?_⟩
 simp only [List.mem_cons, List.not_mem_nil, or_false] at hd
 rcases hd with rfl | rfl <;> trivial
def spIr : Sp := fun vs H Q _ => ∃ (u1 u2 : V) (o : Option (List (Str × Bool))), vs = [u1, u2] /\ (match o with | none => u1 = .non /\ u2 = .non | some r => DAt H (dRd r) u1 /\ DAt H (dRd r) u2 /\ r.length <= 5) /\ ∀ H', Same H H' -> Q (.bl true) H'
section
variable {P : Program} {w : World} {K : PySem.W.Frag} {mg : Str -> Option Value} {base : Heap} {f : Addr} {fd : FuncData}
theorem uF (bi : Bi mg) (F : Fun K "_law_is_reading" "_law_is_reading" s_d f fd) : FnOk P w K mg base CX0 1 f fd ["found", "due"] spIr := by
 refine F.ok sc_d (fun vs H Q E h => ?_) (fun cdv A outer s H vs Q E hr h => ?_)
 · obtain ⟨u1, u2, o, rfl, _⟩ := h
   rfl
 obtain ⟨u1, u2, o, rfl, ho, q⟩ := h
 refine ⟨_, (zD (yC (zO op_isN (pv 1) qR (zR _)) (zF (zL (xJ op_isN (pv 0) qR (zR _)))) pss_nil) (zD (yC (PW.pt (pw_or (pt_not (jT (zM (call_isi (T := "list")) rfl bi.isinstance bt_isinstance (zA (pv 0) (zA (pe_ty bi.list bt_list rfl) pa_nil))))) (vJ (zO (op_neG hr.units) (pv 0) (pv 1) (zR _))))) (zF (zL yY)) pss_nil) (zF (zL (zM call_all rfl bi.all bt_all (zA (yP ["one"] [] [] (yE (pv 0)) (fun _ _ _ _ nd => zP (i := 0) nd rfl (Or.inl rfl)) (fun _ _ _ _ => yI) (fun _ _ _ _ => (pe_and (zM (uY K (T := "tuple")) rfl bi.isinstance bt_isinstance (zA (pv 0) (zA (pe_ty bi.tuple bt_tuple rfl) pa_nil))) (jU (zM (uY K (T := "bool")) rfl bi.isinstance bt_isinstance (zA (zS (xT K) (pv 0) zE (fun _ _ => rfl)) (zA (pe_ty bi.bool bt_bool rfl) pa_nil))))))) pa_nil)))))), ?_⟩
 refine zH fun N hN => ?_
 simp! []
 cases o with
 | none =>
   obtain ⟨rfl, rfl⟩ := ho
   rw [if_pos rfl, decide_eq_true rfl]
   exact q _ (Same.refl _)
 | some r =>
 obtain ⟨⟨a1, w1, rfl, k1, hw1⟩, ⟨a2, w2, rfl, k2, hw2⟩, h5⟩ := ho
 rw [if_neg (by intro z; cases z)]
 refine hN _ _ ?_
 clear hN
 refine zH fun N hN => ?_
 simp! [rNeG]
 refine ⟨_, .lst k1, _, qV, ?_⟩
 rw [if_neg (by decide)]
 refine ⟨3, dRd r, ⟨a1, w1, rfl, k1, hw1⟩, dRd r, ⟨a2, w2, rfl, k2, hw2⟩, dRd_fit r h5, by decide, ?_⟩
 rw [deq_refl, if_neg (by decide)]
 refine hN _ _ ?_
 clear hN
 obtain ⟨as, rfl, hal, hall⟩ := pbAt hw1
 simp! []
 refine ⟨⟨_, SqL.of k1⟩, ?_⟩
 refine yS (xs := as.map V.ref) (fun i ys σ H' => Same H H' /\ ys = (List.replicate i true).map V.bl /\ ∃ o, σ = [o]) ⟨Same.refl _, rfl, _, rfl⟩ (zI (by rw [List.length_map]; omega)) (fun i ys σ H' e => ?_) (fun i ys σ H' e => SqL.of (e.1 _ _ k1)) (fun i y ys σ H' C' hyy e hC => ?_) (fun ys σ H' e p3 hp3 => ?_)
 · rw [e.2.1, List.length_map, List.length_replicate]; exact Nat.le_refl _
 · obtain ⟨es, rfl, o, rfl⟩ := e
   rw [List.getElem?_map] at hyy
   obtain ⟨ua, hua, rfl⟩ := Option.map_eq_some_iff.mp hyy
   have hi2 : i < r.length := by rw [← hal]; exact (List.getElem?_eq_some_iff.mp hua).1
   obtain ⟨ua', g1, g2⟩ := hall i r[i] (List.getElem?_eq_getElem hi2)
   rw [hua] at g1
   cases g1
   simp! []
   refine ⟨_, .tup (es _ _ g2), _, qV, ?_⟩
   rw [if_pos rfl]
   refine ⟨_, SqT.of (es _ _ g2), _, at1, _, .bl _, _, qV, hC _ _ _ ⟨es, ?_, _, rfl⟩⟩
   rw [List.replicate_succ', List.map_append]
   rfl
 obtain ⟨es, rfl, o, rfl⟩ := e
 refine ⟨p3, rfl, _, SqL.of zC, ?_⟩
 have e : (List.replicate (as.map V.ref).length true).all id = true := List.all_eq_true.mpr fun x hx => (List.mem_replicate.mp hx).2
 rw [e]
 exact q _ (es.trans (zB hp3 _))
end
abbrev s_D : Stmt := top 37
theorem sc_D : FnScope ["script", "first", "names", "size", "saying", "book", "cell", "handed", "kinds", "found", "known"] ["script"] (zG s_D) := ⟨rfl, rfl, rfl, by decide +kernel, rfl, by decide +kernel, by decide +kernel⟩
def spLaw (K : PySem.W.Frag) : Sp := fun vs H Q _ => ∃ (a : Addr) (ns : List Int), vs = [.ref a] /\ SqL K H a (ns.map V.int) /\ ns.length <= 63 /\ ∀ H', Q (.bl true) H'
theorem nd_le : ∀ (xs ys : List Str), xs.Nodup -> (∀ x ∈ xs, x ∈ ys) -> xs.length <= ys.length
 | [], ys, _, _ => Nat.zero_le _
 | x :: xs, ys, hn, hs => by
   obtain ⟨h1, h2⟩ := List.nodup_cons.mp hn
   have hx := hs x List.mem_cons_self
   have a1 := nd_le xs (ys.erase x) h2 fun y hy => (List.mem_erase_of_ne (fun e => h1 (by rw [← e]; exact hy))).mpr (hs y (List.mem_cons_of_mem _ hy))
   have a2 := List.length_erase_of_mem hx
   have a3 := List.length_pos_of_mem hx
   rw [List.length_cons]
   omega
def RuP (H : Hp) (pb : Addr) (r : Rul) (v : V) : Prop := ∃ (ra la : Addr) (sv : V) (vs : List V), v = .ref ra /\ H ra = some (.tup [.ref la, sv]) /\ la ≠ pb /\ H la = some (.lst vs) /\ SAts H r.1 vs /\ SAt H r.2 sv
theorem RuP.keep {H H' : Hp} {pb : Addr} {r : Rul} {v : V} (h : RuP H pb r v) (e : ∀ b o, b ≠ pb -> H b = some o -> H' b = some o) (t : TupSame H H') : RuP H' pb r v := by
 obtain ⟨ra, la, sv, vs, rfl, h1, h2, h3, h4, h5⟩ := h
 exact ⟨ra, la, sv, vs, rfl, t _ _ h1, h2, e _ _ h2 h3, SAts.tups t h4, SAt.tups t h5⟩
theorem RuP.at {H : Hp} {pb : Addr} {r : Rul} {v : V} (h : RuP H pb r v) : RAt H r v := by
 obtain ⟨ra, la, sv, vs, rfl, h1, h2, h3, h4, h5⟩ := h
 exact ⟨ra, _, rfl, h1, _, _, rfl, ⟨la, vs, rfl, h3, h4⟩, _, _, rfl, h5, rfl⟩
def RuPs (H : Hp) (pb : Addr) : List Rul -> List V -> Prop
 | [], us => us = []
 | r :: b, us => ∃ v vs, us = v :: vs /\ RuP H pb r v /\ RuPs H pb b vs
theorem RuPs.keep {H H' : Hp} {pb : Addr} (e : ∀ b o, b ≠ pb -> H b = some o -> H' b = some o) (t : TupSame H H') : ∀ {b : List Rul} {us : List V}, RuPs H pb b us -> RuPs H' pb b us
 | [], us, h => h
 | r :: b, us, h => by
   obtain ⟨v, vs, rfl, h1, h2⟩ := h
   exact ⟨v, vs, rfl, h1.keep e t, RuPs.keep e t h2⟩
theorem RuPs.at {H : Hp} {pb : Addr} : ∀ {b : List Rul} {us : List V}, RuPs H pb b us -> RAts H b us
 | [], us, h => h
 | r :: b, us, h => by
   obtain ⟨v, vs, rfl, h1, h2⟩ := h
   exact ⟨v, vs, rfl, h1.at, RuPs.at h2⟩
theorem RuPs.snoc {H : Hp} {pb : Addr} {r : Rul} {v : V} (h1 : RuP H pb r v) : ∀ {b : List Rul} {us : List V}, RuPs H pb b us -> RuPs H pb (b ++ [r]) (us ++ [v])
 | [], us, h => by
   have h : us = [] := h
   subst h
   exact ⟨v, [], rfl, h1, rfl⟩
 | r' :: b, us, h => by
   obtain ⟨v', vs, rfl, h2, h3⟩ := h
   exact ⟨v', vs ++ [v], rfl, h2, RuPs.snoc h1 h3⟩
theorem RuPs.of {H J : Hp} {pb : Addr} (hn : J pb = none) (e : Same J H) : ∀ {b : List Rul} {us : List V}, RAts J b us -> RuPs H pb b us
 | [], us, h => h
 | r :: b, us, h => by
   obtain ⟨v, vs, rfl, h1, h2⟩ := h
   obtain ⟨ra, l, sv, ws, rfl, g1, g2, g3, g4⟩ := RAt.out h1
   exact ⟨_, vs, rfl, ⟨ra, l, sv, ws, rfl, e _ _ g1, (fun z => by rw [z, hn] at g2; cases g2), e _ _ g2, DAts.same e g3, DAt.same e g4⟩, RuPs.of hn e h2⟩
theorem cut_three (xs : List Str) : yV (xs.map V.str) none (some 3) = (xs.take 3).map V.str := by
 by_cases h : 3 <= xs.length
 · rw [show (3 : Int) = ((3 : Nat) : Int) from rfl, qY _ 3 (by rw [List.length_map]; exact h), List.map_take]
 · rw [List.take_of_length_le (by omega)]
   unfold yV
   have e : HT.sIx (xs.map V.str).length (xs.map V.str).length (some 3) = (xs.map V.str).length := by
     unfold HT.sIx
     simp only
     rw [if_neg (by omega), List.length_map]
     omega
   rw [e, HT.sIx_none, List.drop_zero, Nat.sub_zero]
   exact List.take_of_length_le (Nat.le_refl _)
theorem cut_ints (ns : List Int) (h : ns.length <= 63) : ∃ ms : List Int, ms.length <= 63 /\ yV (ns.map V.int) (some 10) none = ms.map V.int := by
 unfold yV
 rw [← List.map_drop, ← List.map_take]
 exact ⟨_, by rw [List.length_take, List.length_drop]; omega, rfl⟩
def Rok (zs : List Str) (r : Rul) : Prop := r.1.length <= 5 /\ (∀ t ∈ tmR r, Fit 20 t /\ wt t <= 100 /\ ∀ x ∈ nms t, x ∈ zs) /\ wts (tmR r) <= 240
theorem jE (a b : List Tm) : wts (a ++ b) = wts a + wts b := wts_append a b
theorem Gs.trm {zs : List Str} {p : Tm × Tm} (h : Gs zs p) : ∀ t ∈ tmP p, Fit 20 t /\ wt t <= 4 /\ ∀ x ∈ nms t, x ∈ zs := fun t ht => by
 obtain ⟨⟨a1, a2⟩, ⟨b1, b2⟩, c⟩ := h
 simp only [tmP, List.mem_cons, List.not_mem_nil, or_false] at ht
 rcases ht with rfl | rfl
 · exact ⟨a1, a2, fun x hx => c x (List.mem_append_left _ hx)⟩
 · exact ⟨b1, b2, fun x hx => c x (List.mem_append_right _ hx)⟩
theorem vE (p : Tm × Tm) : wts (tmP p) = wt p.1 + wt p.2 := by
 show wt p.1 + (wt p.2 + wts []) = _
 rw [wts]
 rfl
theorem gs_wts {zs : List Str} : ∀ (ps : List (Tm × Tm)), (∀ p ∈ ps, Gs zs p) -> wts (yG ps) <= 8 * ps.length
 | [], _ => by show wts [] <= 0; rw [wts]; exact Nat.le_refl _
 | p :: ps, h => by
   have e : yG (p :: ps) = tmP p ++ yG ps := rfl
   have a1 := gs_wts ps fun q hq => h q (List.mem_cons_of_mem _ hq)
   have a2 := h p List.mem_cons_self
   have a3 := a2.1.2
   have a4 := a2.2.1.2
   rw [e, jE, vE, List.length_cons]
   omega
theorem Rok.of {zs zs3 : List Str} {r : Rul} (h5 : r.1.length <= 5) (hp : ∀ p ∈ r.1, Gs zs3 p) (hz : ∀ x ∈ zs3, x ∈ zs) (hs : ∀ t ∈ tmP r.2, Fit 20 t /\ wt t <= 100 /\ ∀ x ∈ nms t, x ∈ zs) : Rok zs r := by
 refine ⟨h5, fun t ht => ?_, ?_⟩
 · rcases List.mem_append.mp ht with ht | ht
   · obtain ⟨p, h1, h2⟩ := List.mem_flatMap.mp ht
     have := (hp p h1).trm t h2
     exact ⟨this.1, by have := this.2.1; omega, fun x hx => hz x (this.2.2 x hx)⟩
   · exact hs t ht
 · have a1 := gs_wts r.1 hp
   have a2 := (hs r.2.1 (by simp [tmP])).2.1
   have a3 := (hs r.2.2 (by simp [tmP])).2.1
   unfold tmR
   rw [jE, vE]
   omega
theorem Rok.book {zs : List Str} : ∀ (b : List Rul), (∀ r ∈ b, Rok zs r) -> wts (tmB b) <= 240 * b.length
 | [], _ => by show wts [] <= 0; rw [wts]; exact Nat.le_refl _
 | r :: b, h => by
   have e : tmB (r :: b) = tmR r ++ tmB b := rfl
   have a1 := Rok.book b fun q hq => h q (List.mem_cons_of_mem _ hq)
   have a2 := (h r List.mem_cons_self).2.2
   rw [e, jE, List.length_cons]
   omega
theorem Fo.of {zs : List Str} {b : List Rul} {s : Tm × Tm} (hz : zs.length <= 5) (hl : b.length <= 12) (hb : ∀ r ∈ b, Rok zs r) (hs : ∀ t ∈ tmP s, Fit 20 t /\ wt t <= 100 /\ ∀ x ∈ nms t, x ∈ zs) : Fo b s /\ wts (tmB b ++ tmP s) < 4000 /\ ∀ x ∈ nmss (tmB b ++ tmP s), x ∈ zs := by
 have ht : ∀ t ∈ tmB b ++ tmP s, Fit 20 t /\ wt t <= 100 /\ ∀ x ∈ nms t, x ∈ zs := fun t ht => by
   rcases List.mem_append.mp ht with ht | ht
   · obtain ⟨r, h1, h2⟩ := List.mem_flatMap.mp ht
     exact (hb r h1).2.1 t h2
   · exact hs t ht
 have hn : ∀ x ∈ nmss (tmB b ++ tmP s), x ∈ zs := fun x hx => by
   obtain ⟨t, h1, h2⟩ := nmss_mem.mp hx
   exact (ht t h1).2.2 x h2
 have a1 := Rok.book b hb
 have a2 := (hs s.1 (by simp [tmP])).2.1
 have a3 := (hs s.2 (by simp [tmP])).2.1
 have a4 : wts (tmB b ++ tmP s) < 4000 := by
   rw [jE, vE]
   omega
 refine ⟨⟨by omega, fun r hr => Nat.le_trans (hb r hr).1 (by decide), fun t h => ⟨(ht t h).1, Nat.le_trans (ht t h).2.1 (by decide)⟩, by omega, ?_⟩, a4, hn⟩
 have a5 := nd_le (zX [] (nmss (tmB b ++ tmP s))) zs (addAll_nd _ _ .nil) fun x hx => hn x ((addAll_mem _ _ hx).elim (fun z => by cases z) id)
 omega
theorem book_dfit {zs : List Str} {b : List Rul} (hl : b.length <= 12) (hb : ∀ r ∈ b, Rok zs r) : DFit 40 (.lst (b.map qX)) := by
 refine ⟨by rw [List.length_map]; omega, fun d hd => ?_⟩
 obtain ⟨r, hr, rfl⟩ := List.mem_map.mp hd
 obtain ⟨h5, h6, _⟩ := hb r hr
 have fs : ∀ p : Tm × Tm, (∀ t ∈ tmP p, t ∈ tmR r) -> FitS 20 900 p := fun p hp => ⟨⟨(h6 _ (hp p.1 (by simp [tmP]))).1, Nat.le_trans (h6 _ (hp p.1 (by simp [tmP]))).2.1 (by decide)⟩, (h6 _ (hp p.2 (by simp [tmP]))).1, Nat.le_trans (h6 _ (hp p.2 (by simp [tmP]))).2.1 (by decide)⟩
 exact DFit.mono (m := 39) (rule_dfit (n := 20) (m := 900) (fun p hp => fs p fun t ht => List.mem_append_left _ (List.mem_flatMap.mpr ⟨p, hp, ht⟩)) (fs _ fun t ht => List.mem_append_right _ ht) (Nat.le_refl _) (by omega)) (by decide)
section
variable {P : Program} {w : World} {K : PySem.W.Frag} {mg : Str -> Option Value} {base : Heap} {f : Addr} {fd : FuncData}
theorem ok_law (bi : Bi mg) (h_s : Has P w K mg base 1 "_law_draw" ["script", "k"] (uB K)) (h_m : Has P w K mg base 2 "_law_names" ["script", "k", "many"] (spNs K)) (h_v : Has P w K mg base 2 "_law_term" ["script", "k", "many", "names"] (spTe K)) (h_t : Has P w K mg base 2 "_law_ways" ["script", "k", "many", "names"] (spWy K)) (h_h : Has P w K mg base 2 "_law_way_rules" ["ways", "saying"] spWr) (h_c : Has P w K mg base 3 "_law_small_rule" ["cell", "names"] spSr) (h_l : Has P w K mg base 26 "_law_answer" ["book", "saying"] spAw) (h_e : Has P w K mg base 22 "_law_names_in" ["book", "saying"] spLn) (h_a : Has P w K mg base 24 "_law_open_reading" ["book", "saying", "names"] spOr) (h_d : Has P w K mg base 1 "_law_is_reading" ["found", "due"] spIr)
   (F : Fun K "law" "law" s_D f fd) : FnOk P w K mg base CX0 65 f fd ["script"] (spLaw K) := by
 refine F.ok sc_D (fun vs H Q E h => ?_) (fun cdv A outer s H vs Q E hr h => ?_)
 · obtain ⟨a, ns, rfl, _⟩ := h
   rfl
 obtain ⟨a, ns, rfl, hS, hl, q⟩ := h
 refine ⟨_, (zD (zN (i := 1) sc_D.nd rfl (Or.inl rfl) (zK h_s (hr.mono (by omega)) rfl (zA (pv 0) (zA zE pa_nil)))) (zD (zN (i := 2) sc_D.nd rfl (Or.inl rfl) (zK h_m (hr.mono (by omega)) rfl (zA (pv 0) (zA zE (zA (zJ op_add zE (zJ op_mod (pv 1) zE)) pa_nil))))) (zD (zN (i := 3) sc_D.nd rfl (Or.inl rfl) (zJ op_add zE (zJ op_mod (zJ op_fdiv (pv 1) zE) zE))) (zD (zN (i := 4) sc_D.nd rfl (Or.inl rfl) (zY (zA (zK h_v (hr.mono (by omega)) rfl (zA (pv 0) (zA zE (zA (pv 3) (zA (pv 2) pa_nil))))) (zA (zK h_v (hr.mono (by omega)) rfl (zA (pv 0) (zA zE (zA (pv 3) (zA (pv 2) pa_nil))))) pa_nil)))) (zD (zN (i := 5) sc_D.nd rfl (Or.inl rfl) (zZ pa_nil)) (zD (yC (zO op_eq (zJ op_mod (zJ op_fdiv (pv 1) zE) zE) zE (zR _)) (zF (zN (i := 5) sc_D.nd rfl (Or.inl rfl) (zK h_h (hr.mono (by omega)) rfl (zA (zK h_t (hr.mono (by omega)) rfl (zA (pv 0) (zA zE (zA zE (zA (yJ sl_list (pv 2) po_none (yO zE)) pa_nil))))) (zA (pv 4) pa_nil))))) pss_nil) (zD (yK PassesOwn.never rfl (yE (yJ sl_list (pv 0) (yO zE) po_none)) (zP (i := 6) sc_D.nd rfl (Or.inl rfl)) (zF (yC (zO op_lt (zM call_len rfl bi.len bt_len (zA (pv 5) pa_nil)) zE (zR _)) (zF (yW (xX PySem.F.plainAttrs_list PySem.F.slot_list_append PySem.F.type_list_append mt_append (pv 5) (zA (zK h_c (hr.mono (by omega)) rfl (zA (zJ op_mod (pv 6) (zJ op_pow zE zE)) (zA (pv 2) pa_nil))) pa_nil)))) pss_nil))) (zD (qI (i := 7) ["rule"] [] [] sc_D.nd rfl (yE (pv 5)) (fun _ _ _ _ nd => zP (i := 0) nd rfl (Or.inl rfl)) (fun _ _ _ _ => yI) (fun _ _ _ _ => (zY (zA (xS (uK K) rfl bi.list bt_list (zA (zS (xT K) (pv 0) zE (fun _ _ => rfl)) pa_nil)) (zA (zS (xT K) (pv 0) zE (fun _ _ => rfl)) pa_nil))))) (zD (ps_asg (zK h_l (hr.mono (by omega)) rfl (zA (pv 7) (zA (pv 4) pa_nil))) (pg_tup rfl (xG (zP (i := 8) sc_D.nd rfl (Or.inl rfl)) (xG (zP (i := 9) sc_D.nd rfl (Or.inl rfl)) pgs_nil)))) (zD (yC (zO (op_neG hr.units) (pv 7) (pv 5) (zR _)) (zF (zL yY)) pss_nil) (zD (zN (i := 10) sc_D.nd rfl (Or.inl rfl) (zK h_e (hr.mono (by omega)) rfl (zA (pv 5) (zA (pv 4) pa_nil)))) (zD (yC (zO op_gt (zM call_len rfl bi.len bt_len (zA (pv 10) pa_nil)) zE (zR _)) (zF (zL (xJ (op_eqD hr.units) (pv 8) (zZ (zA yY (zA yY (zA yY pa_nil)))) (zR _)))) pss_nil) (zF (zL (pe_and (xJ (op_eqD hr.units) (pv 8) (zZ pa_nil) (zR _)) (jU (zK h_d (hr.mono (by omega)) rfl (zA (pv 9) (zA (zK h_a (hr.mono (by omega)) rfl (zA (pv 5) (zA (pv 4) (zA (pv 10) pa_nil)))) pa_nil))))))))))))))))))), ?_⟩
 refine zH fun N hN => ?_
 simp! [uB]
 refine ⟨ns, 2, rfl, hS, hl, by omega, fun fi hfi => hN _ _ ?_⟩
 clear hN
 obtain ⟨m, hm1, hm5, em⟩ : ∃ m : Nat, 1 <= m /\ m <= 5 /\ 2 + fi % 4 = (m : Int) := ⟨(2 + fi % 4).toNat, by omega, by omega, by omega⟩
 refine zH fun N hN => ?_
 simp! [spNs]
 rw [em]
 refine ⟨by decide, ns, 0, rfl, m, rfl, hS, hl, by omega, hm1, hm5, fun pn zs H1 s1 hnm => hN _ _ ?_⟩
 clear hN
 replace hS := Same.seq s1 hS
 obtain ⟨z, hz1, hz4, ez⟩ : ∃ z : Nat, 1 <= z /\ z <= 4 /\ 1 + fi / 4 % 4 = (z : Int) := ⟨(1 + fi / 4 % 4).toNat, by omega, by omega, by omega⟩
 refine zH fun N hN => ?_
 simp! []
 rw [ez]
 refine ⟨⟨by decide, by decide⟩, by decide, hN _ _ ?_⟩
 clear hN
 refine zH fun N hN => ?_
 simp! []
 refine ⟨a, pn, ns, 3, z, m, zs, rfl, hS, hl, by omega, hz1, by omega, hnm, hm1, hm5, fun v1 t1 H2 s2 h1 f1 w1 n1 => ?_⟩
 replace hS := Same.seq s2 hS
 replace hnm := hnm.same s2
 refine ⟨a, pn, ns, 7, z, m, zs, rfl, hS, hl, by omega, hz1, by omega, hnm, hm1, hm5, fun v2 t2 H3 s3 h2 f2 w2 n2 => ⟨zI (by decide), fun ps hps => hN _ _ ?_⟩⟩
 clear hN
 have s4 := zB hps (.tup [v1, v2])
 replace hS := Same.seq (s3.trans s4) hS
 replace hnm := hnm.same (s3.trans s4)
 have hsy : SAt (upd H3 ps (.tup [v1, v2])) (t1, t2) (.ref ps) := ⟨ps, _, rfl, zC, _, _, rfl, DAt.same (s3.trans s4) h1, _, _, rfl, DAt.same s4 h2, rfl⟩
 have hst : ∀ t ∈ tmP (t1, t2), Fit 20 t /\ wt t <= 100 /\ ∀ x ∈ nms t, x ∈ zs := fun t ht => by
   simp only [tmP, List.mem_cons, List.not_mem_nil, or_false] at ht
   rcases ht with rfl | rfl
   · exact ⟨f1, w1, n1⟩
   · exact ⟨f2, w2, n2⟩
 generalize upd H3 ps (.tup [v1, v2]) = H4 at hS hnm hsy ⊢
 generalize (t1, t2) = sy at hsy hst
 clear h1 h2 f1 f2 w1 w2 n1 n2 s1 s2 s3 s4 hps
 have hz5 : zs.length <= 5 := by rw [hnm.len]; exact hm5
 refine zH fun N hN => ?_
 simp! []
 refine ⟨zI (by decide), fun p0 hp0 => hN _ _ ?_⟩
 clear hN
 refine zW (fun σ H' => ∃ (pb : Addr) (us : List V) (b : List Rul), H4 pb = none /\ Same H4 H' /\ H' pb = some (.lst us) /\ RuPs H' pb b us /\ b.length <= 12 /\ (∀ r ∈ b, Rok zs r) /\ σ = [some (V.ref a), some (V.int fi), some (V.ref pn), some (V.int z), some (V.ref ps), some (V.ref pb), none, none, none, none, none]) (fun N hN => ?_) (fun σ H' h => ?_)
 · simp! []
   refine ⟨⟨by decide, by decide⟩, by decide, rfl, ?_⟩
   have s5 := zB hp0 (.lst [])
   have k5 : upd H4 p0 (.lst []) p0 = some (.lst []) := zC
   generalize upd H4 p0 (.lst []) = H5 at s5 k5 ⊢
   by_cases c : fi / 16 % 2 = 1
   · rw [if_pos c]
     refine ⟨_, SqL.of (s5 _ _ hnm.lst), fun p1 hp1 => ?_⟩
     have s6 := s5.trans (zB hp1 (.lst (yV (zs.map V.str) none (some 3))))
     have k6 : upd H5 p1 (.lst (yV (zs.map V.str) none (some 3))) p1 = some (.lst ((zs.take 3).map V.str)) := by rw [zC, cut_three]
     generalize upd H5 p1 (.lst (yV (zs.map V.str) none (some 3))) = H6 at s6 k6 ⊢
     refine ⟨a, p1, ns, 11, 4, zs.take 3, rfl, Same.seq s6 hS, hl, by omega, by omega, k6, by rw [List.length_take]; omega, fun p2 us ws H7 s7 k7 hd hw => ?_⟩
     refine ⟨p2, _, us, ws, zs.take 3, sy, rfl, k7, hd, hw, fun x hx => hnm.nm x (List.mem_of_mem_take hx), DAt.same (s6.trans s7) hsy, fun p3 us3 b J H8 s8 ov hb hbl hbw => hN _ _ ?_⟩
     have sJ := (s6.trans s7).trans s8
     refine ⟨p3, us3, b, sJ.free ov.no, sJ.trans ov.sub, ov.at, RuPs.of ov.no ov.sub hb, by omega, fun r hr => ?_, rfl⟩
     obtain ⟨w1, w2, w3⟩ := hbw r hr
     exact Rok.of (by omega) w2 (fun x hx => List.mem_of_mem_take hx) (by rw [w3]; exact hst)
   · rw [if_neg c]
     exact hN _ _ ⟨p0, [], [], hp0, s5, k5, rfl, by decide, (fun r hr => by cases hr), rfl⟩
 obtain ⟨pb, us, b, hpb, s5, kb, hru, hbl, hrok, rfl⟩ := h
 refine zW (fun σ H' => ∃ (us : List V) (b : List Rul) (o6 : Option V), Same H4 H' /\ H' pb = some (.lst us) /\ RuPs H' pb b us /\ b.length <= 12 /\ (∀ r ∈ b, Rok zs r) /\ σ = [some (V.ref a), some (V.int fi), some (V.ref pn), some (V.int z), some (V.ref ps), some (V.ref pb), o6, none, none, none, none]) (fun N hN => ?_) (fun σ H2' h => ?_)
 · simp! []
   refine ⟨_, Same.seq s5 hS, fun p2 hp2 => ?_⟩
   obtain ⟨ms, hml, ems⟩ := cut_ints ns hl
   rw [ems]
   have n2 : p2 ≠ pb := fun e => by rw [e, kb] at hp2; cases hp2
   have s6 := zB hp2 (.lst (ms.map V.int))
   have k6 : upd H' p2 (.lst (ms.map V.int)) p2 = some (.lst (ms.map V.int)) := zC
   replace kb := s6 _ _ kb
   replace hru := hru.keep (fun b o _ h => s6 b o h) s6.tups
   replace s6 := s5.trans s6
   generalize upd H' p2 (.lst (ms.map V.int)) = H6 at s6 k6 kb hru ⊢
   refine ⟨⟨_, SqL.of k6⟩, ?_⟩
   refine yX (xs := ms.map V.int) (fun i σ H' => ∃ (us : List V) (b : List Rul) (o6 : Option V), Same H4 H' /\ H' p2 = some (.lst (ms.map V.int)) /\ H' pb = some (.lst us) /\ RuPs H' pb b us /\ b.length <= 12 /\ (∀ r ∈ b, Rok zs r) /\ σ = [some (V.ref a), some (V.int fi), some (V.ref pn), some (V.int z), some (V.ref ps), some (V.ref pb), o6, none, none, none, none]) ⟨us, b, none, s6, k6, kb, hru, hbl, hrok, rfl⟩ (fun i σ H' _ h => by obtain ⟨_, _, _, _, h, _⟩ := h; exact SqL.of h) (fun i x σ H7 hx h => ?_) (fun σ H7 h => ?_)
   · clear s6 k6 kb hru hbl hrok
     obtain ⟨us, b, o6, s7, k7, kb, hru, hbl, hrok, rfl⟩ := h
     have hul : us.length = b.length := hru.at.length
     rw [List.getElem?_map] at hx
     obtain ⟨y, hy, rfl⟩ := Option.map_eq_some_iff.mp hx
     simp! []
     refine ⟨us.length, .inl ⟨_, SqL.of kb, rfl⟩, ?_⟩
     by_cases c : (us.length : Int) < 12
     · rw [if_pos c]
       refine ⟨.inl ⟨rfl, _, SqL.of kb⟩, ⟨by decide, by decide, by decide⟩, p1060, _, pn, m, zs, rfl, hnm.same s7, hm1, hm5, fun v r H8 s8 hf hg => ?_⟩
       have kb8 := s8 _ _ kb
       have tsm : TupSame H8 (upd H8 pb (.lst (us ++ [v]))) := fun b xs h => by
         rw [zU (fun z => by rw [z, kb8] at h; cases h)]
         exact h
       have oth : ∀ b o, b ≠ pb -> H8 b = some o -> upd H8 pb (.lst (us ++ [v])) b = some o := fun b o hb h => by rw [zU hb]; exact h
       have new : RuP H8 pb r v := by
         obtain ⟨ra, la, sv, vs, rfl, g1, g2, g3, g4, g5⟩ := hf
         exact ⟨ra, la, sv, vs, rfl, g1, (fun e => by rw [e, kb] at g2; cases g2), g3, g4, g5⟩
       refine ⟨us, kb8, zI (by omega), (s7.trans s8).upd hpb, by rw [zU n2]; exact s8 _ _ k7, us ++ [v], zC, b ++ [r], RuPs.snoc (new.keep oth tsm) ((hru.keep (fun b o _ h => s8 b o h) s8.tups).keep oth tsm), by rw [List.length_append]; simp; omega, fun r' hr' => ?_, _, rfl⟩
       rcases List.mem_append.mp hr' with hr' | hr'
       · exact hrok r' hr'
       · rw [List.mem_singleton.mp hr']
         exact Rok.of hg.1 hg.2.1 (fun x hx => hx) fun t ht => by
           have := hg.2.2.trm t ht
           exact ⟨this.1, by have := this.2.1; omega, this.2.2⟩
     · rw [if_neg c]
       exact ⟨s7, k7, us, kb, b, hru, hbl, hrok, _, rfl⟩
   · obtain ⟨us, b, o6, s7, k7, kb, hru, hbl, hrok, rfl⟩ := h
     exact hN _ _ ⟨us, b, _, s7, kb, hru, hbl, hrok, rfl⟩
 clear hru kb s5 hbl hrok
 obtain ⟨us, b, o6, s5, kb, hru, hbl, hrok, rfl⟩ := h
 refine zH fun N hN => ?_
 simp! []
 have hul : us.length = b.length := hru.at.length
 have hbs := hru.at
 clear hru
 obtain ⟨hfo, hw4, hfew⟩ := Fo.of hz5 hbl hrok hst
 refine ⟨⟨_, SqL.of kb⟩, ?_⟩
 refine yS (xs := us) (fun i ys σ H' => Same H2' H' /\ RAts H' (b.take i) ys /\ ∃ o, σ = [o]) ⟨Same.refl _, rfl, _, rfl⟩ (zI (by omega)) (fun i ys σ H' e => ?_) (fun i ys σ H' e => SqL.of (e.1 _ _ kb)) (fun i x ys σ H' C hx e hC => ?_) (fun ys σ H' e p3 hp3 => hN _ _ ?_)
 · rw [e.2.1.length, List.length_take]; omega
 · obtain ⟨es, hy, o, rfl⟩ := e
   obtain ⟨r, hri, hr1⟩ := hbs.getV hx
   obtain ⟨ra, l, sv, vs, rfl, g1, g2, g3, g4⟩ := RAt.out hr1
   have g1' := es _ _ g1
   simp! []
   refine ⟨_, SqT.of g1', _, at0, l, rfl, vs, .inl (SqL.of (es _ _ g2)), fun l2 hl2 => ?_⟩
   have e2 := zB hl2 (.lst vs)
   refine ⟨_, SqT.of (e2 _ _ g1'), _, at1, zI (by decide), fun p5 hp5 => hC _ _ _ ⟨(es.trans e2).trans (zB hp5 _), ?_, _, rfl⟩⟩
   have e3 := zB hp5 (.tup [V.ref l2, sv])
   have e4 := es.trans (e2.trans e3)
   exact RAts.snoc hri (DAts.same (e2.trans e3) hy) ⟨p5, _, rfl, zC, _, _, rfl, ⟨l2, vs, rfl, e3 _ _ zC, DAts.same e4 g3⟩, _, _, rfl, DAt.same e4 g4, rfl⟩
 obtain ⟨es, hy, o, rfl⟩ := e
 rw [List.take_of_length_le (by omega)] at hy
 clear hN
 have e3 := zB hp3 (.lst ys)
 have k3 : upd H' p3 (.lst ys) p3 = some (.lst ys) := zC
 replace hy := DAts.same e3 hy
 replace es := es.trans e3
 generalize upd H' p3 (.lst ys) = H3 at k3 hy es ⊢
 have h45 := s5.trans es
 refine zH fun N hN => ?_
 simp! [gTup, gCons, gNil]
 have cont : ∀ (H7 : Hp) (k : Addr) (u : V) (kl : List V), Same H3 H7 -> H7 k = some (.lst kl) -> (((zX [] (nmss (tmB b ++ tmP sy))).length <= 4 /\ kl = [] /\ ∃ zs' : List Str, zs'.Perm (zX [] (nmss (tmB b ++ tmP sy))) /\ PyProof.Rows.sortedS zs' = true /\ (match (rdg zs').find? (fun r => opB (lkR r) b sy) with | none => u = .non | some r => DAt H7 (dRd r) u)) \/ (4 < (zX [] (nmss (tmB b ++ tmP sy))).length /\ kl = [.bl true, .bl true, .bl false])) -> N [some (V.ref a), some (V.int fi), some (V.ref pn), some (V.int z), some (V.ref ps), some (V.ref pb), o6, some (V.ref p3), some (V.ref k), some u, none] H7 := fun H7 k u kl s7 kk hc => hN _ _ (by
   clear hN
   have h47 := h45.trans s7
   have k3' := s7 _ _ k3
   have kb' := (es.trans s7) _ _ kb
   refine zH fun N hN => ?_
   simp! [rNeG]
   refine ⟨39, .lst (b.map qX), ⟨p3, ys, rfl, k3', DAts.same s7 hy⟩, .lst (b.map qX), ⟨pb, us, rfl, kb', DAts.same (es.trans s7) hbs⟩, book_dfit hbl hrok, by decide, ?_⟩
   rw [deq_refl, if_neg (by decide)]
   refine hN _ _ ?_
   clear hN
   refine zH fun N hN => ?_
   simp! []
   refine ⟨pb, _, us, b, sy, rfl, kb', DAts.same (es.trans s7) hbs, DAt.same h47 hsy, hfo, hw4, fun pk zk H8 s8 kk8 hperm hsort => hN _ _ ?_⟩
   clear hN
   have hzl : zk.length = (zX [] (nmss (tmB b ++ tmP sy))).length := hperm.length_eq
   replace kk := s8 _ _ kk
   refine zH fun N hN => ?_
   simp! []
   refine ⟨zk.length, .inl ⟨_, SqL.of kk8, (List.length_map _).symm⟩, ?_⟩
   by_cases c : (4 : Int) < (zk.length : Int)
   · rw [if_pos c]
     rcases hc with ⟨h4, _⟩ | ⟨h4, rfl⟩
     · exact absurd c (by omega)
     · refine ⟨zI (by decide), fun p hp => ⟨0, [.bl true, .bl true, .bl false], [.bl true, .bl true, .bl false], ⟨k, _, rfl, zB hp _ _ _ kk, _, _, rfl, rfl, _, _, rfl, rfl, _, _, rfl, rfl, rfl⟩, ⟨p, _, rfl, zC, _, _, rfl, rfl, _, _, rfl, rfl, _, _, rfl, rfl, rfl⟩, fun d hd => ?_, by decide, ?_⟩⟩
       · simp only [List.mem_cons, List.not_mem_nil, or_false] at hd
         rcases hd with rfl | rfl | rfl <;> trivial
       · exact q _
   rw [if_neg c]
   refine hN _ _ ?_
   clear hN
   rcases hc with ⟨h4, rfl, zs', hp', hs', hu⟩ | ⟨h4, _⟩
   rotate_left
   · exact absurd h4 (by omega)
   have ezk : zs' = zk := sorted_one hs' hsort (hp'.trans hperm.symm)
   subst ezk
   simp! []
   refine ⟨Nat.zero_le _, fun p hp => ⟨0, [], [], ⟨k, _, rfl, zB hp _ _ _ kk, rfl⟩, ⟨p, _, rfl, zC, rfl⟩, (fun d hd => by cases hd), by decide, _, rfl, ?_⟩⟩
   have s9 := zB hp (.lst [])
   generalize upd H8 p (.lst []) = H9 at s9 ⊢
   have h89 := s8.trans s9
   have hnd : zs'.Nodup := hperm.nodup_iff.mpr (addAll_nd _ _ .nil)
   rw [show deqs [] [] = true from rfl, if_pos rfl]
   refine ⟨pb, pk, _, us, b, sy, zs', rfl, h89 _ _ kb', DAts.same ((es.trans s7).trans h89) hbs, DAt.same (h47.trans h89) hsy, hfo, s9 _ _ kk8, by omega, hnd, fun x hx => hperm.mem_iff.mpr (addAll_sub _ _ (.inr hx)), fun u2 H10 s10 hu2 => ?_⟩
   refine ⟨u, u2, (rdg zs').find? (fun r => opB (lkR r) b sy), rfl, ?_, fun H11 _ => q _⟩
   have hlen : ∀ r, (rdg zs').find? (fun r => opB (lkR r) b sy) = some r -> r.length <= 5 := fun r hr => by
     have := congrArg List.length (rdg_map (List.mem_of_find?_eq_some hr))
     rw [List.length_map] at this
     omega
   revert hu hu2 hlen
   cases (rdg zs').find? (fun r => opB (lkR r) b sy) with
   | none => exact fun h1 h2 _ => ⟨h1, h2⟩
   | some r => exact fun h1 h2 h3 => ⟨DAt.same (h89.trans s10) h1, h2, h3 r rfl⟩)
 refine ⟨p3, _, ys, b, sy, rfl, k3, hy, DAt.same h45 hsy, hfo, fun h4 zs' hperm hsort p k u H7 s7 hu kp kk => ⟨p, rfl, _, SqT.of kp, rfl, _, _, rfl, _, _, rfl, rfl, cont H7 k u [] s7 kk (.inl ⟨h4, rfl, zs', hperm, hsort, hu⟩)⟩, fun h4 p k H7 s7 kp kk => ⟨p, rfl, _, SqT.of kp, rfl, _, _, rfl, _, _, rfl, rfl, cont H7 k .non _ s7 kk (.inr ⟨h4, rfl⟩)⟩⟩
end
theorem ln0 {us : List Value} (h : us.length = 0) : us = [] := List.length_eq_zero_iff.mp h
theorem lnS {us : List Value} {n : Nat} (h : us.length = n + 1) : ∃ (u : Value) (r : List Value), us = u :: r /\ r.length = n := by
 cases us with
 | nil => cases h
 | cons u r => exact ⟨u, r, rfl, Nat.succ.inj h⟩
theorem ln1 {us : List Value} (h : us.length = 1) : ∃ a, us = [a] := by
 obtain ⟨a, r, rfl, g⟩ := lnS h
 cases ln0 g
 exact ⟨a, rfl⟩
theorem ln2 {us : List Value} (h : us.length = 2) : ∃ a b, us = [a, b] := by
 obtain ⟨a, r, rfl, g⟩ := lnS h
 obtain ⟨b, rfl⟩ := ln1 g
 exact ⟨a, b, rfl⟩
theorem ln3 {us : List Value} (h : us.length = 3) : ∃ a b c, us = [a, b, c] := by
 obtain ⟨a, r, rfl, g⟩ := lnS h
 obtain ⟨b, c, rfl⟩ := ln2 g
 exact ⟨a, b, c, rfl⟩
theorem ln4 {us : List Value} (h : us.length = 4) : ∃ a b c d, us = [a, b, c, d] := by
 obtain ⟨a, r, rfl, g⟩ := lnS h
 obtain ⟨b, c, d, rfl⟩ := ln3 g
 exact ⟨a, b, c, d, rfl⟩
theorem all_mk {l : PySem.W.OpenLaw} {w : World} {K : PySem.W.Frag} {h : Heap} {mg : Str -> Option Value} {fa : Addr} (X : K.In h) (G : h.Ns mainGlobals mg) (hfa : mg "law" = some (.ref fa))
   {f_A : Addr} {od_A an_A : Option Addr} {sl_A : Array (Option Value)} {oc_A kV_A dc_A pm_A cd_A ct_A : Value} (a_A : PySem.W.nsIn K mainGlobals "parts_of" = some (some (.ref f_A))) (l_A : K.lookup f_A = some ⟨oc_A, od_A, .func (PySem.W.fnOf "parts_of" "parts_of" (zT s_A) (zQ s_A) (zG s_A) .none kV_A dc_A pm_A an_A cd_A ct_A), sl_A⟩) (c_A : PySem.W.codeIn K cd_A "parts_of" = true) (k_A : PySem.W.keepIn K (.ref f_A) = true)
   {f_f : Addr} {od_f an_f : Option Addr} {sl_f : Array (Option Value)} {oc_f kV_f dc_f pm_f cd_f ct_f : Value} (a_f : PySem.W.nsIn K mainGlobals "gather_names" = some (some (.ref f_f))) (l_f : K.lookup f_f = some ⟨oc_f, od_f, .func (PySem.W.fnOf "gather_names" "gather_names" (zT s_f) (zQ s_f) (zG s_f) .none kV_f dc_f pm_f an_f cd_f ct_f), sl_f⟩) (c_f : PySem.W.codeIn K cd_f "gather_names" = true) (k_f : PySem.W.keepIn K (.ref f_f) = true)
   {f_i : Addr} {od_i an_i : Option Addr} {sl_i : Array (Option Value)} {oc_i kV_i dc_i pm_i cd_i ct_i : Value} (a_i : PySem.W.nsIn K mainGlobals "names_of_all" = some (some (.ref f_i))) (l_i : K.lookup f_i = some ⟨oc_i, od_i, .func (PySem.W.fnOf "names_of_all" "names_of_all" (zT s_i) (zQ s_i) (zG s_i) .none kV_i dc_i pm_i an_i cd_i ct_i), sl_i⟩) (c_i : PySem.W.codeIn K cd_i "names_of_all" = true) (k_i : PySem.W.keepIn K (.ref f_i) = true)
   {f_y : Addr} {od_y an_y : Option Addr} {sl_y : Array (Option Value)} {oc_y kV_y dc_y pm_y cd_y ct_y : Value} (a_y : PySem.W.nsIn K mainGlobals "terms_in" = some (some (.ref f_y))) (l_y : K.lookup f_y = some ⟨oc_y, od_y, .func (PySem.W.fnOf "terms_in" "terms_in" (zT s_y) (zQ s_y) (zG s_y) .none kV_y dc_y pm_y an_y cd_y ct_y), sl_y⟩) (c_y : PySem.W.codeIn K cd_y "terms_in" = true) (k_y : PySem.W.keepIn K (.ref f_y) = true)
   {f_B : Addr} {od_B an_B : Option Addr} {sl_B : Array (Option Value)} {oc_B kV_B dc_B pm_B cd_B ct_B : Value} (a_B : PySem.W.nsIn K mainGlobals "names_in" = some (some (.ref f_B))) (l_B : K.lookup f_B = some ⟨oc_B, od_B, .func (PySem.W.fnOf "names_in" "names_in" (zT s_B) (zQ s_B) (zG s_B) .none kV_B dc_B pm_B an_B cd_B ct_B), sl_B⟩) (c_B : PySem.W.codeIn K cd_B "names_in" = true) (k_B : PySem.W.keepIn K (.ref f_B) = true)
   {f_u : Addr} {od_u an_u : Option Addr} {sl_u : Array (Option Value)} {oc_u kV_u dc_u pm_u cd_u ct_u : Value} (a_u : PySem.W.nsIn K mainGlobals "worth_by" = some (some (.ref f_u))) (l_u : K.lookup f_u = some ⟨oc_u, od_u, .func (PySem.W.fnOf "worth_by" "worth_by" (zT s_u) (zQ s_u) (zG s_u) .none kV_u dc_u pm_u an_u cd_u ct_u), sl_u⟩) (c_u : PySem.W.codeIn K cd_u "worth_by" = true) (k_u : PySem.W.keepIn K (.ref f_u) = true)
   {f_w : Addr} {od_w an_w : Option Addr} {sl_w : Array (Option Value)} {oc_w kV_w dc_w pm_w cd_w ct_w : Value} (a_w : PySem.W.nsIn K mainGlobals "holds_by" = some (some (.ref f_w))) (l_w : K.lookup f_w = some ⟨oc_w, od_w, .func (PySem.W.fnOf "holds_by" "holds_by" (zT s_w) (zQ s_w) (zG s_w) .none kV_w dc_w pm_w an_w cd_w ct_w), sl_w⟩) (c_w : PySem.W.codeIn K cd_w "holds_by" = true) (k_w : PySem.W.keepIn K (.ref f_w) = true)
   {f_C : Addr} {od_C an_C : Option Addr} {sl_C : Array (Option Value)} {oc_C kV_C dc_C pm_C cd_C ct_C : Value} (a_C : PySem.W.nsIn K mainGlobals "fits_by" = some (some (.ref f_C))) (l_C : K.lookup f_C = some ⟨oc_C, od_C, .func (PySem.W.fnOf "fits_by" "fits_by" (zT s_C) (zQ s_C) (zG s_C) .none kV_C dc_C pm_C an_C cd_C ct_C), sl_C⟩) (c_C : PySem.W.codeIn K cd_C "fits_by" = true) (k_C : PySem.W.keepIn K (.ref f_C) = true)
   {f_j : Addr} {od_j an_j : Option Addr} {sl_j : Array (Option Value)} {oc_j kV_j dc_j pm_j cd_j ct_j : Value} (a_j : PySem.W.nsIn K mainGlobals "readings_of" = some (some (.ref f_j))) (l_j : K.lookup f_j = some ⟨oc_j, od_j, .func (PySem.W.fnOf "readings_of" "readings_of" (zT s_j) (zQ s_j) (zG s_j) .none kV_j dc_j pm_j an_j cd_j ct_j), sl_j⟩) (c_j : PySem.W.codeIn K cd_j "readings_of" = true) (k_j : PySem.W.keepIn K (.ref f_j) = true)
   {f_p : Addr} {od_p an_p : Option Addr} {sl_p : Array (Option Value)} {oc_p kV_p dc_p pm_p cd_p ct_p : Value} (a_p : PySem.W.nsIn K mainGlobals "is_open_by" = some (some (.ref f_p))) (l_p : K.lookup f_p = some ⟨oc_p, od_p, .func (PySem.W.fnOf "is_open_by" "is_open_by" (zT s_p) (zQ s_p) (zG s_p) .none kV_p dc_p pm_p an_p cd_p ct_p), sl_p⟩) (c_p : PySem.W.codeIn K cd_p "is_open_by" = true) (k_p : PySem.W.keepIn K (.ref f_p) = true)
   {f_n : Addr} {od_n an_n : Option Addr} {sl_n : Array (Option Value)} {oc_n kV_n dc_n pm_n cd_n ct_n : Value} (a_n : PySem.W.nsIn K mainGlobals "first_open" = some (some (.ref f_n))) (l_n : K.lookup f_n = some ⟨oc_n, od_n, .func (PySem.W.fnOf "first_open" "first_open" (zT s_n) (zQ s_n) (zG s_n) .none kV_n dc_n pm_n an_n cd_n ct_n), sl_n⟩) (c_n : PySem.W.codeIn K cd_n "first_open" = true) (k_n : PySem.W.keepIn K (.ref f_n) = true)
   {f_s : Addr} {od_s an_s : Option Addr} {sl_s : Array (Option Value)} {oc_s kV_s dc_s pm_s cd_s ct_s : Value} (a_s : PySem.W.nsIn K mainGlobals "_law_draw" = some (some (.ref f_s))) (l_s : K.lookup f_s = some ⟨oc_s, od_s, .func (PySem.W.fnOf "_law_draw" "_law_draw" (zT s_s) (zQ s_s) (zG s_s) .none kV_s dc_s pm_s an_s cd_s ct_s), sl_s⟩) (c_s : PySem.W.codeIn K cd_s "_law_draw" = true) (k_s : PySem.W.keepIn K (.ref f_s) = true)
   {f_m : Addr} {od_m an_m : Option Addr} {sl_m : Array (Option Value)} {oc_m kV_m dc_m pm_m cd_m ct_m : Value} (a_m : PySem.W.nsIn K mainGlobals "_law_names" = some (some (.ref f_m))) (l_m : K.lookup f_m = some ⟨oc_m, od_m, .func (PySem.W.fnOf "_law_names" "_law_names" (zT s_m) (zQ s_m) (zG s_m) .none kV_m dc_m pm_m an_m cd_m ct_m), sl_m⟩) (c_m : PySem.W.codeIn K cd_m "_law_names" = true) (k_m : PySem.W.keepIn K (.ref f_m) = true)
   {f_o : Addr} {od_o an_o : Option Addr} {sl_o : Array (Option Value)} {oc_o kV_o dc_o pm_o cd_o ct_o : Value} (a_o : PySem.W.nsIn K mainGlobals "_law_pushed" = some (some (.ref f_o))) (l_o : K.lookup f_o = some ⟨oc_o, od_o, .func (PySem.W.fnOf "_law_pushed" "_law_pushed" (zT s_o) (zQ s_o) (zG s_o) .none kV_o dc_o pm_o an_o cd_o ct_o), sl_o⟩) (c_o : PySem.W.codeIn K cd_o "_law_pushed" = true) (k_o : PySem.W.keepIn K (.ref f_o) = true)
   {f_v : Addr} {od_v an_v : Option Addr} {sl_v : Array (Option Value)} {oc_v kV_v dc_v pm_v cd_v ct_v : Value} (a_v : PySem.W.nsIn K mainGlobals "_law_term" = some (some (.ref f_v))) (l_v : K.lookup f_v = some ⟨oc_v, od_v, .func (PySem.W.fnOf "_law_term" "_law_term" (zT s_v) (zQ s_v) (zG s_v) .none kV_v dc_v pm_v an_v cd_v ct_v), sl_v⟩) (c_v : PySem.W.codeIn K cd_v "_law_term" = true) (k_v : PySem.W.keepIn K (.ref f_v) = true)
   {f_r : Addr} {od_r an_r : Option Addr} {sl_r : Array (Option Value)} {oc_r kV_r dc_r pm_r cd_r ct_r : Value} (a_r : PySem.W.nsIn K mainGlobals "_law_small" = some (some (.ref f_r))) (l_r : K.lookup f_r = some ⟨oc_r, od_r, .func (PySem.W.fnOf "_law_small" "_law_small" (zT s_r) (zQ s_r) (zG s_r) .none kV_r dc_r pm_r an_r cd_r ct_r), sl_r⟩) (c_r : PySem.W.codeIn K cd_r "_law_small" = true) (k_r : PySem.W.keepIn K (.ref f_r) = true)
   {f_b : Addr} {od_b an_b : Option Addr} {sl_b : Array (Option Value)} {oc_b kV_b dc_b pm_b cd_b ct_b : Value} (a_b : PySem.W.nsIn K mainGlobals "_law_small_saying" = some (some (.ref f_b))) (l_b : K.lookup f_b = some ⟨oc_b, od_b, .func (PySem.W.fnOf "_law_small_saying" "_law_small_saying" (zT s_b) (zQ s_b) (zG s_b) .none kV_b dc_b pm_b an_b cd_b ct_b), sl_b⟩) (c_b : PySem.W.codeIn K cd_b "_law_small_saying" = true) (k_b : PySem.W.keepIn K (.ref f_b) = true)
   {f_c : Addr} {od_c an_c : Option Addr} {sl_c : Array (Option Value)} {oc_c kV_c dc_c pm_c cd_c ct_c : Value} (a_c : PySem.W.nsIn K mainGlobals "_law_small_rule" = some (some (.ref f_c))) (l_c : K.lookup f_c = some ⟨oc_c, od_c, .func (PySem.W.fnOf "_law_small_rule" "_law_small_rule" (zT s_c) (zQ s_c) (zG s_c) .none kV_c dc_c pm_c an_c cd_c ct_c), sl_c⟩) (c_c : PySem.W.codeIn K cd_c "_law_small_rule" = true) (k_c : PySem.W.keepIn K (.ref f_c) = true)
   {f_q : Addr} {od_q an_q : Option Addr} {sl_q : Array (Option Value)} {oc_q kV_q dc_q pm_q cd_q ct_q : Value} (a_q : PySem.W.nsIn K mainGlobals "_law_plain" = some (some (.ref f_q))) (l_q : K.lookup f_q = some ⟨oc_q, od_q, .func (PySem.W.fnOf "_law_plain" "_law_plain" (zT s_q) (zQ s_q) (zG s_q) .none kV_q dc_q pm_q an_q cd_q ct_q), sl_q⟩) (c_q : PySem.W.codeIn K cd_q "_law_plain" = true) (k_q : PySem.W.keepIn K (.ref f_q) = true)
   {f_x : Addr} {od_x an_x : Option Addr} {sl_x : Array (Option Value)} {oc_x kV_x dc_x pm_x cd_x ct_x : Value} (a_x : PySem.W.nsIn K mainGlobals "_law_good" = some (some (.ref f_x))) (l_x : K.lookup f_x = some ⟨oc_x, od_x, .func (PySem.W.fnOf "_law_good" "_law_good" (zT s_x) (zQ s_x) (zG s_x) .none kV_x dc_x pm_x an_x cd_x ct_x), sl_x⟩) (c_x : PySem.W.codeIn K cd_x "_law_good" = true) (k_x : PySem.W.keepIn K (.ref f_x) = true)
   {f_g : Addr} {od_g an_g : Option Addr} {sl_g : Array (Option Value)} {oc_g kV_g dc_g pm_g cd_g ct_g : Value} (a_g : PySem.W.nsIn K mainGlobals "_law_good_rule" = some (some (.ref f_g))) (l_g : K.lookup f_g = some ⟨oc_g, od_g, .func (PySem.W.fnOf "_law_good_rule" "_law_good_rule" (zT s_g) (zQ s_g) (zG s_g) .none kV_g dc_g pm_g an_g cd_g ct_g), sl_g⟩) (c_g : PySem.W.codeIn K cd_g "_law_good_rule" = true) (k_g : PySem.W.keepIn K (.ref f_g) = true)
   {f_a : Addr} {od_a an_a : Option Addr} {sl_a : Array (Option Value)} {oc_a kV_a dc_a pm_a cd_a ct_a : Value} (a_a : PySem.W.nsIn K mainGlobals "_law_open_reading" = some (some (.ref f_a))) (l_a : K.lookup f_a = some ⟨oc_a, od_a, .func (PySem.W.fnOf "_law_open_reading" "_law_open_reading" (zT s_a) (zQ s_a) (zG s_a) .none kV_a dc_a pm_a an_a cd_a ct_a), sl_a⟩) (c_a : PySem.W.codeIn K cd_a "_law_open_reading" = true) (k_a : PySem.W.keepIn K (.ref f_a) = true)
   {f_d : Addr} {od_d an_d : Option Addr} {sl_d : Array (Option Value)} {oc_d kV_d dc_d pm_d cd_d ct_d : Value} (a_d : PySem.W.nsIn K mainGlobals "_law_is_reading" = some (some (.ref f_d))) (l_d : K.lookup f_d = some ⟨oc_d, od_d, .func (PySem.W.fnOf "_law_is_reading" "_law_is_reading" (zT s_d) (zQ s_d) (zG s_d) .none kV_d dc_d pm_d an_d cd_d ct_d), sl_d⟩) (c_d : PySem.W.codeIn K cd_d "_law_is_reading" = true) (k_d : PySem.W.keepIn K (.ref f_d) = true)
   {f_k : Addr} {od_k an_k : Option Addr} {sl_k : Array (Option Value)} {oc_k kV_k dc_k pm_k cd_k ct_k : Value} (a_k : PySem.W.nsIn K mainGlobals "_law_gather" = some (some (.ref f_k))) (l_k : K.lookup f_k = some ⟨oc_k, od_k, .func (PySem.W.fnOf "_law_gather" "_law_gather" (zT s_k) (zQ s_k) (zG s_k) .none kV_k dc_k pm_k an_k cd_k ct_k), sl_k⟩) (c_k : PySem.W.codeIn K cd_k "_law_gather" = true) (k_k : PySem.W.keepIn K (.ref f_k) = true)
   {f_e : Addr} {od_e an_e : Option Addr} {sl_e : Array (Option Value)} {oc_e kV_e dc_e pm_e cd_e ct_e : Value} (a_e : PySem.W.nsIn K mainGlobals "_law_names_in" = some (some (.ref f_e))) (l_e : K.lookup f_e = some ⟨oc_e, od_e, .func (PySem.W.fnOf "_law_names_in" "_law_names_in" (zT s_e) (zQ s_e) (zG s_e) .none kV_e dc_e pm_e an_e cd_e ct_e), sl_e⟩) (c_e : PySem.W.codeIn K cd_e "_law_names_in" = true) (k_e : PySem.W.keepIn K (.ref f_e) = true)
   {f_z : Addr} {od_z an_z : Option Addr} {sl_z : Array (Option Value)} {oc_z kV_z dc_z pm_z cd_z ct_z : Value} (a_z : PySem.W.nsIn K mainGlobals "_law_side" = some (some (.ref f_z))) (l_z : K.lookup f_z = some ⟨oc_z, od_z, .func (PySem.W.fnOf "_law_side" "_law_side" (zT s_z) (zQ s_z) (zG s_z) .none kV_z dc_z pm_z an_z cd_z ct_z), sl_z⟩) (c_z : PySem.W.codeIn K cd_z "_law_side" = true) (k_z : PySem.W.keepIn K (.ref f_z) = true)
   {f_t : Addr} {od_t an_t : Option Addr} {sl_t : Array (Option Value)} {oc_t kV_t dc_t pm_t cd_t ct_t : Value} (a_t : PySem.W.nsIn K mainGlobals "_law_ways" = some (some (.ref f_t))) (l_t : K.lookup f_t = some ⟨oc_t, od_t, .func (PySem.W.fnOf "_law_ways" "_law_ways" (zT s_t) (zQ s_t) (zG s_t) .none kV_t dc_t pm_t an_t cd_t ct_t), sl_t⟩) (c_t : PySem.W.codeIn K cd_t "_law_ways" = true) (k_t : PySem.W.keepIn K (.ref f_t) = true)
   {f_h : Addr} {od_h an_h : Option Addr} {sl_h : Array (Option Value)} {oc_h kV_h dc_h pm_h cd_h ct_h : Value} (a_h : PySem.W.nsIn K mainGlobals "_law_way_rules" = some (some (.ref f_h))) (l_h : K.lookup f_h = some ⟨oc_h, od_h, .func (PySem.W.fnOf "_law_way_rules" "_law_way_rules" (zT s_h) (zQ s_h) (zG s_h) .none kV_h dc_h pm_h an_h cd_h ct_h), sl_h⟩) (c_h : PySem.W.codeIn K cd_h "_law_way_rules" = true) (k_h : PySem.W.keepIn K (.ref f_h) = true)
   {f_l : Addr} {od_l an_l : Option Addr} {sl_l : Array (Option Value)} {oc_l kV_l dc_l pm_l cd_l ct_l : Value} (a_l : PySem.W.nsIn K mainGlobals "_law_answer" = some (some (.ref f_l))) (l_l : K.lookup f_l = some ⟨oc_l, od_l, .func (PySem.W.fnOf "_law_answer" "_law_answer" (zT s_l) (zQ s_l) (zG s_l) .none kV_l dc_l pm_l an_l cd_l ct_l), sl_l⟩) (c_l : PySem.W.codeIn K cd_l "_law_answer" = true) (k_l : PySem.W.keepIn K (.ref f_l) = true)
   {f_D : Addr} {od_D an_D : Option Addr} {sl_D : Array (Option Value)} {oc_D kV_D dc_D pm_D cd_D ct_D : Value} (a_D : PySem.W.nsIn K mainGlobals "law" = some (some (.ref f_D))) (l_D : K.lookup f_D = some ⟨oc_D, od_D, .func (PySem.W.fnOf "law" "law" (zT s_D) (zQ s_D) (zG s_D) .none kV_D dc_D pm_D an_D cd_D ct_D), sl_D⟩) (c_D : PySem.W.codeIn K cd_D "law" = true) (k_D : PySem.W.keepIn K (.ref f_D) = true)
    (z_any : PySem.W.nsIn K mainGlobals "any" = some none)
    (z_reversed : PySem.W.nsIn K mainGlobals "reversed" = some none)
   {t_MOST_NAMES : Tok} (g_MOST_NAMES : PySem.W.nsIn K mainGlobals "MOST_NAMES" = some (some (.int 4 t_MOST_NAMES)))
   {C_ClashError : Addr} (a_ClashError : PySem.W.nsIn K mainGlobals "ClashError" = some (some (.ref C_ClashError)))
   {C_NoText : Addr} (a_NoText : PySem.W.nsIn K mainGlobals "NoText" = some (some (.ref C_NoText)))
   {C_TooMuch : Addr} (a_TooMuch : PySem.W.nsIn K mainGlobals "TooMuch" = some (some (.ref C_TooMuch)))
    (z_ValueError : PySem.W.nsIn K mainGlobals "ValueError" = some none)
    (ei_TooMuch : PySem.W.excIn K C_TooMuch [.type "ValueError", .type "Exception", .type "BaseException", .type "object"] "ValueError.__new__" = true) (x1_TooMuch : (PySem.W.clsIn K C_TooMuch).isSome = true) (x2_TooMuch : PySem.W.findIn K (.ref C_TooMuch) "__getattribute__" = some (some (.builtin "BaseException.__getattribute__"))) (x3_TooMuch : PySem.W.findIn K (.ref C_TooMuch) "__getattr__" = some none) (x4_TooMuch : PySem.W.findIn K (.ref C_TooMuch) "__class__" = some (some (.builtin "object.__class__"))) (x5_TooMuch : PySem.W.specialIn K (.builtin "object.__class__") "__get__" = some (some (.builtin "getset_descriptor.__get__"))) (x6_TooMuch : PySem.W.takesIn K (.builtin "object.__class__") = some true) (x7_TooMuch : PySem.W.mroIn K C_TooMuch (.type "object") = some true) (x8_TooMuch : PySem.W.mroIn K C_TooMuch (.type "BaseException") = some true) (xb_TooMuch : xSub K C_ClashError (.type "BaseException") = some true) (xt_TooMuch : xSub K C_TooMuch (.ref C_ClashError) = some true) (kv_TooMuch : PySem.W.kitOne K (.ref C_TooMuch) (.type "ValueError") = some true)
    (ko_TooMuch_TooMuch : PySem.W.kitOne K (.ref C_TooMuch) (.ref C_TooMuch) = some true)
    (ko_TooMuch_NoText : PySem.W.kitOne K (.ref C_TooMuch) (.ref C_NoText) = some false)
   (z_all : PySem.W.nsIn K mainGlobals "all" = some none)
   (z_bool : PySem.W.nsIn K mainGlobals "bool" = some none)
   (z_dict : PySem.W.nsIn K mainGlobals "dict" = some none)
   (z_int : PySem.W.nsIn K mainGlobals "int" = some none)
   (z_isinstance : PySem.W.nsIn K mainGlobals "isinstance" = some none)
   (z_len : PySem.W.nsIn K mainGlobals "len" = some none)
   (z_list : PySem.W.nsIn K mainGlobals "list" = some none)
   (z_max : PySem.W.nsIn K mainGlobals "max" = some none)
   (z_range : PySem.W.nsIn K mainGlobals "range" = some none)
   (z_set : PySem.W.nsIn K mainGlobals "set" = some none)
   (z_sorted : PySem.W.nsIn K mainGlobals "sorted" = some none)
   (z_str : PySem.W.nsIn K mainGlobals "str" = some none)
   (z_sum : PySem.W.nsIn K mainGlobals "sum" = some none)
   (z_tuple : PySem.W.nsIn K mainGlobals "tuple" = some none) :
   ∃ fd : FuncData, (∀ (s : Shared) (v : Value), BindsTo s fd ⟨[v], []⟩ [("script", v)]) /\ ∀ base : Heap, K.In base -> base.Ns mainGlobals mg -> FnOk l.prog w K mg base CX0 65 fa fd ["script"] (spLaw K) := by
 have e := hfa.symm.trans (PySem.W.mg_of X G a_D)
 cases e
 have F_A := yA (st := s_A) l_A c_A k_A
 have b_A := F_A.binds (ps := ["t"]) fun _ _ _ _ _ _ us hl => by obtain ⟨u0, rfl⟩ := ln1 hl; rfl
 have m_A := PySem.W.mg_of X G a_A
 have F_f := yA (st := s_f) l_f c_f k_f
 have b_f := F_f.binds (ps := ["t", "found"]) fun _ _ _ _ _ _ us hl => by obtain ⟨u0, u1, rfl⟩ := ln2 hl; rfl
 have m_f := PySem.W.mg_of X G a_f
 have F_i := yA (st := s_i) l_i c_i k_i
 have b_i := F_i.binds (ps := ["terms"]) fun _ _ _ _ _ _ us hl => by obtain ⟨u0, rfl⟩ := ln1 hl; rfl
 have m_i := PySem.W.mg_of X G a_i
 have F_y := yA (st := s_y) l_y c_y k_y
 have b_y := F_y.binds (ps := ["book", "saying"]) fun _ _ _ _ _ _ us hl => by obtain ⟨u0, u1, rfl⟩ := ln2 hl; rfl
 have m_y := PySem.W.mg_of X G a_y
 have F_B := yA (st := s_B) l_B c_B k_B
 have b_B := F_B.binds (ps := ["book", "saying"]) fun _ _ _ _ _ _ us hl => by obtain ⟨u0, u1, rfl⟩ := ln2 hl; rfl
 have m_B := PySem.W.mg_of X G a_B
 have F_u := yA (st := s_u) l_u c_u k_u
 have b_u := F_u.binds (ps := ["truths", "t"]) fun _ _ _ _ _ _ us hl => by obtain ⟨u0, u1, rfl⟩ := ln2 hl; rfl
 have m_u := PySem.W.mg_of X G a_u
 have F_w := yA (st := s_w) l_w c_w k_w
 have b_w := F_w.binds (ps := ["truths", "saying"]) fun _ _ _ _ _ _ us hl => by obtain ⟨u0, u1, rfl⟩ := ln2 hl; rfl
 have m_w := PySem.W.mg_of X G a_w
 have F_C := yA (st := s_C) l_C c_C k_C
 have b_C := F_C.binds (ps := ["truths", "rule"]) fun _ _ _ _ _ _ us hl => by obtain ⟨u0, u1, rfl⟩ := ln2 hl; rfl
 have m_C := PySem.W.mg_of X G a_C
 have F_j := yA (st := s_j) l_j c_j k_j
 have b_j := F_j.binds (ps := ["names"]) fun _ _ _ _ _ _ us hl => by obtain ⟨u0, rfl⟩ := ln1 hl; rfl
 have m_j := PySem.W.mg_of X G a_j
 have F_p := yA (st := s_p) l_p c_p k_p
 have b_p := F_p.binds (ps := ["truths", "book", "saying"]) fun _ _ _ _ _ _ us hl => by obtain ⟨u0, u1, u2, rfl⟩ := ln3 hl; rfl
 have m_p := PySem.W.mg_of X G a_p
 have F_n := yA (st := s_n) l_n c_n k_n
 have b_n := F_n.binds (ps := ["book", "saying"]) fun _ _ _ _ _ _ us hl => by obtain ⟨u0, u1, rfl⟩ := ln2 hl; rfl
 have m_n := PySem.W.mg_of X G a_n
 have F_s := yA (st := s_s) l_s c_s k_s
 have b_s := F_s.binds (ps := ["script", "k"]) fun _ _ _ _ _ _ us hl => by obtain ⟨u0, u1, rfl⟩ := ln2 hl; rfl
 have m_s := PySem.W.mg_of X G a_s
 have F_m := yA (st := s_m) l_m c_m k_m
 have b_m := F_m.binds (ps := ["script", "k", "many"]) fun _ _ _ _ _ _ us hl => by obtain ⟨u0, u1, u2, rfl⟩ := ln3 hl; rfl
 have m_m := PySem.W.mg_of X G a_m
 have F_o := yA (st := s_o) l_o c_o k_o
 have b_o := F_o.binds (ps := ["stack", "cell", "names"]) fun _ _ _ _ _ _ us hl => by obtain ⟨u0, u1, u2, rfl⟩ := ln3 hl; rfl
 have m_o := PySem.W.mg_of X G a_o
 have F_v := yA (st := s_v) l_v c_v k_v
 have b_v := F_v.binds (ps := ["script", "k", "many", "names"]) fun _ _ _ _ _ _ us hl => by obtain ⟨u0, u1, u2, u3, rfl⟩ := ln4 hl; rfl
 have m_v := PySem.W.mg_of X G a_v
 have F_r := yA (st := s_r) l_r c_r k_r
 have b_r := F_r.binds (ps := ["pick", "names"]) fun _ _ _ _ _ _ us hl => by obtain ⟨u0, u1, rfl⟩ := ln2 hl; rfl
 have m_r := PySem.W.mg_of X G a_r
 have F_b := yA (st := s_b) l_b c_b k_b
 have b_b := F_b.binds (ps := ["pick", "names"]) fun _ _ _ _ _ _ us hl => by obtain ⟨u0, u1, rfl⟩ := ln2 hl; rfl
 have m_b := PySem.W.mg_of X G a_b
 have F_c := yA (st := s_c) l_c c_c k_c
 have b_c := F_c.binds (ps := ["cell", "names"]) fun _ _ _ _ _ _ us hl => by obtain ⟨u0, u1, rfl⟩ := ln2 hl; rfl
 have m_c := PySem.W.mg_of X G a_c
 have F_q := yA (st := s_q) l_q c_q k_q
 have b_q := F_q.binds (ps := ["sides", "t"]) fun _ _ _ _ _ _ us hl => by obtain ⟨u0, u1, rfl⟩ := ln2 hl; rfl
 have m_q := PySem.W.mg_of X G a_q
 have F_x := yA (st := s_x) l_x c_x k_x
 have b_x := F_x.binds (ps := ["sides", "saying"]) fun _ _ _ _ _ _ us hl => by obtain ⟨u0, u1, rfl⟩ := ln2 hl; rfl
 have m_x := PySem.W.mg_of X G a_x
 have F_g := yA (st := s_g) l_g c_g k_g
 have b_g := F_g.binds (ps := ["sides", "rule"]) fun _ _ _ _ _ _ us hl => by obtain ⟨u0, u1, rfl⟩ := ln2 hl; rfl
 have m_g := PySem.W.mg_of X G a_g
 have F_a := yA (st := s_a) l_a c_a k_a
 have b_a := F_a.binds (ps := ["book", "saying", "names"]) fun _ _ _ _ _ _ us hl => by obtain ⟨u0, u1, u2, rfl⟩ := ln3 hl; rfl
 have m_a := PySem.W.mg_of X G a_a
 have F_d := yA (st := s_d) l_d c_d k_d
 have b_d := F_d.binds (ps := ["found", "due"]) fun _ _ _ _ _ _ us hl => by obtain ⟨u0, u1, rfl⟩ := ln2 hl; rfl
 have m_d := PySem.W.mg_of X G a_d
 have F_k := yA (st := s_k) l_k c_k k_k
 have b_k := F_k.binds (ps := ["t"]) fun _ _ _ _ _ _ us hl => by obtain ⟨u0, rfl⟩ := ln1 hl; rfl
 have m_k := PySem.W.mg_of X G a_k
 have F_e := yA (st := s_e) l_e c_e k_e
 have b_e := F_e.binds (ps := ["book", "saying"]) fun _ _ _ _ _ _ us hl => by obtain ⟨u0, u1, rfl⟩ := ln2 hl; rfl
 have m_e := PySem.W.mg_of X G a_e
 have F_z := yA (st := s_z) l_z c_z k_z
 have b_z := F_z.binds (ps := ["name", "side"]) fun _ _ _ _ _ _ us hl => by obtain ⟨u0, u1, rfl⟩ := ln2 hl; rfl
 have m_z := PySem.W.mg_of X G a_z
 have F_t := yA (st := s_t) l_t c_t k_t
 have b_t := F_t.binds (ps := ["script", "k", "many", "names"]) fun _ _ _ _ _ _ us hl => by obtain ⟨u0, u1, u2, u3, rfl⟩ := ln4 hl; rfl
 have m_t := PySem.W.mg_of X G a_t
 have F_h := yA (st := s_h) l_h c_h k_h
 have b_h := F_h.binds (ps := ["ways", "saying"]) fun _ _ _ _ _ _ us hl => by obtain ⟨u0, u1, rfl⟩ := ln2 hl; rfl
 have m_h := PySem.W.mg_of X G a_h
 have F_l := yA (st := s_l) l_l c_l k_l
 have b_l := F_l.binds (ps := ["book", "saying"]) fun _ _ _ _ _ _ us hl => by obtain ⟨u0, u1, rfl⟩ := ln2 hl; rfl
 have m_l := PySem.W.mg_of X G a_l
 have F_D := yA (st := s_D) l_D c_D k_D
 have b_D := F_D.binds (ps := ["script"]) fun _ _ _ _ _ _ us hl => by obtain ⟨u0, rfl⟩ := ln1 hl; rfl
 have m_D := PySem.W.mg_of X G a_D
 have bi : Bi mg := ⟨PySem.W.mg_none_of X G z_len, PySem.W.mg_none_of X G z_range, PySem.W.mg_none_of X G z_isinstance, PySem.W.mg_none_of X G z_max, PySem.W.mg_none_of X G z_sum, PySem.W.mg_none_of X G z_all, PySem.W.mg_none_of X G z_tuple, PySem.W.mg_none_of X G z_list, PySem.W.mg_none_of X G z_sorted, PySem.W.mg_none_of X G z_set, PySem.W.mg_none_of X G z_int, PySem.W.mg_none_of X G z_bool, PySem.W.mg_none_of X G z_str, PySem.W.mg_none_of X G z_dict⟩
 refine ⟨PySem.W.fnOf "law" "law" (zT s_D) (zQ s_D) (zG s_D) .none kV_D dc_D pm_D an_D cd_D ct_D, fun s v => .of_eq rfl, fun base Xb Gb => ?_⟩
 have ban : mg "any" = none := PySem.W.mg_none_of X G z_any
 have brv : mg "reversed" = none := PySem.W.mg_none_of X G z_reversed
 have m_TooMuch := PySem.W.mg_of X G a_TooMuch
 have Er : Errs K mg C_ClashError C_TooMuch C_NoText := ⟨PySem.W.mg_of X G a_ClashError, xb_TooMuch, xt_TooMuch, ⟨x1_TooMuch, x2_TooMuch, x3_TooMuch, x4_TooMuch, x5_TooMuch, x6_TooMuch, x7_TooMuch, x8_TooMuch⟩, PySem.W.mg_none_of X G z_ValueError, ⟨_, m_TooMuch, rfl⟩, ⟨_, PySem.W.mg_of X G a_NoText, rfl⟩, kv_TooMuch, ko_TooMuch_TooMuch, ko_TooMuch_NoText⟩
 have O_TooMuch := own_mk (x := "TooMuch") (mg := mg) Xb m_TooMuch ei_TooMuch
 have gM : Gc mg "MOST_NAMES" (.int 4) := ⟨_, PySem.W.mg_of X G g_MOST_NAMES, ⟨_, rfl⟩⟩
 have h1 := yB F_s (ok_draw (P := l.prog) (w := w) (base := base) bi F_s) b_s m_s
 have h2 := yB F_m (ok_names bi h1 F_m) b_m m_m
 have h3 := yB F_o (ok_pushed (P := l.prog) (w := w) (base := base) bi F_o) b_o m_o
 have h4 := yB F_v (ok_term bi h1 h3 F_v) b_v m_v
 have h5 := yB F_u (ok_worth_by (P := l.prog) (w := w) (base := base) bi ban F_u b_u m_u 21) b_u m_u
 have h6 := yB F_q (ok_plain (P := l.prog) (w := w) (base := base) bi F_q b_q m_q 21) b_q m_q
 have h7 := yB F_A (ok_parts_of (P := l.prog) (w := w) (base := base) bi F_A) b_A m_A
 have h8 := yB F_f (qE bi h7 F_f b_f m_f 22) b_f m_f
 have h9 := yB F_i (qD bi h8 F_i) b_i m_i
 have h10 := yB F_y (ok_terms_in (P := l.prog) (w := w) (base := base) bi F_y) b_y m_y
 have h11 := yB F_B (ok_names_in bi h9 h10 F_B) b_B m_B
 have h12 := yB F_w (ok_holds_by bi h5 F_w) b_w m_w
 have h13 := yB F_C (ok_fits_by bi h12 F_C) b_C m_C
 have h14 := yB F_p (uG bi h12 h13 F_p) b_p m_p
 have h15 := yB F_x (ok_good bi h6 F_x) b_x m_x
 have h16 := yB F_g (vP bi h15 F_g) b_g m_g
 have h17 := yB F_r (ok_small (P := l.prog) (w := w) (base := base) bi F_r) b_r m_r
 have h18 := yB F_b (qB bi h17 F_b) b_b m_b
 have h19 := yB F_c (uE bi h18 F_c) b_c m_c
 have h20 := yB F_z (ok_side (P := l.prog) (w := w) (base := base) bi F_z) b_z m_z
 have h21 := yB F_k (ok_gather (P := l.prog) (w := w) (base := base) bi F_k b_k m_k 21) b_k m_k
 have h22 := yB F_j (qS (P := l.prog) (w := w) (base := base) bi F_j) b_j m_j
 have h23 := hasX_of F_n (uH (P := l.prog) (w := w) O_TooMuch PySem.F.excBase_ValueError m_TooMuch gM bi h11 h22 h14 F_n) b_n m_n
 have h24 := yB F_l (ok_answer Er bi h23 F_l) b_l m_l
 have h25 := yB F_e (vO bi h21 F_e) b_e m_e
 have h26 := yB F_t (ok_ways bi h1 F_t) b_t m_t
 have h27 := yB F_h (vN bi h20 F_h) b_h m_h
 have h28 := yB F_a (qC bi brv h15 h16 F_a) b_a m_a
 have h29 := yB F_d (uF (P := l.prog) (w := w) (base := base) bi F_d) b_d m_d
 exact ok_law bi h1 h2 h4 h26 h27 h19 h24 h25 h28 h29 F_D
theorem walk {l : PySem.W.OpenLaw} {q : Program} {loose : List Str} {XP : (Str -> Option Value) -> Heap -> Prop} {YP : World -> Heap -> Prop} {d : DefRec} {K : Params -> PySem.W.Frag} (hn : l.most = some 63) (hdf : d.params.defaults = [])
   (hY : ∀ (w : World) (h : Heap), YP w h -> (K w.params).In h)
   (F : ∀ (w : World) (mg : Str -> Option Value) (fa : Addr) (h : Heap), (K w.params).In h -> h.Ns mainGlobals mg -> mg d.name = some (.ref fa) ->
     ∃ fd : FuncData, (∀ (s : Shared) (u : Value), BindsTo s fd ⟨[u], []⟩ [("script", u)]) /\ ∀ base : Heap, (K w.params).In base -> base.Ns mainGlobals mg -> FnOk l.prog w (K w.params) mg base CX0 65 fa fd ["script"] (spLaw (K w.params))) :
   PySem.W.WalkO q loose XP YP l.row.toRowW d [] (fun f vs => PySem.call f vs) :=
 L2.walk_of (n := 63) (k := 65) (x := "script") (CX := fun _ => CX0) (sp := fun w => spLaw (K w.params)) hn (by decide) hdf ⟨rfl, by decide, by decide⟩ hY F (fun _ _ a ns hl _ hS => ⟨a, ns, rfl, hS, hl, fun _ => rfl⟩) fun _ _ _ _ _ z => z
end C
open PySem PySem.W PyProof.Rows
set_option maxRecDepth 100000 in
set_option maxHeartbeats 0 in
theorem PySem.Challenge.cw_clashbook_k43_first_open_reading_holds : PySem.Challenge.rw_clashbook_k43_first_open_reading.Holds := by
 w_on; o_law; k_head; (case hw => w_witness2)
 k_fill
 refine C.walk (l := PySem.Challenge.rw_clashbook_k43_first_open_reading) rfl rfl (fun w h Y => PySem.W.kIn_of Y) ?F
 case F =>
   intro w mg fa h KX G hmg
   refine' C.all_mk KX G hmg ?a_A ?l_A ?c_A ?k_A ?a_f ?l_f ?c_f ?k_f ?a_i ?l_i ?c_i ?k_i ?a_y ?l_y ?c_y ?k_y ?a_B ?l_B ?c_B ?k_B ?a_u ?l_u ?c_u ?k_u ?a_w ?l_w ?c_w ?k_w ?a_C ?l_C ?c_C ?k_C ?a_j ?l_j ?c_j ?k_j ?a_p ?l_p ?c_p ?k_p ?a_n ?l_n ?c_n ?k_n ?a_s ?l_s ?c_s ?k_s ?a_m ?l_m ?c_m ?k_m ?a_o ?l_o ?c_o ?k_o ?a_v ?l_v ?c_v ?k_v ?a_r ?l_r ?c_r ?k_r ?a_b ?l_b ?c_b ?k_b ?a_c ?l_c ?c_c ?k_c ?a_q ?l_q ?c_q ?k_q ?a_x ?l_x ?c_x ?k_x ?a_g ?l_g ?c_g ?k_g ?a_a ?l_a ?c_a ?k_a ?a_d ?l_d ?c_d ?k_d ?a_k ?l_k ?c_k ?k_k ?a_e ?l_e ?c_e ?k_e ?a_z ?l_z ?c_z ?k_z ?a_t ?l_t ?c_t ?k_t ?a_h ?l_h ?c_h ?k_h ?a_l ?l_l ?c_l ?k_l ?a_D ?l_D ?c_D ?k_D ?z_any ?z_reversed ?g_MOST_NAMES ?a_ClashError ?a_NoText ?a_TooMuch ?z_ValueError ?ei_TooMuch ?x1_TooMuch ?x2_TooMuch ?x3_TooMuch ?x4_TooMuch ?x5_TooMuch ?x6_TooMuch ?x7_TooMuch ?x8_TooMuch ?xb_TooMuch ?xt_TooMuch ?kv_TooMuch ?ko_TooMuch_TooMuch ?ko_TooMuch_NoText ?z_all ?z_bool ?z_dict ?z_int ?z_isinstance ?z_len ?z_list ?z_max ?z_range ?z_set ?z_sorted ?z_str ?z_sum ?z_tuple
   (case a_A => k_is); (case l_A => k_is); (case c_A => k_is); (case k_A => k_is)
   (case a_f => k_is); (case l_f => k_is); (case c_f => k_is); (case k_f => k_is)
   (case a_i => k_is); (case l_i => k_is); (case c_i => k_is); (case k_i => k_is)
   (case a_y => k_is); (case l_y => k_is); (case c_y => k_is); (case k_y => k_is)
   (case a_B => k_is); (case l_B => k_is); (case c_B => k_is); (case k_B => k_is)
   (case a_u => k_is); (case l_u => k_is); (case c_u => k_is); (case k_u => k_is)
   (case a_w => k_is); (case l_w => k_is); (case c_w => k_is); (case k_w => k_is)
   (case a_C => k_is); (case l_C => k_is); (case c_C => k_is); (case k_C => k_is)
   (case a_j => k_is); (case l_j => k_is); (case c_j => k_is); (case k_j => k_is)
   (case a_p => k_is); (case l_p => k_is); (case c_p => k_is); (case k_p => k_is)
   (case a_n => k_is); (case l_n => k_is); (case c_n => k_is); (case k_n => k_is)
   (case a_s => k_is); (case l_s => k_is); (case c_s => k_is); (case k_s => k_is)
   (case a_m => k_is); (case l_m => k_is); (case c_m => k_is); (case k_m => k_is)
   (case a_o => k_is); (case l_o => k_is); (case c_o => k_is); (case k_o => k_is)
   (case a_v => k_is); (case l_v => k_is); (case c_v => k_is); (case k_v => k_is)
   (case a_r => k_is); (case l_r => k_is); (case c_r => k_is); (case k_r => k_is)
   (case a_b => k_is); (case l_b => k_is); (case c_b => k_is); (case k_b => k_is)
   (case a_c => k_is); (case l_c => k_is); (case c_c => k_is); (case k_c => k_is)
   (case a_q => k_is); (case l_q => k_is); (case c_q => k_is); (case k_q => k_is)
   (case a_x => k_is); (case l_x => k_is); (case c_x => k_is); (case k_x => k_is)
   (case a_g => k_is); (case l_g => k_is); (case c_g => k_is); (case k_g => k_is)
   (case a_a => k_is); (case l_a => k_is); (case c_a => k_is); (case k_a => k_is)
   (case a_d => k_is); (case l_d => k_is); (case c_d => k_is); (case k_d => k_is)
   (case a_k => k_is); (case l_k => k_is); (case c_k => k_is); (case k_k => k_is)
   (case a_e => k_is); (case l_e => k_is); (case c_e => k_is); (case k_e => k_is)
   (case a_z => k_is); (case l_z => k_is); (case c_z => k_is); (case k_z => k_is)
   (case a_t => k_is); (case l_t => k_is); (case c_t => k_is); (case k_t => k_is)
   (case a_h => k_is); (case l_h => k_is); (case c_h => k_is); (case k_h => k_is)
   (case a_l => k_is); (case l_l => k_is); (case c_l => k_is); (case k_l => k_is)
   (case a_D => k_is); (case l_D => k_is); (case c_D => k_is); (case k_D => k_is)
   (case z_any => k_is); (case z_reversed => k_is); (case g_MOST_NAMES => k_is); (case a_ClashError => k_is)
   (case a_NoText => k_is); (case a_TooMuch => k_is); (case z_ValueError => k_is); (case ei_TooMuch => first | k_is | kernel_rfl)
   (case x1_TooMuch => first | k_is | kernel_rfl); (case x2_TooMuch => first | k_is | kernel_rfl); (case x3_TooMuch => first | k_is | kernel_rfl); (case x4_TooMuch => first | k_is | kernel_rfl)
   (case x5_TooMuch => first | k_is | kernel_rfl); (case x6_TooMuch => first | k_is | kernel_rfl); (case x7_TooMuch => first | k_is | kernel_rfl); (case x8_TooMuch => first | k_is | kernel_rfl)
   (case xb_TooMuch => first | k_is | kernel_rfl); (case xt_TooMuch => first | k_is | kernel_rfl); (case kv_TooMuch => first | k_is | kernel_rfl); (case ko_TooMuch_TooMuch => first | k_is | kernel_rfl)
   (case ko_TooMuch_NoText => first | k_is | kernel_rfl); (case z_all => k_is); (case z_bool => k_is); (case z_dict => k_is)
   (case z_int => k_is); (case z_isinstance => k_is); (case z_len => k_is); (case z_list => k_is)
   (case z_max => k_is); (case z_range => k_is); (case z_set => k_is); (case z_sorted => k_is)
   (case z_str => k_is); (case z_sum => k_is); (case z_tuple => k_is)
#print axioms PySem.Challenge.cw_clashbook_k43_first_open_reading_holds
