import PyProof.Rows.All
import Wide.All
import OpenK.AllK
import Wide.FinOn
import Lean
import PyProof.EqAt
import PyProof.EqKinds
import PyProof.TupleCall
import PyProof.FitsReplace
import PyProof.StrLawsChain
import PyProof.IsiH_list
import KE.KDictOf
import PyProof.Rows.Exc
import PyProof.RulesTry
import PyProof.ForAppend
import PyProof.Rows.Tup
import PyProof.CollectWalk
import PyProof.Rows.DictListVals
import PyProof.AutoSeq1
import PyProof.FactsAll.list_3
import KE.KDictSum
import PyProof.Rows.SortStr
import PyProof.Rows.SortWalk
import PyProof.SetKind
import PyProof.Rows.SetObj
import PyProof.DictKinds
import PyProof.DictIter
import PyProof.MakeMany
import PyProof.WalksS
import PyProof.Walks
import PyProof.Seq
import PyProof.TupleIter
import PyProof.FactsAll.set_1
import PyProof.ForAny
import PyProof.Rows.SetFrom
import PyProof.Rows.StrMeet
import PyProof.NeKinds
import PyProof.ZipIter
import KE.BitLaws
import PyProof.Rows.TupAdd
import PySem.SetOps
import PyProof.EnumMake
import PyProof.EnumFor
import PyProof.Rows.EnumRows
import PyProof.Rows.Range3
import PyProof.Rows.BitMore
import PyProof.Rows.RuleM_int
import KE.KDictList
import PyProof.DictWalks
import PyProof.AutoListH
import PyProof.FactsAll.list_2
import PyProof.CallType
import PyProof.ListNew
import PyProof.Conv_int_bool
import PyProof.ConsumeWalk
import PyProof.DictFindH
import Wide.Seal
import PyProof.TupleOfGen
import PySem.Challenge.RW_clashbook_k10_numbers_of_terms
namespace PySem.W.Fast
def tw4736220517548015759:=0
def tw12857848108887510882:=0
def tw10890751496142257861:=0
def tw17036707253401270077:=0
def tw10071067722207548479:=0
def tw7271408571108461277:=0
def tw2678346266657215552:=0
def tw8493297043864349236:=0
end PySem.W.Fast
set_option Elab.async false
set_option linter.all false
set_option maxRecDepth 100000
namespace L2
open PySem PySem.Spec PyProof.Rows
abbrev Key := Sum Int Str
def keyIs : Key -> Value -> Bool
 | .inl k, v => Value.isInt k v
 | .inr x, v => Value.isStrOf x v
def keyH (w : World) : Key -> Int
 | .inl k => hashInt k
 | .inr x => hashStr w x
theorem keyIs_shape : ∀ {k : Key} {v : Value}, keyIs k v = true -> (∃ i t, k = Sum.inl i /\ v = Value.int i t) \/ (∃ x t, k = Sum.inr x /\ v = Value.str x t)
 | .inl i, v, h => by
   obtain ⟨t, e⟩ := Value.isInt_shape (k := i) (v := v) h
   exact .inl ⟨i, t, rfl, e⟩
 | .inr x, v, h => by
   obtain ⟨t, e⟩ := Value.isStrOf_shape (x := x) (v := v) h
   exact .inr ⟨x, t, rfl, e⟩
theorem keyIs_int (i : Int) (t : Tok) : keyIs (.inl i) (.int i t) = true := by simp [keyIs, Value.isInt]
theorem keyIs_str (x : Str) (t : Tok) : keyIs (.inr x) (.str x t) = true := by simp [keyIs, Value.isStrOf]
theorem key_ll (a b : Int) : decide ((Sum.inl a : Key) = Sum.inl b) = (a == b) := by
 by_cases e : a = b
 · subst e; simp
 · have h : ¬ (Sum.inl a : Key) = Sum.inl b := fun q => e (Sum.inl.inj q)
   rw [decide_eq_false h]
   exact (beq_eq_false_iff_ne.mpr e).symm
theorem key_rr (a b : Str) : decide ((Sum.inr a : Key) = Sum.inr b) = decide (a = b) := by
 by_cases e : a = b
 · subst e; simp
 · have h : ¬ (Sum.inr a : Key) = Sum.inr b := fun q => e (Sum.inr.inj q)
   rw [decide_eq_false h, decide_eq_false e]
theorem key_lr (a : Int) (b : Str) : decide ((Sum.inl a : Key) = Sum.inr b) = false := decide_eq_false (fun q => nomatch q)
theorem key_rl (a : Str) (b : Int) : decide ((Sum.inr a : Key) = Sum.inl b) = false := decide_eq_false (fun q => nomatch q)
def zQ (prog : Program) (w : World) : PySem.KeyKind prog w Key where
 is := keyIs
 hash := keyH w
 inj := fun v a b ha hb => by
   rcases keyIs_shape ha with ⟨i, t, rfl, rfl⟩ | ⟨x, t, rfl, rfl⟩
   · rcases keyIs_shape hb with ⟨j, u, rfl, e⟩ | ⟨y, u, rfl, e⟩
     · injection e with e1 _; rw [e1]
     · exact nomatch e
   · rcases keyIs_shape hb with ⟨j, u, rfl, e⟩ | ⟨y, u, rfl, e⟩
     · exact nomatch e
     · injection e with e1 _; rw [e1]
 byValue := fun k v h => by
   rcases keyIs_shape h with ⟨i, t, rfl, rfl⟩ | ⟨x, t, rfl, rfl⟩ <;> rfl
 pyHash := fun hv h => by
   rcases keyIs_shape hv with ⟨i, t, rfl, rfl⟩ | ⟨x, t, rfl, rfl⟩
   · exact wpAny_pyHash_int h
   · exact wpAny_pyHash_str h
 eqBool := fun hu hv h => by
   rcases keyIs_shape hu with ⟨i, t, rfl, rfl⟩ | ⟨x, t, rfl, rfl⟩
   · rcases keyIs_shape hv with ⟨j, u, rfl, rfl⟩ | ⟨y, u, rfl, rfl⟩
     · rw [key_ll] at h; exact wpAny_eqBool_int h
     · rw [key_lr] at h; exact SeqAt.EqAt.int_str i t y u _ _ _ _ h
   · rcases keyIs_shape hv with ⟨j, u, rfl, rfl⟩ | ⟨y, u, rfl, rfl⟩
     · rw [key_rl] at h; exact SeqAt.EqAt.str_int x t j u _ _ _ _ h
     · rw [key_rr] at h; exact wpAny_eqBool_str h
 «strs» := fun k x t v h => by
   rcases keyIs_shape h with ⟨i, u, rfl, e⟩ | ⟨y, u, rfl, e⟩
   · exact nomatch e
   · injection e with e1 _
     subst e1
     cases v <;> rfl
theorem mixKind_int (prog : Program) (w : World) (i : Int) (t : Tok) : (zQ prog w).is (.inl i) (.int i t) = true := keyIs_int i t
theorem xT (prog : Program) (w : World) (x : Str) (t : Tok) : (zQ prog w).is (.inr x) (.str x t) = true := keyIs_str x t
inductive V where
 | non | bl (b : Bool) | int (i : Int) | str (x : Str) | byt (b : Array UInt8) | flt (b : UInt64) | ref (a : Addr) | ty (n : String)
 deriving DecidableEq
def RelV : V -> Value -> Prop
 | .non, u => u = Value.none
 | .bl b, u => u = Value.bool b
 | .int i, u => ∃ t, u = Value.int i t
 | .str x, u => ∃ t, u = Value.str x t
 | .byt b, u => ∃ t, u = Value.bytes b t
 | .flt b, u => ∃ t, u = Value.float b t
 | .ref a, u => u = Value.ref a
 | .ty n, u => u = Value.type n
abbrev Vals : List V -> List Value -> Prop := Paired RelV
theorem Vals.length {xs : List V} {us : List Value} (r : Vals xs us) : xs.length = us.length := Paired.length r
theorem Vals.get : ∀ {xs : List V} {us : List Value} {i : Nat} {x : V}, Vals xs us -> xs[i]? = some x -> ∃ u, us[i]? = some u /\ RelV x u
 | _, _, _, _, .nil, e => by simp at e
 | _, _, 0, _, .cons r _, e => by simp at e; subst e; exact ⟨_, rfl, r⟩
 | _, _, i + 1, x, .cons _ t, e => by
   obtain ⟨u, h1, h2⟩ := Vals.get (i := i) (x := x) t (by simpa using e)
   exact ⟨u, by simpa using h1, h2⟩
theorem Vals.append : ∀ {xs ys : List V} {us ws : List Value}, Vals xs us -> Vals ys ws -> Vals (xs ++ ys) (us ++ ws)
 | _, _, _, _, .nil, s => s
 | _, _, _, _, .cons r t, s => .cons r (Vals.append t s)
theorem Vals.take : ∀ {xs : List V} {us : List Value} (n : Nat), Vals xs us -> Vals (xs.take n) (us.take n)
 | _, _, 0, _ => .nil
 | _, _, _ + 1, .nil => .nil
 | _, _, n + 1, .cons r t => .cons r (Vals.take n t)
theorem Vals.drop : ∀ {xs : List V} {us : List Value} (n : Nat), Vals xs us -> Vals (xs.drop n) (us.drop n)
 | _, _, 0, r => r
 | _, _, _ + 1, .nil => .nil
 | _, _, n + 1, .cons _ t => Vals.drop n t
def RelO : Option V -> Option Value -> Prop
 | some v, some u => RelV v u
 | none, none => True
 | _, _ => False
def KV {κ : Type} : List (κ × V) -> List (κ × Value) -> Prop := Paired fun (p : κ × V) (q : κ × Value) => p.1 = q.1 /\ RelV p.2 q.2
def kV : Key -> V
 | .inl i => .int i
 | .inr x => .str x
inductive HO where
 | lst (xs : List V)
 | tup (xs : List V)
 | dK (kvs : List (Key × V)) | dT (kvs : List (List Key × V))
 | set (S : Int -> Bool) (n : Nat)
 | ins (C dx : Addr) (fs : List (Str × V))
 | own (x : Addr)
 | xd (fs : List (Str × V))
 | met (f x : Addr)
 | rng (lo hi : Int)
 | frz (o : Obj) (u : HO)
 | tbl (ps : Array Value)
 | ext (φ : Heap -> Prop)
abbrev Hp := Addr -> Option HO
def upd (H : Hp) (a : Addr) (o : HO) : Hp := fun b => if b = a then some o else H b
theorem zB {H : Hp} {a : Addr} {o : HO} : upd H a o a = some o := by unfold upd; rw [if_pos rfl]
theorem zH {H : Hp} {a b : Addr} {o : HO} (h : b ≠ a) : upd H a o b = H b := by unfold upd; rw [if_neg h]
theorem qK {H : Hp} {a : Addr} {o u : HO} : upd (upd H a o) a u = upd H a u := by
 funext b; unfold upd; split <;> rfl
theorem ne_of {H : Hp} {a b : Addr} {o u : HO} (h : H a = some o) (h' : H b = some u) (d : o ≠ u) : a ≠ b := by
 intro e; subst e; rw [h] at h'; exact d (Option.some.inj h')
theorem zU {H : Hp} {a b : Addr} {o : HO} (h : H a = some o) (h' : H b = none) : a ≠ b := by
 intro e; subst e; rw [h] at h'; cases h'
section
variable (P : Program) (w : World)
def ObjOk (H : Hp) (h : Heap) (a : Addr) : HO -> Prop
 | .lst xs => xs.length <= sizeLine /\ ∃ (its : List Value) (n : Nat), Vals xs its /\ h.get? a = some { cls := .type "list", data := .seq its.toArray n }
 | .tup xs => xs.length <= sizeLine /\ ∃ its : List Value, Vals xs its /\ IsTup h a its.toArray
 | .dK kvs => kvs.length <= sizeLine /\ (a == sysModules) = false /\ ∃ vs, KV kvs vs /\ h.DictOf (zQ P w) a vs
 | .dT kvs => kvs.length <= sizeLine /\ (a == sysModules) = false /\ ∃ xs : List (List Key × Addr × Value),
     Paired (fun (p : List Key × V) (q : List Key × Addr × Value) => p.1 = q.1 /\ H q.2.1 = some (.tup (p.1.map kV)) /\ RelV p.2 q.2.2) kvs xs /\
     ∃ o es ep, h.get? a = some o /\ o.ExactDict /\ o.data = .dict es ep /\ es.toList = xs.map (entryOfKey (tupleKind (zQ P w))) /\ (xs.map (·.1)).Nodup
 | .set S n => h.SetOf (intKind P w) a S n
 | .ins C dx fs => H dx = some (.own a) /\ fs.length <= 1000 /\ dx ≠ a /\ h.get? a = some (PySem.W.instObj C dx) /\
     ∃ mA, h.Ns1 dx mA /\ (∀ f, RelO (fs.lookup f) (mA f)) /\ PySem.Within mA (fs.map (·.1))
 | .own _ => ∃ o, h.get? a = some o
 | .xd fs => ∃ mA, h.Ns1 a mA /\ ∀ f, RelO (fs.lookup f) (mA f)
 | .rng lo hi => ∃ t u v, h.get? a = some { cls := .type "range", data := .fields #[.int lo t, .int hi u, .int 1 v] }
 | .frz o u => h.get? a = some o /\ ObjOk H h a u
 | .tbl ps => h.get? a = some { cls := .none, data := .fields ps }
 | .met f x => h.get? a = some (PySem.W.methodObj (.ref f) (.ref x))
 | .ext φ => φ h /\ (∃ o, h.get? a = some o) /\ ∀ h1 h2 : Heap, φ h1 -> (∀ o, h1.get? a = some o -> h2.get? a = some o) -> φ h2
def HOk (H : Hp) (h : Heap) : Prop := ∀ a o, H a = some o -> ObjOk P w H h a o
end
section
variable {P : Program} {w : World} {H H' : Hp} {h h' : Heap} {a : Addr} {o : HO}
theorem ObjOk.lt (x : ObjOk P w H h a o) : a < h.objs.size := by
 cases o with
 | lst xs => obtain ⟨_, _, _, _, e⟩ := x; exact Heap.lt_size e
 | tup xs => obtain ⟨_, _, _, p⟩ := x; exact p.lt
 | dK kvs => obtain ⟨_, _, _, _, o, _, _, e, _⟩ := x; exact Heap.lt_size e
 | dT kvs => obtain ⟨_, _, _, _, o, _, _, e, _⟩ := x; exact Heap.lt_size e
 | set S n => obtain ⟨o, _, _, _, e, _⟩ := x; exact Heap.lt_size e
 | ins C dx fs => obtain ⟨_, _, _, e, _⟩ := x; exact Heap.lt_size e
 | own y => obtain ⟨_, e⟩ := x; exact Heap.lt_size e
 | xd fs => obtain ⟨_, ⟨_, _, _, e, _⟩, _⟩ := x; exact Heap.lt_size e
 | rng lo hi => obtain ⟨_, _, _, e⟩ := x; exact Heap.lt_size e
 | frz ob u => obtain ⟨e, _⟩ := x; exact Heap.lt_size e
 | tbl ps => exact Heap.lt_size (show h.get? a = some _ from x)
 | met f y => exact Heap.lt_size (show h.get? a = some _ from x)
 | ext φ => obtain ⟨_, ⟨_, e⟩, _⟩ := x; exact Heap.lt_size e
theorem Paired.mapP {α β : Type} {F G : α -> β -> Prop} : ∀ {l₁ : List α} {l₂ : List β}, Paired F l₁ l₂ -> (∀ a b, F a b -> G a b) -> Paired G l₁ l₂
 | _, _, .nil, _ => .nil
 | _, _, .cons r t, f => .cons (f _ _ r) (Paired.mapP t f)
theorem ObjOk.stay (x : ObjOk P w H h a o) (k : ∀ b u, (b = a \/ H b = some (.own a)) -> h.get? b = some u -> h'.get? b = some u)
   (ho : ∀ b, H b = some (.own a) -> H' b = some (.own a)) (ht : ∀ b xs, H b = some (.tup xs) -> H' b = some (.tup xs)) : ObjOk P w H' h' a o := by
 induction o with
 | lst xs => obtain ⟨z, its, n, r, e⟩ := x; exact ⟨z, its, n, r, k _ _ (.inl rfl) e⟩
 | tup xs => obtain ⟨z, its, r, ob, e, c⟩ := x; exact ⟨z, its, r, ob, k _ _ (.inl rfl) e, c⟩
 | dK kvs => obtain ⟨z, y, vs, r, ob, es, ep, e, c⟩ := x; exact ⟨z, y, vs, r, ob, es, ep, k _ _ (.inl rfl) e, c⟩
 | dT kvs =>
   obtain ⟨z, y, xs, r, ob, es, ep, e, c⟩ := x
   exact ⟨z, y, xs, Paired.mapP r fun p q z => ⟨z.1, ht _ _ z.2.1, z.2.2⟩, ob, es, ep, k _ _ (.inl rfl) e, c⟩
 | set S n => obtain ⟨ob, es, ep, t, e, c⟩ := x; exact ⟨ob, es, ep, t, k _ _ (.inl rfl) e, c⟩
 | ins C dx fs =>
   obtain ⟨d, z, ne, e, mA, ⟨od, es, ep, e2, c⟩, r⟩ := x
   exact ⟨ho _ d, z, ne, k _ _ (.inl rfl) e, mA, ⟨od, es, ep, k _ _ (.inr d) e2, c⟩, r⟩
 | own y => obtain ⟨ob, e⟩ := x; exact ⟨ob, k _ _ (.inl rfl) e⟩
 | xd fs => obtain ⟨mA, ⟨od, es, ep, e, c⟩, r⟩ := x; exact ⟨mA, ⟨od, es, ep, k _ _ (.inl rfl) e, c⟩, r⟩
 | rng lo hi => obtain ⟨t, u, v, e⟩ := x; exact ⟨t, u, v, k _ _ (.inl rfl) e⟩
 | frz ob u ih => obtain ⟨e, q⟩ := x; exact ⟨k _ _ (.inl rfl) e, ih q⟩
 | tbl ps =>
   have e : h.get? a = some { cls := .none, data := .fields ps } := x
   show h'.get? a = some { cls := .none, data := .fields ps }
   exact k a _ (.inl rfl) e
 | met f y =>
   have e : h.get? a = some (PySem.W.methodObj (.ref f) (.ref y)) := x
   show h'.get? a = some (PySem.W.methodObj (.ref f) (.ref y))
   exact k a _ (.inl rfl) e
 | ext φ => obtain ⟨p, ⟨o, e⟩, st⟩ := x; exact ⟨st _ _ p fun o q => k _ _ (.inl rfl) q, ⟨o, k _ _ (.inl rfl) e⟩, st⟩
theorem HOk.lt (x : HOk P w H h) (e : H a = some o) : a < h.objs.size := (x a o e).lt
theorem HOk.fresh (x : HOk P w H h) (e : h.objs.size <= a) : H a = none := by
 cases q : H a with
 | none => rfl
 | some u => exact absurd (Nat.lt_of_lt_of_le (x.lt q) e) (Nat.lt_irrefl _)
theorem HOk.kept (x : HOk P w H h) (k : ∀ b u, h.get? b = some u -> h'.get? b = some u) : HOk P w H h' := fun a o e =>
 (x a o e).stay (fun b u _ q => k b u q) (fun _ q => q) fun _ _ q => q
theorem HOk.laid (x : HOk P w H h) (k : ∀ b u, h.get? b = some u -> h'.get? b = some u) (hp : h.objs.size <= a) (new : ObjOk P w (upd H a o) h' a o) : HOk P w (upd H a o) h' := fun b u e => by
 have hn := x.fresh hp
 by_cases hb : b = a
 · subst hb; rw [zB] at e; cases e; exact new
 · rw [zH hb] at e
   exact (x b u e).stay (fun c v _ q => k c v q) (fun c q => by rw [zH (zU q hn)]; exact q) fun c xs q => by rw [zH (zU q hn)]; exact q
end
def Rd (H : Hp) (a : Addr) (u : HO) : Prop := H a = some u \/ ∃ o, H a = some (.frz o u)
theorem Rd.ok {P : Program} {w : World} {H : Hp} {h : Heap} {a : Addr} {u : HO} (r : Rd H a u) (x : HOk P w H h) : ObjOk P w H h a u := by
 rcases r with r | ⟨o, r⟩
 · exact x a u r
 · obtain ⟨_, q⟩ := x a _ r
   exact q
def Mut : Option HO -> Prop
 | some (.lst _) => True
 | some (.dK _) => True
 | some (.dT _) => True
 | some (.set _ _) => True
 | some (.ins _ _ _) => True
 | some (.ext _) => True
 | _ => False
section
variable {P : Program} {w : World} {H : Hp} {h h' : Heap} {x e : Addr} {o' : HO}
theorem HOk.write (ok : HOk P w H h) (mu : Mut (H x)) (he : e = x \/ H e = some (.own x)) (k : ∀ b u, b ≠ e -> h.get? b = some u -> h'.get? b = some u) (heo : ∃ u, h'.get? e = some u)
   (new : ObjOk P w (upd H x o') h' x o') : HOk P w (upd H x o') h' := fun b u q => by
 have nown : ∀ c y, H c = some (.own y) -> c ≠ x := fun c y r z => by subst z; rw [r] at mu; exact mu
 have ntup : ∀ c xs, H c = some (.tup xs) -> c ≠ x := fun c xs r z => by subst z; rw [r] at mu; exact mu
 by_cases hb : b = x
 · subst hb; rw [zB] at q; cases q; exact new
 · rw [zH hb] at q
   by_cases hbe : b = e
   · have q' : H b = some (.own x) := by
       rcases he with z | z
       · exact absurd (hbe.trans z) hb
       · rw [hbe]; exact z
     rw [q] at q'; cases q'
     obtain ⟨v, hv⟩ := heo
     exact ⟨v, by rw [hbe]; exact hv⟩
   · refine (ok b u q).stay (fun c v hc r => k c v ?_ r) (fun c r => by rw [zH (nown c b r)]; exact r) fun c xs r => by rw [zH (ntup c xs r)]; exact r
     rcases hc with rfl | hc
     · exact hbe
     · rintro rfl
       rcases he with z | z
       · exact nown c b hc z
       · rw [hc] at z; cases z; exact hb rfl
end
structure Un (fs ex : List Addr) (H H' : Hp) (h h' : Heap) : Prop where
 keep : ∀ b o, h.get? b = some o -> H b = none -> b ∉ fs -> b ∉ ex -> h'.get? b = some o
 slot : ∀ b o, h.get? b = some o -> H b = none -> b ∈ fs -> b ∉ ex -> ∃ sl, h'.get? b = some { o with slots := sl }
 free : ∀ b o, h.get? b = some o -> H b = none -> b ∉ ex -> H' b = none
 there : ∀ b o, h.get? b = some o -> b ∉ ex -> ∃ o', h'.get? b = some o'
 tups : ∀ b xs, H b = some (.tup xs) -> H' b = some (.tup xs)
 frzs : ∀ b o u, H b = some (.frz o u) -> H' b = some (.frz o u)
 tbls : ∀ b ps, H b = some (.tbl ps) -> ∃ more, H' b = some (.tbl (ps ++ more))
section
variable {fs fs' ex ex' : List Addr} {H H1 H2 : Hp} {h h1 h2 h' : Heap} {a x e : Addr} {o : HO}
theorem Un.any (u : Un fs ex H H1 h h1) {b : Addr} {ob : Obj} (q : h.get? b = some ob) (n : H b = none) (hx : b ∉ ex) : ∃ sl, h1.get? b = some { ob with slots := sl } := by
 by_cases hb : b ∈ fs
 · exact u.slot b ob q n hb hx
 · exact ⟨ob.slots, u.keep b ob q n hb hx⟩
theorem Un.trans (a : Un fs ex H H1 h h1) (b : Un fs ex H1 H2 h1 h2) : Un fs ex H H2 h h2 where
 keep := fun c ob q n hc hx => b.keep c ob (a.keep c ob q n hc hx) (a.free c ob q n hx) hc hx
 slot := fun c ob q n hc hx => by
   obtain ⟨sl, e1⟩ := a.slot c ob q n hc hx
   obtain ⟨sl', e2⟩ := b.slot c _ e1 (a.free c ob q n hx) hc hx
   exact ⟨sl', e2⟩
 free := fun c ob q n hx => by
   obtain ⟨o', e1⟩ := a.there c ob q hx
   exact b.free c o' e1 (a.free c ob q n hx) hx
 there := fun c ob q hx => by
   obtain ⟨o', e1⟩ := a.there c ob q hx
   exact b.there c o' e1 hx
 tups := fun c xs q => b.tups c xs (a.tups c xs q)
 frzs := fun c ob xs q => b.frzs c ob xs (a.frzs c ob xs q)
 tbls := fun c ps q => by
   obtain ⟨m1, e1⟩ := a.tbls c ps q
   obtain ⟨m2, e2⟩ := b.tbls c _ e1
   exact ⟨m1 ++ m2, by rw [e2, Array.append_assoc]⟩
theorem Un.kept (k : ∀ b u, h.get? b = some u -> h'.get? b = some u) : Un fs ex H H h h' :=
 ⟨fun b ob q _ _ _ => k b ob q, fun b ob q _ _ _ => ⟨ob.slots, k b ob q⟩, fun _ _ _ n _ => n, fun b ob q _ => ⟨ob, k b ob q⟩, fun _ _ q => q, fun _ _ _ q => q, fun _ ps q => ⟨#[], by rw [q]; simp⟩⟩
theorem Un.refl : Un fs ex H H h h := Un.kept fun _ _ q => q
theorem Un.laid (k : ∀ b u, h.get? b = some u -> h'.get? b = some u) (hp : h.objs.size <= a) (hn : H a = none) : Un fs ex H (upd H a o) h h' where
 keep := fun b u q _ _ _ => k b u q
 slot := fun b u q _ _ _ => ⟨u.slots, k b u q⟩
 free := fun b u q n _ => by rw [zH (Nat.ne_of_lt (Nat.lt_of_lt_of_le (Heap.lt_size q) hp))]; exact n
 there := fun b u q _ => ⟨u, k b u q⟩
 tups := fun b xs q => by rw [zH (zU q hn)]; exact q
 frzs := fun b u xs q => by rw [zH (zU q hn)]; exact q
 tbls := fun b ps q => ⟨#[], by rw [zH (zU q hn), q]; simp⟩
theorem Un.write (mu : Mut (H x)) (he : e = x \/ H e = some (.own x)) (k : ∀ b u, b ≠ e -> h.get? b = some u -> h'.get? b = some u) (heo : ∃ u, h'.get? e = some u) : Un fs ex H (upd H x o) h h' := by
 have hx : ∀ b, H b = none -> b ≠ x := fun b n z => by subst z; rw [n] at mu; exact mu
 have hb : ∀ b, H b = none -> b ≠ e := fun b n z => by
   subst z
   rcases he with r | r
   · exact hx b n r
   · rw [n] at r; cases r
 have hm : ∀ b u, H b = some u -> ¬ Mut (some u) -> b ≠ x := fun b u q nm z => by subst z; rw [q] at mu; exact nm mu
 refine ⟨fun b u q n _ _ => k b u (hb b n) q, fun b u q n _ _ => ⟨u.slots, k b u (hb b n) q⟩, fun b u q n _ => by rw [zH (hx b n)]; exact n, fun b u q _ => ?_,
   fun b xs q => by rw [zH (hm b _ q fun z => z)]; exact q, fun b u xs q => by rw [zH (hm b _ q fun z => z)]; exact q, fun b ps q => ⟨#[], by rw [zH (hm b _ q fun z => z), q]; simp⟩⟩
 by_cases hbe : b = e
 · subst hbe; exact heo
 · exact ⟨u, k b u hbe q⟩
end
def trk (h : Heap) (H : Hp) : List Addr := (List.range h.objs.size).filter fun a => (H a).isSome
def qY (h : Heap) (H : Hp) : Heap := PySem.W.hideAll h (trk h H)
theorem hidT_size (h : Heap) (H : Hp) : (qY h H).objs.size = h.objs.size := PySem.W.hideAll_size _ _
theorem hidT_get {h : Heap} {H : Hp} {b : Addr} {o : Obj} (e : h.get? b = some o) (n : H b = none) : (qY h H).get? b = some o :=
 PySem.W.hideAll_get _ e fun hm => by
   have q : (H b).isSome = true := (List.mem_filter.mp hm).2
   rw [n] at q; simp at q
theorem of_hidT {h : Heap} {H : Hp} {b : Addr} {o : Obj} (e : (qY h H).get? b = some o) : h.get? b = some o /\ H b = none := by
 have e' : h.get? b = some o := PySem.W.of_hideAll (trk h H) e
 refine ⟨e', ?_⟩
 cases q : H b with
 | none => rfl
 | some x =>
   have hm : b ∈ trk h H := List.mem_filter.mpr ⟨List.mem_range.mpr (Heap.lt_size e'), by simp [q]⟩
   have z : (qY h H).get? b = none := PySem.W.hideAll_none (trk h H) hm
   rw [z] at e; cases e
def allNews (g h : Heap) (L : Addr) : List (Addr × Obj) := (List.range h.objs.size).filterMap fun a => if a = L \/ (g.get? a).isSome = true then none else (h.get? a).map fun o => (a, o)
def rest (g h : Heap) (L d : Addr) : List (Addr × Obj) := (allNews g h L).filter fun p => decide (p.1 ≠ d)
structure Mod (K : PySem.W.Frag) (mg : Str -> Option Value) (base : Heap) : Prop where
 kin : K.In base
 glob : base.Ns mainGlobals mg
 blt : ∃ mb, base.Ns builtinsNs mb /\ ∀ x : Str, x ≠ "__name__" -> mb x = bootBuiltins x
 nolimit : base.NoLimit
structure Cx where
 prog : Program
 w : World
 K : PySem.W.Frag
 mg : Str -> Option Value
 base : Heap
 A : Around
 N : List Str
 s₀ : Shared
 H₀ : Hp
 env : Env
 outer : List Env
 stack : List Env
 ex : List Addr
 fn : Str -> Bool
 calm : Bool
 pn : List (Addr × Obj)
 xe : Value -> Shared -> Prop
def frs (l : List Env) : List Addr := l.filterMap (·.frame)
abbrev Cx.fs (X : Cx) : List Addr := frs X.outer
def Vis (sc : Scope) (x : Str) : Prop := sc.names.lookup x = some .local \/ sc.names.lookup x = some .cell \/ sc.names.lookup x = some .free
def Loc (sc : Scope) (x : Str) : Prop := sc.names.lookup x = some .local \/ sc.names.lookup x = some .cell
def Look (env : Env) (h : Heap) (m : Str -> Option Value) (x : Str) (u : Value) : Prop :=
 (env.kindOf x = some .local /\ m x = some u) \/ ((env.kindOf x = some .cell \/ env.kindOf x = some .free) /\ ∃ c, env.cells.lookup x = some c /\ h.IsCell c (some u))
structure Cx.Ok (X : Cx) : Prop where
 mod : Mod X.K X.mg X.base
 kind : X.env.scope.kind = .function
 glob : X.env.globals = mainGlobals
 blt : X.env.builtins = builtinsNs
 above : X.s₀.heap.objs.size <= X.env.locals
 inj : ∀ x y c, X.env.cells.lookup x = some c -> X.env.cells.lookup y = some c -> x = y
 has : ∀ x, (X.env.kindOf x = some .cell \/ X.env.kindOf x = some .free) -> ∃ c, X.env.cells.lookup x = some c
 cab : ∀ x c, X.fn x = true -> X.env.cells.lookup x = some c -> X.s₀.heap.objs.size <= c
 hd : X.calm = true -> X.A.handled = none
 frames : X.A.frames = some X.stack
 stk : X.stack = X.outer \/ (X.stack = X.env :: X.outer /\ X.env.frame = some X.env.locals)
 exf : ∀ b ∈ X.ex, b ≠ X.env.locals /\ ∀ x c, X.env.cells.lookup x = some c -> c ≠ b
 bs : ∀ b o, X.base.get? b = some o -> X.s₀.heap.get? b = some o /\ X.H₀ b = none
 bsz : X.base.objs.size <= X.s₀.heap.objs.size
 noex : ∀ b o, X.base.get? b = some o -> b ∉ X.ex
 exfs : ∀ b ∈ X.ex, b ∉ X.fs
 funs : X.s₀.heap.FunFrames X.base X.outer
 frf : ∀ b ∈ X.fs, X.H₀ b = none
structure Inv (X : Cx) (pins : List (Addr × Obj)) (σ : List (Option V)) (H : Hp) (s : Shared) : Prop where
 ok : X.Ok
 os : s.os = X.s₀.os
 bare : AllBare s.gens
 base : Un X.fs X.ex X.H₀ H X.s₀.heap s.heap
 loc : ∃ m, s.heap.Ns X.env.locals m /\ ∀ (i : Nat) (x : Str) (v : V), X.N[i]? = some x -> σ[i]? = some (some v) -> Vis X.env.scope x -> ∃ u, RelV v u /\ Look X.env s.heap m x u
 cell : ∀ x c, X.env.cells.lookup x = some c -> ∃ v, s.heap.IsCell c v
 free : H X.env.locals = none
 freeC : ∀ x c, X.env.cells.lookup x = some c -> H c = none
 pin : ∀ p ∈ X.pn ++ pins, s.heap.get? p.1 = some p.2 /\ H p.1 = none /\ p.1 ≠ X.env.locals /\ p.1 ∉ X.fs /\ ∀ v, p.2.data ≠ .cell v
 hok : HOk X.prog X.w H s.heap
 len : σ.length = X.N.length
section
variable {X : Cx} {pins : List (Addr × Obj)} {σ : List (Option V)} {H H' : Hp} {s : Shared} {h' : Heap}
theorem Cx.Ok.nofr (ok : X.Ok) {b : Addr} {o : Obj} (e : X.base.get? b = some o) : b ∉ X.fs := fun hb => by
 have := (ok.funs.mem hb).1
 rw [e] at this; cases this
theorem Inv.bs (I : Inv X pins σ H s) : ∀ b o, X.base.get? b = some o -> s.heap.get? b = some o /\ H b = none := fun b o e =>
 ⟨I.base.keep b o (I.ok.bs b o e).1 (I.ok.bs b o e).2 (I.ok.nofr e) (I.ok.noex b o e), I.base.free b o (I.ok.bs b o e).1 (I.ok.bs b o e).2 (I.ok.noex b o e)⟩
theorem Inv.bk (I : Inv X pins σ H s) : ∀ b o, X.base.get? b = some o -> s.heap.get? b = some o := fun b o e => (I.bs b o e).1
theorem Inv.mod (I : Inv X pins σ H s) : Mod X.K X.mg X.base := I.ok.mod
theorem Inv.kIn (I : Inv X pins σ H s) : X.K.In s.heap := I.ok.mod.kin.keeps I.bk
theorem Inv.lt (I : Inv X pins σ H s) : X.env.locals < s.heap.objs.size := let ⟨_, hn, _⟩ := I.loc; hn.lt
theorem Inv.sz (I : Inv X pins σ H s) : X.s₀.heap.objs.size <= s.heap.objs.size := Nat.le_trans I.ok.above (Nat.le_of_lt I.lt)
theorem Inv.nofs (I : Inv X pins σ H s) {a : Addr} (h : s.heap.objs.size <= a) : a ∉ X.fs := fun hb => by
 obtain ⟨_, o, ho, _⟩ := I.ok.funs.mem hb
 exact absurd (Nat.lt_of_lt_of_le (Heap.lt_size ho) (Nat.le_trans I.sz h)) (Nat.lt_irrefl _)
theorem Inv.cne (I : Inv X pins σ H s) : ∀ x c, X.env.cells.lookup x = some c -> c ≠ X.env.locals := fun x c e z => by
 obtain ⟨v, o, ho, hd⟩ := I.cell x c e
 obtain ⟨m, ⟨o', es, ep, ho', hd', _⟩, _⟩ := I.loc
 rw [z, ho'] at ho; cases ho; rw [hd'] at hd; cases hd
theorem Inv.funs (I : Inv X pins σ H s) : s.heap.FunFrames X.base X.outer := by
 have all : ∀ (l : List Env), (∀ b ∈ frs l, b ∈ X.fs) -> X.s₀.heap.FunFrames X.base l -> s.heap.FunFrames X.base l := by
   intro l
   induction l with
   | nil => intro _ _; trivial
   | cons env r ih =>
     intro hs hl
     obtain ⟨hk, ⟨L, o, hf, hn, ho, hd⟩, hr⟩ := hl
     have hL : L ∈ X.fs := hs L (by unfold frs; rw [List.filterMap_cons, hf]; exact List.mem_cons_self)
     obtain ⟨sl, e⟩ := I.base.slot L o ho (I.ok.frf L hL) hL fun z => I.ok.exfs L z hL
     exact ⟨hk, ⟨L, _, hf, hn, e, hd⟩, ih (fun b hb => hs b (by unfold frs; rw [List.filterMap_cons, hf]; exact List.mem_cons_of_mem _ hb)) hr⟩
 exact all X.outer (fun _ hb => hb) I.ok.funs
theorem Inv.stack (I : Inv X pins σ H s) : s.heap.FunFrames X.base X.stack := by
 rcases I.ok.stk with e | ⟨e, hf⟩
 · rw [e]; exact I.funs
 · rw [e]
   obtain ⟨m, hn, _⟩ := I.loc
   refine .cons (by rw [I.ok.kind]; decide) hf hn ?_ I.funs
   exact Heap.get?_none_of_le (Nat.le_trans I.ok.bsz I.ok.above)
theorem Inv.stkSub (I : Inv X pins σ H s) : ∀ b ∈ frs X.stack, b ∈ X.env.locals :: X.fs := fun b hb => by
 rcases I.ok.stk with e | ⟨e, hf⟩
 · rw [e] at hb; exact List.mem_cons_of_mem _ hb
 · rw [e] at hb
   unfold frs at hb
   rw [List.filterMap_cons, hf] at hb
   exact hb
theorem Inv.stkFree (I : Inv X pins σ H s) : ∀ b ∈ frs X.stack, H b = none := fun b hb => by
 rcases List.mem_cons.mp (I.stkSub b hb) with e | hb
 · rw [e]; exact I.free
 · obtain ⟨_, o, ho, _⟩ := I.ok.funs.mem hb
   exact I.base.free b o ho (I.ok.frf b hb) fun z => I.ok.exfs b z hb
theorem Inv.step {g' : Array GenState} {t' : Nat} {d' : Drawn} {ch : List Addr} (I : Inv X pins σ H s)
   (hch : ∀ b ∈ ch, (b ∈ X.ex \/ X.s₀.heap.objs.size <= b) /\ b ≠ X.env.locals /\ (∀ x c, X.env.cells.lookup x = some c -> c ≠ b) /\ ∀ p ∈ X.pn ++ pins, p.1 ≠ b)
   (keep : ∀ b o, b ≠ X.env.locals -> b ∉ X.fs -> b ∉ ch -> s.heap.get? b = some o -> H b = none -> h'.get? b = some o)
   (slot : ∀ b o, b ≠ X.env.locals -> b ∈ X.fs -> b ∉ ch -> s.heap.get? b = some o -> H b = none -> ∃ sl, h'.get? b = some { o with slots := sl }) (free : ∀ b o, b ∉ ch -> s.heap.get? b = some o -> H b = none -> H' b = none)
   (there : ∀ b o, b ∉ ch -> s.heap.get? b = some o -> ∃ o', h'.get? b = some o')
   (tups : ∀ b xs, H b = some (.tup xs) -> H' b = some (.tup xs)) (frzs : ∀ b o u, H b = some (.frz o u) -> H' b = some (.frz o u)) (tbls : ∀ b ps, H b = some (.tbl ps) -> ∃ more, H' b = some (.tbl (ps ++ more)))
   (ns : ∀ m, s.heap.Ns X.env.locals m -> h'.Ns X.env.locals m) (hok : HOk X.prog X.w H' h') (hg : AllBare g') :
   Inv X pins σ H' { s with heap := h', gens := g', drawn := d', toks := t' } := by
 have neL : ∀ b o, X.s₀.heap.get? b = some o -> b ≠ X.env.locals := fun b o e => Nat.ne_of_lt (Nat.lt_of_lt_of_le (Heap.lt_size e) I.ok.above)
 have neC : ∀ b o, X.s₀.heap.get? b = some o -> b ∉ X.ex -> b ∉ ch := fun b o e hx hb => by
   rcases (hch b hb).1 with z | z
   · exact hx z
   · exact absurd (Nat.lt_of_lt_of_le (Heap.lt_size e) z) (Nat.lt_irrefl _)
 have cellK : ∀ x c, X.env.cells.lookup x = some c -> ∀ v, s.heap.IsCell c v -> h'.IsCell c v := fun x c e v ⟨o, ho, hd⟩ => by
   have nch : c ∉ ch := fun z => (hch c z).2.2.1 x c e rfl
   by_cases hc : c ∈ X.fs
   · obtain ⟨sl, q⟩ := slot c o (I.cne x c e) hc nch ho (I.freeC x c e)
     exact ⟨_, q, hd⟩
   · exact ⟨o, keep c o (I.cne x c e) hc nch ho (I.freeC x c e), hd⟩
 refine ⟨I.ok, I.os, hg, ⟨fun b o e n hb hx => ?_, fun b o e n hb hx => ?_, fun b o e n hx => ?_, fun b o e hx => ?_, fun b xs e => tups b xs (I.base.tups b xs e), fun b o xs e => frzs b o xs (I.base.frzs b o xs e), fun b ps e => ?_⟩, ?_, fun x c e => ?_, ?_, fun x c e => ?_, fun p hp => ?_, hok, I.len⟩
 · exact keep b o (neL b o e) hb (neC b o e hx) (I.base.keep b o e n hb hx) (I.base.free b o e n hx)
 · obtain ⟨sl, e1⟩ := I.base.slot b o e n hb hx
   obtain ⟨sl', e2⟩ := slot b _ (neL b o e) hb (neC b o e hx) e1 (I.base.free b o e n hx)
   exact ⟨sl', e2⟩
 · obtain ⟨o', e1⟩ := I.base.there b o e hx
   exact free b o' (neC b o e hx) e1 (I.base.free b o e n hx)
 · obtain ⟨o', e1⟩ := I.base.there b o e hx
   exact there b o' (neC b o e hx) e1
 · obtain ⟨m1, e1⟩ := I.base.tbls b ps e
   obtain ⟨m2, e2⟩ := tbls b _ e1
   exact ⟨m1 ++ m2, by rw [e2, Array.append_assoc]⟩
 · obtain ⟨m, hn, hl⟩ := I.loc
   refine ⟨m, ns m hn, fun i x v e1 e2 e3 => ?_⟩
   obtain ⟨u, r, l⟩ := hl i x v e1 e2 e3
   refine ⟨u, r, ?_⟩
   rcases l with l | ⟨k, c, e, z⟩
   · exact .inl l
   · exact .inr ⟨k, c, e, cellK x c e _ z⟩
 · obtain ⟨v, z⟩ := I.cell x c e
   exact ⟨v, cellK x c e v z⟩
 · obtain ⟨m, ⟨o, _, _, ho, _⟩, _⟩ := I.loc
   exact free _ o (fun z => (hch _ z).2.1 rfl) ho I.free
 · obtain ⟨v, o, ho, hd⟩ := I.cell x c e
   exact free c o (fun z => (hch c z).2.2.1 x c e rfl) ho (I.freeC x c e)
 · obtain ⟨e, n, ne, nf, d⟩ := I.pin p hp
   have nch : p.1 ∉ ch := fun z => (hch p.1 z).2.2.2 p hp rfl
   exact ⟨keep p.1 p.2 ne nf nch e n, free p.1 p.2 nch e n, ne, nf, d⟩
theorem Inv.un {t' : Nat} (I : Inv X pins σ H s) (u : Un X.fs [] H H' s.heap h') (hok : HOk X.prog X.w H' h') : Inv X pins σ H' { s with heap := h', toks := t' } := by
 obtain ⟨m, ⟨o, es, ep, ho, r⟩, _⟩ := id I.loc
 obtain ⟨sl, hL⟩ := u.any ho I.free (by simp)
 exact I.step (g' := s.gens) (d' := s.drawn) (ch := []) (fun _ z => nomatch z) (fun b o _ hb _ e n => u.keep b o e n hb (by simp)) (fun b o _ hb _ e n => u.slot b o e n hb (by simp)) (fun b o _ e n => u.free b o e n (by simp)) (fun b o _ e => u.there b o e (by simp)) u.tups u.frzs u.tbls (fun m' hm => by
   obtain ⟨o', es', ep', ho', r'⟩ := hm
   rw [ho] at ho'; cases ho'
   exact ⟨_, es', ep', hL, r'⟩) hok I.bare
theorem Inv.call {g' : Array GenState} {t' : Nat} {d' : Drawn} {ch : List Addr} (I : Inv X pins σ H s) (u : Un (frs X.stack) ch H H' s.heap h') (hok : HOk X.prog X.w H' h') (hg : AllBare g')
   (hch : ∀ b ∈ ch, (b ∈ X.ex \/ X.s₀.heap.objs.size <= b) /\ b ≠ X.env.locals /\ (∀ x c, X.env.cells.lookup x = some c -> c ≠ b) /\ ∀ p ∈ X.pn ++ pins, p.1 ≠ b) :
   Inv X pins σ H' { s with heap := h', gens := g', drawn := d', toks := t' } := by
 obtain ⟨m, ⟨o, es, ep, ho, r⟩, _⟩ := id I.loc
 obtain ⟨sl, hL⟩ := u.any ho I.free fun z => (hch _ z).2.1 rfl
 exact I.step (ch := ch) hch (fun b o hL hb hc e n => u.keep b o e n (fun z => (List.mem_cons.mp (I.stkSub b z)).elim hL hb) hc) (fun b o _ _ hc e n => u.any e n hc) (fun b o hc e n => u.free b o e n hc) (fun b o hc e => u.there b o e hc) u.tups u.frzs u.tbls (fun m' hm => by
   obtain ⟨o', es', ep', ho', r'⟩ := hm
   rw [ho] at ho'; cases ho'
   exact ⟨_, es', ep', hL, r'⟩) hok hg
theorem Inv.turned {t' : Nat} {it : Addr} (I : Inv X pins σ H s) (k : ∀ b o, b ≠ it -> s.heap.get? b = some o -> h'.get? b = some o) (hn : H it = none) (hL : it ≠ X.env.locals)
   (h1 : it ∈ X.ex \/ X.s₀.heap.objs.size <= it) (h2 : ∀ x c, X.env.cells.lookup x = some c -> c ≠ it) (h3 : ∀ p ∈ X.pn ++ pins, p.1 ≠ it) : Inv X pins σ H { s with heap := h', toks := t' } := by
 have nit : ∀ b u, H b = some u -> b ≠ it := fun b u e z => by rw [z, hn] at e; cases e
 refine I.step (g' := s.gens) (d' := s.drawn) (ch := [it]) (fun b hb => ?_) (fun b o _ _ hc e _ => k b o (fun z => hc (by simp [z])) e) (fun b o _ _ hc e _ => ⟨o.slots, k b o (fun z => hc (by simp [z])) e⟩) (fun _ _ _ _ n => n)
   (fun b o hc e => ⟨o, k b o (fun z => hc (by simp [z])) e⟩) (fun _ _ e => e) (fun _ _ _ e => e) (fun b ps e => ⟨#[], by rw [e]; simp⟩) (fun m hm => ?_) (fun b u e => ?_) I.bare
 · have e : b = it := by simpa using hb
   subst e
   exact ⟨h1, hL, h2, h3⟩
 · obtain ⟨o, es, ep, ho, r⟩ := hm
   exact ⟨o, es, ep, k _ o (Ne.symm hL) ho, r⟩
 · refine (I.hok b u e).stay (fun c v hc q => k c v ?_ q) (fun _ q => q) fun _ _ q => q
   rcases hc with z | z
   · rw [z]; exact nit b u e
   · exact nit c _ z
theorem Inv.tok (I : Inv X pins σ H s) (t : Nat) : Inv X pins σ H { s with toks := t } := I.un (h' := s.heap) (t' := t) Un.refl I.hok
theorem Inv.kept {t' : Nat} (I : Inv X pins σ H s) (k : ∀ b u, s.heap.get? b = some u -> h'.get? b = some u) : Inv X pins σ H { s with heap := h', toks := t' } := I.un (Un.kept k) (I.hok.kept k)
theorem Inv.laid {a : Addr} {o : HO} {t' : Nat} (I : Inv X pins σ H s) (k : ∀ b u, s.heap.get? b = some u -> h'.get? b = some u) (hp : s.heap.objs.size <= a) (new : ObjOk X.prog X.w (upd H a o) h' a o) :
   Inv X pins σ (upd H a o) { s with heap := h', toks := t' } := I.un (Un.laid k hp (I.hok.fresh hp)) (I.hok.laid k hp new)
theorem Inv.write {x e : Addr} {o : HO} {t' : Nat} (I : Inv X pins σ H s) (mu : Mut (H x)) (he : e = x \/ H e = some (.own x)) (k : ∀ b u, b ≠ e -> s.heap.get? b = some u -> h'.get? b = some u) (heo : ∃ u, h'.get? e = some u)
   (new : ObjOk X.prog X.w (upd H x o) h' x o) : Inv X pins σ (upd H x o) { s with heap := h', toks := t' } := I.un (Un.write mu he k heo) (I.hok.write mu he k heo new)
theorem Inv.pins_of {pins' : List (Addr × Obj)} (I : Inv X pins σ H s) (h : ∀ p ∈ pins', s.heap.get? p.1 = some p.2 /\ H p.1 = none /\ p.1 ≠ X.env.locals /\ p.1 ∉ X.fs /\ ∀ v, p.2.data ≠ .cell v) : Inv X pins' σ H s :=
 ⟨I.ok, I.os, I.bare, I.base, I.loc, I.cell, I.free, I.freeC, fun p hp => (List.mem_append.mp hp).elim (fun z => I.pin p (List.mem_append_left _ z)) (h p), I.hok, I.len⟩
theorem nodup_ix {N : List Str} (hN : N.Nodup) {i j : Nat} {x : Str} (a : N[i]? = some x) (b : N[j]? = some x) : i = j := by
 obtain ⟨h1, e1⟩ := List.getElem?_eq_some_iff.mp a
 obtain ⟨h2, e2⟩ := List.getElem?_eq_some_iff.mp b
 exact (List.getElem_inj hN).mp (e1.trans e2.symm)
theorem jW {M : Model} {A : Around} {E : Value -> Shared -> Prop} {i : Nat} {x : Str} {v : V} {u : Value} {Q : Unit -> Shared -> Prop} (I : Inv X pins σ H s) (hN : X.N.Nodup) (hi : X.N[i]? = some x) (hx : Loc X.env.scope x) (r : RelV v u)
   (h : ∀ s', Inv X pins (σ.set i (some v)) H s' -> (∃ a, Heap.SameBut a s.heap s'.heap /\ (a = X.env.locals \/ X.env.cells.lookup x = some a)) -> Q () s') (hf : X.fn x = true \/ X.env.scope.names.lookup x = some .local := by first | exact .inl rfl | exact .inr rfl | assumption) : wpAny M A (storeName X.env x u) Q E s := by
 obtain ⟨m, hn, hl⟩ := id I.loc
 have hcls : (X.env.scope.kind == .class || (X.env.scope.kind == .module && X.env.locals != X.env.globals)) = false := by rw [I.ok.kind]; rfl
 have hiσ : i < σ.length := by rw [I.len]; exact (List.getElem?_eq_some_iff.mp hi).1
 have cne := I.cne
 have tracked : ∀ {a : Addr} {h' : Heap}, (∃ o, s.heap.get? a = some o /\ H a = none) -> Heap.SameBut a s.heap h' -> HOk X.prog X.w H h' := fun {a h'} ha hs b ob e => by
   obtain ⟨_, _, hfree⟩ := ha
   refine (I.hok b ob e).stay (fun c w' hc q => (hs.2 c ?_).trans q) (fun _ q => q) fun _ _ q => q
   rintro rfl
   rcases hc with rfl | hc
   · rw [hfree] at e; cases e
   · rw [hfree] at hc; cases hc
 rcases hx with hk | hk
 · refine wpAny_storeName_local hk hn (fun h' hn' hs => ?_) hcls
   obtain ⟨oL, _, _, hoL, _⟩ := id hn
   refine h _ ⟨I.ok, I.os, I.bare, ⟨fun b o e n hb hx => ?_, fun b o e n hb hx => ?_, I.base.free, fun b o e hx => ?_, I.base.tups, I.base.frzs, I.base.tbls⟩, ⟨_, hn', fun j y v' e1 e2 e3 => ?_⟩, fun y c e => ?_, I.free, I.freeC, fun p hp => ?_, tracked ⟨oL, hoL, I.free⟩ hs, by simpa using I.len⟩ ⟨_, hs, .inl rfl⟩
   · exact (hs.2 b (Nat.ne_of_lt (Nat.lt_of_lt_of_le (Heap.lt_size e) I.ok.above))).trans (I.base.keep b o e n hb hx)
   · obtain ⟨sl, e1⟩ := I.base.slot b o e n hb hx
     exact ⟨sl, (hs.2 b (Nat.ne_of_lt (Nat.lt_of_lt_of_le (Heap.lt_size e) I.ok.above))).trans e1⟩
   · obtain ⟨o', e1⟩ := I.base.there b o e hx
     exact ⟨o', (hs.2 b (Nat.ne_of_lt (Nat.lt_of_lt_of_le (Heap.lt_size e) I.ok.above))).trans e1⟩
   · by_cases hj : j = i
     · subst hj
       rw [hi] at e1; cases e1
       rw [List.getElem?_set_self hiσ] at e2
       cases e2
       exact ⟨u, r, .inl ⟨hk, by simp⟩⟩
     · rw [List.getElem?_set_ne (Ne.symm hj)] at e2
       obtain ⟨u', r', q⟩ := hl j y v' e1 e2 e3
       refine ⟨u', r', ?_⟩
       rcases q with ⟨k, e⟩ | ⟨k, c, e, z⟩
       · refine .inl ⟨k, ?_⟩
         have : y ≠ x := fun e => hj (nodup_ix hN e1 (e ▸ hi))
         simp [this, e]
       · exact .inr ⟨k, c, e, z.sameBut hs (cne y c e)⟩
   · obtain ⟨w', z⟩ := I.cell y c e
     exact ⟨w', z.sameBut hs (cne y c e)⟩
   · obtain ⟨e, n, ne, nf, d⟩ := I.pin p hp
     exact ⟨(hs.2 p.1 ne).trans e, n, ne, nf, d⟩
 · have hfn : X.fn x = true := by
     rcases hf with z | z
     · exact z
     · rw [z] at hk; cases hk
   obtain ⟨c, hc⟩ := I.ok.has x (.inl hk)
   obtain ⟨w', z⟩ := I.cell x c hc
   refine wpAny_storeName_cell I.ok.kind hk hc z (fun h' hc' hs => ?_)
   obtain ⟨oc, hoc, hocd⟩ := id z
   refine h { s with heap := h' } ⟨I.ok, I.os, I.bare, ⟨fun b o e n hb hx => ?_, fun b o e n hb hx => ?_, I.base.free, fun b o e hx => ?_, I.base.tups, I.base.frzs, I.base.tbls⟩, ⟨m, hn.sameBut hs (Ne.symm (cne x c hc)), fun j y v' e1 e2 e3 => ?_⟩, fun y c' e => ?_, I.free, I.freeC, fun p hp => ?_, tracked ⟨oc, hoc, I.freeC x c hc⟩ hs, by simpa using I.len⟩ ⟨c, hs, .inr hc⟩
   · exact (hs.2 b (Nat.ne_of_lt (Nat.lt_of_lt_of_le (Heap.lt_size e) (I.ok.cab x c hfn hc)))).trans (I.base.keep b o e n hb hx)
   · obtain ⟨sl, e1⟩ := I.base.slot b o e n hb hx
     exact ⟨sl, (hs.2 b (Nat.ne_of_lt (Nat.lt_of_lt_of_le (Heap.lt_size e) (I.ok.cab x c hfn hc)))).trans e1⟩
   · obtain ⟨o', e1⟩ := I.base.there b o e hx
     exact ⟨o', (hs.2 b (Nat.ne_of_lt (Nat.lt_of_lt_of_le (Heap.lt_size e) (I.ok.cab x c hfn hc)))).trans e1⟩
   · by_cases hj : j = i
     · subst hj
       rw [hi] at e1; cases e1
       rw [List.getElem?_set_self hiσ] at e2
       cases e2
       exact ⟨u, r, .inr ⟨.inl hk, c, hc, hc'⟩⟩
     · rw [List.getElem?_set_ne (Ne.symm hj)] at e2
       obtain ⟨u', r', q⟩ := hl j y v' e1 e2 e3
       refine ⟨u', r', ?_⟩
       rcases q with q | ⟨k, c', e, z'⟩
       · exact .inl q
       · refine .inr ⟨k, c', e, z'.sameBut hs ?_⟩
         rintro rfl
         exact hj (nodup_ix hN e1 (I.ok.inj _ _ _ e hc ▸ hi))
   · by_cases hcc : c' = c
     · subst hcc; exact ⟨_, hc'⟩
     · obtain ⟨w2, z2⟩ := I.cell y c' e
       exact ⟨w2, z2.sameBut hs hcc⟩
   · obtain ⟨e, n, ne, nf, d⟩ := I.pin p hp
     refine ⟨(hs.2 p.1 ?_).trans e, n, ne, nf, d⟩
     intro q
     rw [q, hoc] at e
     have q' : oc = p.2 := Option.some.inj e
     exact d w' (by rw [← q']; exact hocd)
theorem store_ok {M : Model} {A : Around} {E : Value -> Shared -> Prop} {i : Nat} {x : Str} {v : V} {u : Value} {Q : Unit -> Shared -> Prop} (I : Inv X pins σ H s) (hN : X.N.Nodup) (hi : X.N[i]? = some x) (hx : Loc X.env.scope x) (r : RelV v u)
   (h : ∀ s', Inv X pins (σ.set i (some v)) H s' -> Q () s') (hf : X.fn x = true \/ X.env.scope.names.lookup x = some .local := by first | exact .inl rfl | exact .inr rfl | assumption) : wpAny M A (storeName X.env x u) Q E s :=
 jW I hN hi hx r (fun s' I' _ => h s' I') hf
theorem Inv.call' {s' : Shared} {ch : List Addr} (I : Inv X pins σ H s) (ho : s'.os = s.os) (u : Un (frs X.stack) ch H H' s.heap s'.heap) (hok : HOk X.prog X.w H' s'.heap) (hg : AllBare s'.gens)
   (hch : ∀ b ∈ ch, (b ∈ X.ex \/ X.s₀.heap.objs.size <= b) /\ b ≠ X.env.locals /\ (∀ x c, X.env.cells.lookup x = some c -> c ≠ b) /\ ∀ p ∈ X.pn ++ pins, p.1 ≠ b) : Inv X pins σ H' s' := by
 obtain ⟨h', g', d', t', o'⟩ := s'
 have e : o' = s.os := ho
 subst e
 exact I.call (g' := g') (t' := t') (d' := d') u hok hg hch
end
abbrev XK := Value -> Option Addr -> Hp -> Prop
abbrev St := List (Option V)
abbrev VK := V -> Hp -> Prop
abbrev TE := St -> Hp -> VK -> Prop
abbrev TT := St -> Hp -> (Bool -> Hp -> Prop) -> Prop
abbrev TA := St -> Hp -> (List V -> Hp -> Prop) -> Prop
structure Ends where
 nx : St -> Hp -> Prop
 rt : VK
 bk : St -> Hp -> Prop := fun _ _ => False
 ct : St -> Hp -> Prop := fun _ _ => False
abbrev TS := Ends -> St -> Hp -> Prop
def EP (X : Cx) (pins : List (Addr × Obj)) (σ : St) (Q : VK) (u : Value) (s' : Shared) : Prop := ∃ v H', Inv X pins σ H' s' /\ RelV v u /\ Q v H'
def TP (X : Cx) (pins : List (Addr × Obj)) (σ : St) (Q : Bool -> Hp -> Prop) (b : Bool) (s' : Shared) : Prop := ∃ H', Inv X pins σ H' s' /\ Q b H'
def AP (X : Cx) (pins : List (Addr × Obj)) (σ : St) (Q : List V -> Hp -> Prop) (us : List Value) (s' : Shared) : Prop := ∃ vs H', Inv X pins σ H' s' /\ Vals vs us /\ Q vs H'
def SP (X : Cx) (pins : List (Addr × Obj)) (D : Ends) (f : Flow) (s' : Shared) : Prop :=
 match f with
 | .next => ∃ σ' H', Inv X pins σ' H' s' /\ D.nx σ' H'
 | .brk => ∃ σ' H', Inv X pins σ' H' s' /\ D.bk σ' H'
 | .cont => ∃ σ' H', Inv X pins σ' H' s' /\ D.ct σ' H'
 | .ret u => ∃ v σ' H', Inv X pins σ' H' s' /\ RelV v u /\ D.rt v H'
def PE (X : Cx) (e : Expr) (t : TE) : Prop :=
 ∀ (pins : List (Addr × Obj)) (s : Shared) (σ : St) (H : Hp) (Q : VK), Inv X pins σ H s -> t σ H Q -> wpAny (model X.prog X.w) X.A (eval e X.env) (EP X pins σ Q) X.xe s
def PT (X : Cx) (e : Expr) (t : TT) : Prop :=
 ∀ (pins : List (Addr × Obj)) (s : Shared) (σ : St) (H : Hp) (Q : Bool -> Hp -> Prop), Inv X pins σ H s -> t σ H Q -> wpAny (model X.prog X.w) X.A (isTrue e X.env (eval e X.env)) (TP X pins σ Q) X.xe s
def PW (X : Cx) (e : Expr) (t : TT) : Prop :=
 ∀ (whole : Sem Value) (pins : List (Addr × Obj)) (s : Shared) (σ : St) (H : Hp) (Q : Bool -> Hp -> Prop), Inv X pins σ H s -> t σ H Q -> wpAny (model X.prog X.w) X.A (isTrue e X.env whole) (TP X pins σ Q) X.xe s
theorem PW.pt {X : Cx} {e : Expr} {t : TT} (h : PW X e t) : PT X e t := h _
def PA (X : Cx) (es : List Expr) (t : TA) : Prop :=
 ∀ (pos : Pos) (pins : List (Addr × Obj)) (s : Shared) (σ : St) (H : Hp) (Q : List V -> Hp -> Prop), Inv X pins σ H s -> t σ H Q -> wpAny (model X.prog X.w) X.A (spliced (backTo pos (starEach es X.env))) (AP X pins σ Q) X.xe s
def PS (X : Cx) (st : Stmt) (t : TS) : Prop :=
 ∀ (pins : List (Addr × Obj)) (s : Shared) (σ : St) (H : Hp) (D : Ends), Inv X pins σ H s -> t D σ H -> wpAny (model X.prog X.w) X.A (exec st X.env) (SP X pins D) X.xe s
def PSs (X : Cx) (st : List Stmt) (t : TS) : Prop :=
 ∀ (pins : List (Addr × Obj)) (s : Shared) (σ : St) (H : Hp) (D : Ends), Inv X pins σ H s -> t D σ H -> wpAny (model X.prog X.w) X.A (execs st X.env) (SP X pins D) X.xe s
theorem thn {α : Type} {t : Sem α} {Q Q' : α -> Shared -> Prop} {M : Model} {A : Around} {E : Value -> Shared -> Prop} {s : Shared} (h : wpAny M A t Q E s) (hQ : ∀ a s, Q a s -> Q' a s) : wpAny M A t Q' E s := wpAny_mono h hQ fun _ _ x => x
section
variable {X : Cx}
def tVar (i : Nat) : TE := fun σ H Q => ∃ v, σ[i]? = some (some v) /\ Q v H
def tC (v : V) : TE := fun _ H Q => Q v H
theorem pe_var {i : Nat} {x : Str} {pos : Pos} (hN : X.N[i]? = some x) (hv : Vis X.env.scope x) (hd : (x == ("__debug__" : Str)) = false := by decide) (hcd : (x == ("__classdict__" : Str)) = false := by decide) : PE X (.Name x pos) (tVar i) := by
 intro pins s σ H Q I h
 obtain ⟨v, e, h⟩ := h
 obtain ⟨m, hn, hl⟩ := I.loc
 obtain ⟨u, r, l⟩ := hl i x v hN e hv
 have fin : EP X pins σ Q u s := ⟨v, H, I, r, h⟩
 rcases l with ⟨hk, hm⟩ | ⟨hk, c, hc, hcell⟩
 · exact wpAny_Name (wpAny_loadName_local I.ok.kind hk hn hm fin) hd
 · rcases hk with hk | hk
   · exact wpAny_Name (wpAny_loadName_cell I.ok.kind hk hc hcell fin) hd
   · exact wpAny_Name (wpAny_loadName_free I.ok.kind hk hc hcell fin hcd) hd
theorem zC {i j pos} : PE X (.Constant (.int i) j pos) (tC (.int i)) := fun _ _ _ H _ I h => wpAny_Constant_int ⟨.int i, H, I.tok _, ⟨_, rfl⟩, h⟩
theorem pe_bl {b j pos} : PE X (.Constant (.bool b) j pos) (tC (.bl b)) := fun _ _ _ H _ I h => Constant_bool ⟨.bl b, H, I, rfl, h⟩
theorem jI {j pos} : PE X (.Constant .none j pos) (tC .non) := fun _ _ _ H _ I h => Constant_none ⟨.non, H, I, rfl, h⟩
theorem zL {x j pos} : PE X (.Constant (.str x) j pos) (tC (.str x)) := fun _ _ _ H _ I h => Calls.Constant_str ⟨.str x, H, I.tok _, ⟨_, rfl⟩, h⟩
def Gl (X : Cx) (x : Str) : Prop := X.env.kindOf x = some .globalImplicit
theorem ld_glob {E : Value -> Shared -> Prop} {pins : List (Addr × Obj)} {s : Shared} {σ : St} {H : Hp} {x : Str} {u : Value} {pos : Pos} {Q : Value -> Shared -> Prop} (I : Inv X pins σ H s) (hg : Gl X x) (hm : X.mg x = some u) (h : Q u s)
   (hd : (x == ("__debug__" : Str)) = false := by decide) : wpAny (model X.prog X.w) X.A (eval (.Name x pos) X.env) Q E s :=
 Calls.Name_function_global I.ok.kind hg (Calls.loadGlobal_global (by rw [I.ok.glob]; exact I.mod.glob.keeps I.bk) hm h) hd
theorem yX {E : Value -> Shared -> Prop} {pins : List (Addr × Obj)} {s : Shared} {σ : St} {H : Hp} {x : Str} {u : Value} {pos : Pos} {Q : Value -> Shared -> Prop} (I : Inv X pins σ H s) (hg : Gl X x) (hm : X.mg x = none) (hv : bootBuiltins x = some u) (h : Q u s)
   (hn : x ≠ "__name__" := by decide) (hd : (x == ("__debug__" : Str)) = false := by decide) : wpAny (model X.prog X.w) X.A (eval (.Name x pos) X.env) Q E s := by
 obtain ⟨mb, h1, h2⟩ := I.mod.blt
 exact Calls.Name_function_global I.ok.kind hg (Calls.loadGlobal_builtin (by rw [I.ok.glob]; exact I.mod.glob.keeps I.bk) hm (by rw [I.ok.blt]; exact h1.keeps I.bk) ((h2 x hn).trans hv) h) hd
theorem pe_glob {x : Str} {v : V} {u : Value} {pos : Pos} (hg : Gl X x) (hm : X.mg x = some u) (r : RelV v u) (hd : (x == ("__debug__" : Str)) = false := by decide) : PE X (.Name x pos) (tC v) :=
 fun _ _ _ H _ I h => ld_glob I hg hm ⟨v, H, I, r, h⟩ hd
theorem pe_bltn {x : Str} {v : V} {u : Value} {pos : Pos} (hg : Gl X x) (hm : X.mg x = none) (hv : bootBuiltins x = some u) (r : RelV v u) (hn : x ≠ "__name__" := by decide) (hd : (x == ("__debug__" : Str)) = false := by decide) : PE X (.Name x pos) (tC v) :=
 fun _ _ _ H _ I h => yX I hg hm hv ⟨v, H, I, r, h⟩ hn hd
variable {a b : Expr} {ta tb : TE} {pos : Pos}
def tB (t : TE) : TT := fun σ H Q => t σ H fun x H1 => ∃ c, x = .bl c /\ Q c H1
theorem pt_val {e : Expr} {t : TE} (h : PE X e t) (he : ∀ whole, isTrue e X.env whole = (do let v ← whole; standAt e.pos; holding [v] (truthy v)) := by intro _; rfl) : PT X e (tB t) := by
 intro pins s σ H Q I hw
 refine isTrue_plain (thn (h pins s σ H _ I hw) fun v s1 ⟨x, H1, I1, r1, q1⟩ => ?_) (he _)
 obtain ⟨d, rfl, q⟩ := q1
 cases r1
 exact wpAny_truthy_bool ⟨H1, I1, q⟩
variable {tA tB' : TT} {rest : List Expr}
def tAnd (t u : TT) : TT := fun σ H Q => t σ H fun c H1 => if c = true then u σ H1 Q else Q false H1
def tOr (t u : TT) : TT := fun σ H Q => t σ H fun c H1 => if c = true then Q true H1 else u σ H1 Q
def tNot (t : TT) : TT := fun σ H Q => t σ H fun c H1 => Q (!c) H1
theorem qR (ha : PT X a tA) : PW X (.BoolOp .And [a] pos) tA := by
 intro wh pins s σ H Q I h
 refine isTrue_and (thn (ha pins s σ H Q I h) fun c s1 e => ?_)
 cases c with
 | true => exact isTrue_and_nil e
 | false => exact e
theorem pw_or1 (ha : PT X a tA) : PW X (.BoolOp .Or [a] pos) tA := by
 intro wh pins s σ H Q I h
 refine isTrue_or (thn (ha pins s σ H Q I h) fun c s1 e => ?_)
 cases c with
 | false => exact isTrue_or_nil e
 | true => exact e
theorem xP (ha : PT X a tA) (hb : PW X (.BoolOp .And (b :: rest) pos) tB') : PW X (.BoolOp .And (a :: b :: rest) pos) (tAnd tA tB') := by
 intro wh pins s σ H Q I h
 refine isTrue_and (thn (ha pins s σ H _ I h) fun c s1 ⟨H1, I1, q1⟩ => ?_)
 cases c with
 | true => exact hb wh pins s1 σ H1 Q I1 q1
 | false => exact ⟨H1, I1, q1⟩
theorem pw_or (ha : PT X a tA) (hb : PW X (.BoolOp .Or (b :: rest) pos) tB') : PW X (.BoolOp .Or (a :: b :: rest) pos) (tOr tA tB') := by
 intro wh pins s σ H Q I h
 refine isTrue_or (thn (ha pins s σ H _ I h) fun c s1 ⟨H1, I1, q1⟩ => ?_)
 cases c with
 | true => exact ⟨H1, I1, q1⟩
 | false => exact hb wh pins s1 σ H1 Q I1 q1
theorem pt_not (ha : PT X a tA) : PT X (.UnaryOp .Not a pos) (tNot tA) := by
 intro pins s σ H Q I h
 exact isTrue_not (ha pins s σ H (fun c H1 => Q (!c) H1) I h)
def tAndV (ta tb : TE) : TE := fun σ H Q => ta σ H fun x H1 => ∃ c, x = .bl c /\ if c = true then tb σ H1 Q else Q (.bl false) H1
def tOrV (ta tb : TE) : TE := fun σ H Q => ta σ H fun x H1 => ∃ c, x = .bl c /\ if c = true then Q (.bl true) H1 else tb σ H1 Q
def tNotV (ta : TE) : TE := fun σ H Q => ta σ H fun x H1 => ∃ c, x = .bl c /\ Q (.bl (!c)) H1
theorem pe_one {op} {t : TE} (h : PE X a t) : PE X (.BoolOp op [a] pos) t := fun pins s σ H Q I hw => BoolOp_one (h pins s σ H Q I hw)
theorem pe_and (ha : PE X a ta) (hb : PE X (.BoolOp .And (b :: rest) pos) tb) : PE X (.BoolOp .And (a :: b :: rest) pos) (tAndV ta tb) := by
 intro pins s σ H Q I h
 refine BoolOp_and (thn (ha pins s σ H _ I h) fun v s1 ⟨x, H1, I1, r1, q1⟩ => ?_)
 obtain ⟨c, rfl, q1⟩ := q1
 cases r1
 refine wpAny_truthy_bool ?_
 cases c with
 | true => exact hb pins s1 σ H1 Q I1 q1
 | false => exact ⟨.bl false, H1, I1, rfl, q1⟩
theorem pe_not (ha : PE X a ta) : PE X (.UnaryOp .Not a pos) (tNotV ta) := by
 intro pins s σ H Q I h
 refine UnaryOp_ (thn (ha pins s σ H _ I h) fun v s1 ⟨x, H1, I1, r1, q1⟩ => ?_)
 obtain ⟨c, rfl, q1⟩ := q1
 cases r1
 exact not_of (wpAny_truthy_bool ⟨.bl (!c), H1, I1, rfl, q1⟩)
def tIf (t : TT) (ta tb : TE) : TE := fun σ H Q => t σ H fun c H1 => if c = true then ta σ H1 Q else tb σ H1 Q
theorem jJ {c : Expr} (hc : PT X c tA) (ha : PE X a ta) (hb : PE X b tb) : PE X (.IfExp c a b pos) (tIf tA ta tb) := by
 intro pins s σ H Q I h
 refine wpAny_IfExp (thn (hc pins s σ H _ I h) fun d s1 ⟨H1, I1, q1⟩ => ?_)
 cases d with
 | true => exact ha pins s1 σ H1 Q I1 q1
 | false => exact hb pins s1 σ H1 Q I1 q1
end
def SqL (K : PySem.W.Frag) (H : Hp) (a : Addr) (xs : List V) : Prop :=
 Rd H a (.lst xs) \/
   ∃ (o : Obj) (its : Array Value) (n : Nat), K.lookup a = some o /\ o.cls = .type "list" /\ o.dict = none /\ o.data = .seq its n /\ its.size <= sizeLine /\ Vals xs its.toList
def SqT (K : PySem.W.Frag) (H : Hp) (a : Addr) (xs : List V) : Prop :=
 Rd H a (.tup xs) \/
   ∃ (o : Obj) (its : Array Value) (n : Nat), K.lookup a = some o /\ o.cls = .type "tuple" /\ o.data = .seq its n /\ its.size <= sizeLine /\ Vals xs its.toList
def absV : Value -> Option V
 | .none => some .non
 | .bool b => some (.bl b)
 | .int i _ => some (.int i)
 | .str x _ => some (.str x)
 | .bytes b _ => some (.byt b)
 | .float b _ => some (.flt b)
 | .ref a => some (.ref a)
 | .type n => some (.ty n)
 | _ => none
theorem RelV.abs {x : V} {u : Value} (r : RelV x u) : absV u = some x := by
 cases x with
 | non => cases r; rfl
 | bl _ => cases r; rfl
 | int _ => obtain ⟨t, rfl⟩ := r; rfl
 | str _ => obtain ⟨t, rfl⟩ := r; rfl
 | byt _ => obtain ⟨t, rfl⟩ := r; rfl
 | flt _ => obtain ⟨t, rfl⟩ := r; rfl
 | ref _ => cases r; rfl
 | ty _ => cases r; rfl
theorem RelV.inj {x y : V} {u : Value} (r : RelV x u) (q : RelV y u) : x = y := Option.some.inj (r.abs.symm.trans q.abs)
theorem Vals.inj : ∀ {xs ys : List V} {us : List Value}, Vals xs us -> Vals ys us -> xs = ys
 | _, _, _, .nil, .nil => rfl
 | _, _, _, .cons r t, .cons r' t' => by rw [r.inj r', Vals.inj t t']
section
variable {X : Cx} {pins : List (Addr × Obj)} {σ : St} {H : Hp} {s : Shared} {a : Addr} {xs ys : List V}
theorem SqL.of {K : PySem.W.Frag} (h : H a = some (.lst xs)) : SqL K H a xs := .inl (.inl h)
theorem SqT.of {K : PySem.W.Frag} (h : H a = some (.tup xs)) : SqT K H a xs := .inl (.inl h)
theorem Inv.list (I : Inv X pins σ H s) (h : SqL X.K H a xs) : ∃ its : List Value, Vals xs its /\ PlainL s.heap a its.toArray /\ xs.length <= sizeLine := by
 rcases h with h | ⟨o, its, n, hk, hc, hd, hs, hz, r⟩
 · obtain ⟨z, its, n, r, e⟩ := h.ok I.hok
   exact ⟨its, r, ⟨_, n, e, rfl, rfl, rfl⟩, z⟩
 · refine ⟨its.toList, r, ⟨o, n, I.kIn a o hk, hc, hd, by simpa using hs⟩, ?_⟩
   have e := r.length
   simp only [Array.length_toList] at e
   omega
theorem Inv.tuple (I : Inv X pins σ H s) (h : SqT X.K H a xs) : ∃ its : List Value, Vals xs its /\ IsTup s.heap a its.toArray /\ xs.length <= sizeLine := by
 rcases h with h | ⟨o, its, n, hk, hc, hs, hz, r⟩
 · obtain ⟨z, its, r, p⟩ := h.ok I.hok
   exact ⟨its, r, p, z⟩
 · refine ⟨its.toList, r, ⟨o, I.kIn a o hk, hc, n, by simpa using hs⟩, ?_⟩
   have e := r.length
   simp only [Array.length_toList] at e
   omega
theorem Inv.list_inj (I : Inv X pins σ H s) (h : SqL X.K H a xs) (h' : SqL X.K H a ys) : xs = ys := by
 obtain ⟨its, r, ⟨o, n, e, _, _, d⟩, _⟩ := I.list h
 obtain ⟨its', r', ⟨o', n', e', _, _, d'⟩, _⟩ := I.list h'
 rw [e] at e'; cases e'
 rw [d] at d'
 injection d' with d1 _
 have : its = its' := by simpa using congrArg Array.toList d1
 subst this
 exact r.inj r'
theorem Inv.tuple_inj (I : Inv X pins σ H s) (h : SqT X.K H a xs) (h' : SqT X.K H a ys) : xs = ys := by
 obtain ⟨its, r, ⟨o, e, _, n, d⟩, _⟩ := I.tuple h
 obtain ⟨its', r', ⟨o', e', _, n', d'⟩, _⟩ := I.tuple h'
 rw [e] at e'; cases e'
 rw [d] at d'
 injection d' with d1 _
 have : its = its' := by simpa using congrArg Array.toList d1
 subst this
 exact r.inj r'
end
abbrev Cx.wish (X : Cx) (E : Value -> Shared -> Prop) : Cx := { X with xe := E }
abbrev Cx.nox (X : Cx) : Cx := X.wish fun _ _ => False
theorem Cx.Ok.wish {X : Cx} (ok : X.Ok) (E : Value -> Shared -> Prop) : (X.wish E).Ok :=
 ⟨ok.mod, ok.kind, ok.glob, ok.blt, ok.above, ok.inj, ok.has, ok.cab, ok.hd, ok.frames, ok.stk, ok.exf, ok.bs, ok.bsz, ok.noex, ok.exfs, ok.funs, ok.frf⟩
theorem Cx.Ok.unwish {X : Cx} {E : Value -> Shared -> Prop} (ok : (X.wish E).Ok) : X.Ok :=
 ⟨ok.mod, ok.kind, ok.glob, ok.blt, ok.above, ok.inj, ok.has, ok.cab, ok.hd, ok.frames, ok.stk, ok.exf, ok.bs, ok.bsz, ok.noex, ok.exfs, ok.funs, ok.frf⟩
section
variable {X : Cx} {pins : List (Addr × Obj)} {σ : St} {H : Hp} {s : Shared} {E : Value -> Shared -> Prop}
theorem Inv.wish (I : Inv X pins σ H s) (E : Value -> Shared -> Prop) : Inv (X.wish E) pins σ H s := ⟨I.ok.wish E, I.os, I.bare, I.base, I.loc, I.cell, I.free, I.freeC, I.pin, I.hok, I.len⟩
theorem Inv.unwish (I : Inv (X.wish E) pins σ H s) : Inv X pins σ H s := ⟨I.ok.unwish, I.os, I.bare, I.base, I.loc, I.cell, I.free, I.freeC, I.pin, I.hok, I.len⟩
theorem SP.unwish {D : Ends} {f : Flow} {s' : Shared} (h : SP (X.wish E) pins D f s') : SP X pins D f s' := by
 cases f with
 | next => obtain ⟨σ', H', I, q⟩ := h; exact ⟨σ', H', I.unwish, q⟩
 | brk => obtain ⟨σ', H', I, q⟩ := h; exact ⟨σ', H', I.unwish, q⟩
 | cont => obtain ⟨σ', H', I, q⟩ := h; exact ⟨σ', H', I.unwish, q⟩
 | ret u => obtain ⟨v, σ', H', I, r, q⟩ := h; exact ⟨v, σ', H', I.unwish, r, q⟩
theorem PSs.nox {st : List Stmt} {t : TS} (h : PSs X.nox st t) : PSs X st t := fun pins s σ H D I hw =>
 wpAny_mono (h pins s σ H D (I.wish _) hw) (fun _ _ q => q.unwish) fun _ _ z => False.elim z
end
section
variable {X : Cx} {st : Stmt} {rest : List Stmt} {t u : TS} {e : Expr} {te : TE} {pos : Pos}
def tNext : TS := fun D σ H => D.nx σ H
def tSeq (t u : TS) : TS := fun D σ H => t { D with nx := u D } σ H
theorem pss_nil : PSs X [] tNext := fun _ _ σ H _ I h => wpAny_execs_nil ⟨σ, H, I, h⟩
theorem zD (h1 : PS X st t) (h2 : PSs X rest u) : PSs X (st :: rest) (tSeq t u) := by
 intro pins s σ H D I h
 refine wpAny_execs_cons (thn (h1 pins s σ H { D with nx := u D } I h) fun f s1 q => ?_)
 cases f with
 | next =>
   obtain ⟨σ', H', I', q⟩ := q
   exact h2 pins s1 σ' H' D I' q
 | ret v => exact q
 | brk => exact q
 | cont => exact q
theorem zF (h1 : PS X st t) : PSs X [st] t := by
 intro pins s σ H D I h
 refine wpAny_execs_cons (thn (h1 pins s σ H D I h) fun f s1 q => ?_)
 cases f with
 | next => exact wpAny_execs_nil q
 | ret v => exact q
 | brk => exact q
 | cont => exact q
theorem Inv.quiet {pins : List (Addr × Obj)} {σ : St} {H : Hp} {s : Shared} (I : Inv X pins σ H s) : interactive X.env = false := by simp [interactive, I.ok.kind]
def tDrop (te : TE) : TS := fun D σ H => te σ H fun _ H1 => D.nx σ H1
theorem zV (he : PE X e te) (hs : swapsWith e none pos.line X.env = pure false := by rfl) : PS X (.Expr e pos) (tDrop te) := by
 intro pins s σ H D I h
 exact wpAny_Expr_any (thn (he pins s σ H _ I h) fun v s1 ⟨x, H1, I1, r1, q1⟩ => ⟨σ, H1, I1, q1⟩) I.quiet hs
def tRet (te : TE) : TS := fun D σ H => te σ H D.rt
theorem zP (he : PE X e te) : PS X (.Return (some e) pos) (tRet te) := by
 intro pins s σ H D I h
 exact wpAny_Return_some (thn (he pins s σ H _ I h) fun v s1 ⟨x, H1, I1, r1, q1⟩ => ⟨x, σ, H1, I1, r1, q1⟩)
def tRetN : TS := fun D _ H => D.rt .non H
def tIfS (c : TT) (t u : TS) : TS := fun D σ H => c σ H fun b H1 => if b = true then t D σ H1 else u D σ H1
theorem zY {c : Expr} {a b : List Stmt} {tc : TT} (hc : PT X c tc) (ha : PSs X a t) (hb : PSs X b u) : PS X (.If c a b pos) (tIfS tc t u) := by
 intro pins s σ H D I h
 refine wpAny_If (thn (hc pins s σ H _ I h) fun d s1 ⟨H1, I1, q1⟩ => ?_)
 cases d with
 | true => exact ha pins s1 σ H1 D I1 q1
 | false => exact hb pins s1 σ H1 D I1 q1
end
abbrev TG := V -> St -> Hp -> (St -> Hp -> Prop) -> Prop
abbrev TGs := List V -> St -> Hp -> (St -> Hp -> Prop) -> Prop
def PG (X : Cx) (target : Expr) (t : TG) : Prop :=
 ∀ (pins : List (Addr × Obj)) (s : Shared) (σ : St) (H : Hp) (v : V) (u : Value) (Q : St -> Hp -> Prop), Inv X pins σ H s -> RelV v u -> t v σ H Q ->
   wpAny (model X.prog X.w) X.A (assign target X.env u) (fun _ s' => ∃ σ' H', Inv X pins σ' H' s' /\ Q σ' H') X.xe s
def PGs (X : Cx) (ts : List Expr) (t : TGs) : Prop :=
 ∀ (pins : List (Addr × Obj)) (s : Shared) (σ : St) (H : Hp) (vs : List V) (us : List Value) (Q : St -> Hp -> Prop), Inv X pins σ H s -> Vals vs us -> t vs σ H Q ->
   wpAny (model X.prog X.w) X.A (assignInOrder ((assignEach ts X.env).map (·.2)) us) (fun _ s' => ∃ σ' H', Inv X pins σ' H' s' /\ Q σ' H') X.xe s
abbrev TSet := V -> V -> V -> Hp -> (Hp -> Prop) -> Prop
def PSet (X : Cx) (t : TSet) : Prop :=
 ∀ (pins : List (Addr × Obj)) (s : Shared) (σ : St) (H : Hp) (o i v : V) (ov iv u : Value) (Q : Hp -> Prop), Inv X pins σ H s -> RelV o ov -> RelV i iv -> RelV v u -> t o i v H Q ->
   wpAny (model X.prog X.w) X.A (setItem ov iv u) (fun _ s' => ∃ H', Inv X pins σ H' s' /\ Q H') X.xe s
section
variable {X : Cx} {pos : Pos}
def gName (i : Nat) : TG := fun v σ H Q => Q (σ.set i (some v)) H
theorem yH {i : Nat} {x : Str} (hN : X.N.Nodup) (hi : X.N[i]? = some x) (hx : Loc X.env.scope x) (hf : X.fn x = true \/ X.env.scope.names.lookup x = some .local := by first | exact .inl rfl | exact .inr rfl | assumption) : PG X (.Name x pos) (gName i) := by
 intro pins s σ H v u Q I r h
 exact wpAny_assign_Name (store_ok I hN hi hx r (fun s' I' => ⟨_, H, I', h⟩) hf)
def gNil : TGs := fun vs σ H Q => vs = [] /\ Q σ H
def gCons (t : TG) (u : TGs) : TGs := fun vs σ H Q => ∃ v r, vs = v :: r /\ t v σ H fun σ' H' => u r σ' H' Q
theorem pgs_nil : PGs X [] gNil := by
 intro pins s σ H vs us Q I r h
 obtain ⟨e, h⟩ := h
 subst e
 cases r
 exact assignInOrder_nil ⟨σ, H, I, h⟩
theorem pgs_cons {e : Expr} {es : List Expr} {t : TG} {u : TGs} (h1 : PG X e t) (h2 : PGs X es u)
   (hs : (assignEach (e :: es) X.env).map (·.2) = assign e X.env :: (assignEach es X.env).map (·.2) := by rfl) : PGs X (e :: es) (gCons t u) := by
 intro pins s σ H vs us Q I r h
 obtain ⟨v, vr, e1, h⟩ := h
 subst e1
 cases r with
 | cons r rr =>
   rw [hs]
   refine assignInOrder_cons (thn (h1 pins s σ H _ _ _ I r h) fun _ s1 ⟨σ1, H1, I1, q1⟩ => ?_)
   exact h2 pins s1 σ1 H1 _ _ Q I1 rr q1
def gTup (K : PySem.W.Frag) (n : Nat) (t : TGs) : TG := fun v σ H Q => ∃ a xs, v = .ref a /\ SqT K H a xs /\ xs.length = n /\ t xs σ H Q
theorem pg_tup {es : List Expr} {k : Nat} {t : TGs} {n : Nat} (hc : X.calm = true) (h : PGs X es t)
   (hn : (assignEach es X.env).length = n := by rfl) (hst : (assignEach es X.env).findIdx? (·.1) = none := by rfl) : PG X (.Tuple es k pos) (gTup X.K n t) := by
 intro pins s σ H v u Q I r hw
 obtain ⟨a, xs, e1, hq, hl, hw⟩ := hw
 subst e1
 cases r
 obtain ⟨its, rv, ht, hz⟩ := I.tuple hq
 refine assign_Tuple_tuple (I.ok.hd hc) ht (by simp [hn, ← hl, rv.length]) hst fun h' hx => ?_
 have I1 : Inv X pins σ H { s with heap := h' } := I.kept (t' := s.toks) fun b o e => hx b o (Nat.ne_of_lt (Heap.lt_size e)) e
 exact h pins _ σ H xs _ Q I1 (by simpa using rv) hw
def tAsg (te : TE) (g : TG) : TS := fun D σ H => te σ H fun x H1 => g x σ H1 D.nx
theorem zO {i : Nat} {x : Str} {e : Expr} {te : TE} {pos' : Pos} (hN : X.N.Nodup) (hi : X.N[i]? = some x) (hx : Loc X.env.scope x) (he : PE X e te) (hs : swapsWith e (some (.Name x pos')) pos.line X.env = pure false := by rfl) (hf : X.fn x = true \/ X.env.scope.names.lookup x = some .local := by first | exact .inl rfl | exact .inr rfl | assumption) :
   PS X (.Assign [.Name x pos'] e pos) (tAsg te (gName i)) := by
 intro pins s σ H D I h
 refine wpAny_Assign_Name (thn (he pins s σ H _ I h) fun v s1 ⟨y, H1, I1, r1, q1⟩ => ?_) hs
 exact store_ok I1 hN hi hx r1 (fun s2 I2 => ⟨_, H1, I2, q1⟩) hf
end
section
variable {X : Cx} {pos : Pos}
end
structure It where
 go : Nat -> Hp -> Prop
 yld : Nat -> Hp -> V -> Hp -> Prop
 stop : Nat -> Hp -> Prop
def jP (X : Cx) (pins : List (Addr × Obj)) (H : Hp) (b : Addr) : Prop :=
 H b = none /\ b ≠ X.env.locals /\ b ∉ X.fs /\ (b ∈ X.ex \/ X.s₀.heap.objs.size <= b) /\ (∀ x c, X.env.cells.lookup x = some c -> c ≠ b) /\ ∀ p ∈ X.pn ++ pins, p.1 ≠ b
theorem Inv.fpOk {X : Cx} {pins : List (Addr × Obj)} {σ : St} {H H' : Hp} {s : Shared} {b : Addr} (I : Inv X pins σ H s) (hb : s.heap.objs.size <= b) (hn : H' b = none) : jP X pins H' b := by
 refine ⟨hn, Nat.ne_of_gt (Nat.lt_of_lt_of_le I.lt hb), I.nofs hb, .inr (Nat.le_trans I.sz hb), fun x c e z => ?_, fun p hp z => ?_⟩
 · obtain ⟨v, q⟩ := I.cell x c e
   exact absurd (Nat.lt_of_lt_of_le q.lt (by rw [z]; exact hb)) (Nat.lt_irrefl _)
 · exact absurd (Nat.lt_of_lt_of_le (Heap.lt_size (I.pin p hp).1) (by rw [z]; exact hb)) (Nat.lt_irrefl _)
structure Turn (P : Program) (w : World) (K : PySem.W.Frag) (tg : Expr) (J : It) (fp : List Addr) (it : Addr) (tn : Nat -> Heap -> Prop) : Prop where
 mem : it ∈ fp
 obj : ∀ i h, tn i h -> ∀ b ∈ fp, ∃ o, h.get? b = some o /\ ∀ v, o.data ≠ .cell v
 keep : ∀ i h h', tn i h -> (∀ b ∈ fp, ∀ o, h.get? b = some o -> h'.get? b = some o) -> tn i h'
 item : ∀ (X : Cx), X.prog = P -> X.w = w -> X.K = K -> X.calm = true -> ∀ (i : Nat) (pins : List (Addr × Obj)) (s : Shared) (σ : St) (H : Hp) (E : Value -> Shared -> Prop), Inv X pins σ H s -> (∀ b ∈ fp, jP X pins H b) -> tn i s.heap -> J.go i H ->
   wpAny (model P w) X.A (pyNext (.ref it)) (fun r s1 => ∃ u, r = some u /\
     wpAny (model P w) X.A (letOwnedTupleGo tg (.ref it) u) (fun _ s2 => ∃ x H', Inv X pins σ H' s2 /\ RelV x u /\ J.yld i H x H' /\ tn (i + 1) s2.heap /\ ∀ b ∈ fp, H' b = none) E s1) E s
 done : ∀ (X : Cx), X.prog = P -> X.w = w -> X.K = K -> X.calm = true -> ∀ (i : Nat) (pins : List (Addr × Obj)) (s : Shared) (σ : St) (H : Hp) (E : Value -> Shared -> Prop), Inv X pins σ H s -> (∀ b ∈ fp, jP X pins H b) -> tn i s.heap -> J.stop i H ->
   wpAny (model P w) X.A (pyNext (.ref it)) (fun r s1 => r = none /\ Inv X pins σ H s1) E s
 self : ∀ (A : Around) (i : Nat) (s : Shared) (Q : Value -> Shared -> Prop) (E : Value -> Shared -> Prop), tn i s.heap -> Q (.ref it) s -> wpAny (model P w) A (pyIter (.ref it)) Q E s
abbrev TI := St -> Hp -> (It -> Hp -> Prop) -> Prop
def PIE (X : Cx) (pins : List (Addr × Obj)) (σ : St) (tg : Expr) (R : It -> Hp -> Prop) (itv : Value) (s2 : Shared) : Prop :=
 ∃ (it : Addr) (fp : List Addr) (tn : Nat -> Heap -> Prop) (J : It) (H' : Hp), itv = .ref it /\ Inv X pins σ H' s2 /\ Turn X.prog X.w X.K tg J fp it tn /\ tn 0 s2.heap /\ (∀ b ∈ fp, jP X pins H' b) /\ R J H'
def PI (X : Cx) (tg iter : Expr) (wi : TI) : Prop :=
 ∀ (pins : List (Addr × Obj)) (s : Shared) (σ : St) (H : Hp) (R : It -> Hp -> Prop), Inv X pins σ H s -> wi σ H R ->
   wpAny (model X.prog X.w) X.A (eval iter X.env) (fun v s1 => wpAny (model X.prog X.w) X.A (pyIter v) (PIE X pins σ tg R) X.xe s1) X.xe s
theorem go_of {M : Model} {A : Around} {E : Value -> Shared -> Prop} {s : Shared} {tg : Expr} {it : Addr} {u : Value} {o : Obj} {n : String} {vs : Array Value} {Q : Unit -> Shared -> Prop} (ho : s.heap.get? it = some o) (hc : o.cls = .type n) (hd : o.data = .fields vs)
   (hn : ["enumerate", "zip", "dict_itemiterator", "dict_reverseitemiterator", "odict_iterator", "itertools.zip_longest", "itertools.pairwise"].contains n = false) (hQ : Q () s) : wpAny M A (letOwnedTupleGo tg (.ref it) u) Q E s := by
 unfold letOwnedTupleGo
 cases tg <;> first
   | exact wpAny_pure hQ
   | (cases u <;> first
       | exact wpAny_pure hQ
       | (refine wpAny_bind (wpAny_load ho ?_)
          rw [hc, hd]
          show wpAny M A (if (["enumerate", "zip", "dict_itemiterator", "dict_reverseitemiterator", "odict_iterator", "itertools.zip_longest", "itertools.pairwise"].contains n && vs[0]? == some (rawInt _)) = true then _ else _) Q E s
          rw [if_neg (by intro h; rw [hn, Bool.false_and] at h; cases h)]
          exact wpAny_pure hQ))
def Itl (K : PySem.W.Frag) (a : Addr) : It :=
 ⟨fun i H => ∃ xs x, SqL K H a xs /\ xs[i]? = some x, fun i H x H' => H' = H /\ ∀ xs, SqL K H a xs -> xs[i]? = some x, fun i H => ∃ xs, SqL K H a xs /\ xs.length <= i⟩
def Itt (K : PySem.W.Frag) (a : Addr) : It :=
 ⟨fun i H => ∃ xs x, SqT K H a xs /\ xs[i]? = some x, fun i H x H' => H' = H /\ ∀ xs, SqT K H a xs -> xs[i]? = some x, fun i H => ∃ xs, SqT K H a xs /\ xs.length <= i⟩
def Itr (lo : Int) (n : Nat) : It := ⟨fun i _ => i < n, fun i H x H' => H' = H /\ x = .int (lo + i), fun i _ => n <= i⟩
theorem turn_list {P : Program} {w : World} {K : PySem.W.Frag} {tg : Expr} (a it : Addr) : Turn P w K tg (Itl K a) [it] it (fun i h => h.IsListIter it a i) where
 mem := by simp
 obj := fun i h st b hb => by
   have e : b = it := by simpa using hb
   subst e
   obtain ⟨o, e, c, d⟩ := st
   exact ⟨o, e, fun v z => by rw [d] at z; cases z⟩
 keep := fun i h h' st k => st.at fun o e => k it (by simp) o e
 item := by
   intro X hP hw hK hc i pins s σ H E I hf st hg
   subst hP hw hK
   obtain ⟨xs, x, hq, hx⟩ := hg
   obtain ⟨its, rv, p, hz⟩ := I.list hq
   obtain ⟨u, hu, ru⟩ := rv.get hx
   obtain ⟨f0, f1, f2, f3, f4, f5⟩ := hf it (by simp)
   refine wpAny_pyNext_list_item st p.isList (x := u) (by simpa using hu) fun h' st' sb => ?_
   have I1 : Inv X pins σ H { s with heap := h' } := I.turned (t' := s.toks) (fun b o hb e => (sb.2 b hb).trans e) f0 f1 f3 f4 f5
   obtain ⟨o, e, c, d⟩ := id st'
   exact ⟨u, rfl, go_of (s := { s with heap := h' }) e c d (by decide) ⟨x, H, I1, ru, ⟨rfl, fun ys hy => by rw [I.list_inj hy hq]; exact hx⟩, st', fun b hb => (hf b hb).1⟩⟩
 done := by
   intro X hP hw hK hc i pins s σ H E I hf st hg
   subst hP hw hK
   obtain ⟨xs, hq, hx⟩ := hg
   obtain ⟨its, rv, p, hz⟩ := I.list hq
   obtain ⟨f0, f1, f2, f3, f4, f5⟩ := hf it (by simp)
   have hl := rv.length
   exact wpAny_pyNext_list_end (I.ok.hd hc) st p.isList (by simp; omega) fun h' eb => ⟨rfl, I.turned (t' := s.toks) (fun b o hb e => eb b o hb e) f0 f1 f3 f4 f5⟩
 self := fun _ _ _ _ _ st h => wpAny_pyIter_listiter st h
theorem turn_tuple {P : Program} {w : World} {K : PySem.W.Frag} {tg : Expr} (a it : Addr) : Turn P w K tg (Itt K a) [it] it (fun i h => h.IsTupleIter it a i) where
 mem := by simp
 obj := fun i h st b hb => by
   have e : b = it := by simpa using hb
   subst e
   obtain ⟨o, e, c, d⟩ := st
   exact ⟨o, e, fun v z => by rw [d] at z; cases z⟩
 keep := fun i h h' st k => st.at fun o e => k it (by simp) o e
 item := by
   intro X hP hw hK hc i pins s σ H E I hf st hg
   subst hP hw hK
   obtain ⟨xs, x, hq, hx⟩ := hg
   obtain ⟨its, rv, p, hz⟩ := I.tuple hq
   obtain ⟨u, hu, ru⟩ := rv.get hx
   obtain ⟨f0, f1, f2, f3, f4, f5⟩ := hf it (by simp)
   refine wpAny_pyNext_tuple_item st (show s.heap.IsTuple a its.toArray from p) (x := u) (by simpa using hu) fun h' st' sb => ?_
   have I1 : Inv X pins σ H { s with heap := h' } := I.turned (t' := s.toks) (fun b o hb e => (sb.2 b hb).trans e) f0 f1 f3 f4 f5
   obtain ⟨o, e, c, d⟩ := id st'
   exact ⟨u, rfl, go_of (s := { s with heap := h' }) e c d (by decide) ⟨x, H, I1, ru, ⟨rfl, fun ys hy => by rw [I.tuple_inj hy hq]; exact hx⟩, st', fun b hb => (hf b hb).1⟩⟩
 done := by
   intro X hP hw hK hc i pins s σ H E I hf st hg
   subst hP hw hK
   obtain ⟨xs, hq, hx⟩ := hg
   obtain ⟨its, rv, p, hz⟩ := I.tuple hq
   obtain ⟨f0, f1, f2, f3, f4, f5⟩ := hf it (by simp)
   have hl := rv.length
   exact wpAny_pyNext_tuple_end (I.ok.hd hc) st (show s.heap.IsTuple a its.toArray from p) (by simp; omega) fun h' eb => ⟨rfl, I.turned (t' := s.toks) (fun b o hb e => eb b o hb e) f0 f1 f3 f4 f5⟩
 self := fun _ _ _ _ _ st h => wpAny_pyIter_tupleiter st h
theorem turn_range {P : Program} {w : World} {K : PySem.W.Frag} {tg : Expr} (it : Addr) (lo : Int) (n : Nat) : Turn P w K tg (Itr lo n) [it] it (fun i h => IsRangeIter h it (lo + (i : Nat) * 1) ((n : Int) - (i : Nat)) 1) where
 mem := by simp
 obj := fun i h st b hb => by
   have e : b = it := by simpa using hb
   subst e
   exact ⟨_, st, fun v z => by
     have z' : Data.fields _ = Data.cell v := z
     cases z'⟩
 keep := fun i h h' st k => k it (by simp) _ st
 item := by
   intro X hP hw hK hc i pins s σ H E I hf st hg
   subst hP hw hK
   obtain ⟨f0, f1, f2, f3, f4, f5⟩ := hf it (by simp)
   have W := Walks.range (prog := X.prog) (w := X.w) (I.ok.hd hc) it lo 1 n
   refine W.item i s _ _ hg st fun v h' tk hv st' kk => ?_
   obtain ⟨t, rfl⟩ := hv
   have I1 : Inv X pins σ H { s with heap := h', toks := tk } := I.turned (fun b o hb e => kk b o (by simpa using hb) e) f0 f1 f3 f4 f5
   refine ⟨_, rfl, go_of (s := { s with heap := h', toks := tk }) (n := "range_iterator") st' rfl rfl (by decide) ⟨.int (lo + i), H, I1, ⟨t, ?_⟩, ⟨rfl, rfl⟩, st', fun b hb => (hf b hb).1⟩⟩
   rw [Int.mul_one]
 done := by
   intro X hP hw hK hc i pins s σ H E I hf st hg
   subst hP hw hK
   obtain ⟨f0, f1, f2, f3, f4, f5⟩ := hf it (by simp)
   exact wpAny_pyNext_range_end (I.ok.hd hc) st (by have : n <= i := hg; omega) fun h' eb => ⟨rfl, I.turned (t' := s.toks) (fun b o hb e => eb b o hb e) f0 f1 f3 f4 f5⟩
 self := fun _ _ _ _ _ st h => wpAny_pyIter_rangeiter st h
section
variable {X : Cx} {tg : Expr}
def iList (K : PySem.W.Frag) (tl : TE) : TI := fun σ H R => tl σ H fun x H1 => ∃ a, x = .ref a /\ (∃ xs, SqL K H1 a xs) /\ R (Itl K a) H1
def iTup (K : PySem.W.Frag) (tl : TE) : TI := fun σ H R => tl σ H fun x H1 => ∃ a, x = .ref a /\ (∃ xs, SqT K H1 a xs) /\ R (Itt K a) H1
theorem jA {l : Expr} {tl : TE} (hl : PE X l tl) : PI X tg l (iList X.K tl) := by
 intro pins s σ H R I h
 refine thn (hl pins s σ H _ I h) fun v s1 ⟨x, H1, I1, r1, q1⟩ => ?_
 obtain ⟨a, e, ⟨xs, hq⟩, q⟩ := q1
 subst e
 cases r1
 obtain ⟨its, rv, p, hz⟩ := I1.list hq
 refine wpAny_pyIter_list p.isList ?_
 refine ⟨s1.heap.objs.size, [s1.heap.objs.size], _, _, H1, rfl, I1.kept (t' := s1.toks) fun b o e => Heap.get?_push_of_some _ e, turn_list a _, ⟨_, Heap.get?_push_size _ rfl, rfl, rfl⟩, fun b hb => ?_, q⟩
 have e : b = s1.heap.objs.size := by simpa using hb
 subst e
 exact I1.fpOk (Nat.le_refl _) (I1.hok.fresh (Nat.le_refl _))
theorem qU {l : Expr} {tl : TE} (hl : PE X l tl) : PI X tg l (iTup X.K tl) := by
 intro pins s σ H R I h
 refine thn (hl pins s σ H _ I h) fun v s1 ⟨x, H1, I1, r1, q1⟩ => ?_
 obtain ⟨a, e, ⟨xs, hq⟩, q⟩ := q1
 subst e
 cases r1
 obtain ⟨its, rv, p, hz⟩ := I1.tuple hq
 refine wpAny_pyIter_tuple (show s1.heap.IsTuple a its.toArray from p) ?_
 refine ⟨s1.heap.objs.size, [s1.heap.objs.size], _, _, H1, rfl, I1.kept (t' := s1.toks) fun b o e => Heap.get?_push_of_some _ e, turn_tuple a _, ⟨_, Heap.get?_push_size _ rfl, rfl, rfl⟩, fun b hb => ?_, q⟩
 have e : b = s1.heap.objs.size := by simpa using hb
 subst e
 exact I1.fpOk (Nat.le_refl _) (I1.hok.fresh (Nat.le_refl _))
theorem range_it {pins : List (Addr × Obj)} {σ : St} {H : Hp} {s : Shared} {R : It -> Hp -> Prop} {E : Value -> Shared -> Prop} {lo hi : Int} {t u v : Tok} {tk : Nat} (I : Inv X pins σ H s) (h1 : -(2 ^ 62) <= lo) (h2 : lo < 2 ^ 62) (h3 : -(2 ^ 62) <= hi) (h4 : hi < 2 ^ 62)
   (q : R (Itr lo (hi - lo).toNat) H) : wpAny (model X.prog X.w) X.A (pyIter (.ref s.heap.objs.size)) (PIE X pins σ tg R) E { s with heap := s.heap.push { cls := .type "range", data := .fields #[.int lo t, .int hi u, .int 1 v] }, toks := tk } := by
 refine wpAny_pyIter_range (IsRange.new ..) (small_one h1 h2 h3 h4) ?_
 have I1 : Inv X pins σ H { s with heap := s.heap.push { cls := .type "range", data := .fields #[.int lo t, .int hi u, .int 1 v] }, toks := tk } := I.kept fun b o e => Heap.get?_push_of_some _ e
 refine ⟨(s.heap.push { cls := .type "range", data := .fields #[.int lo t, .int hi u, .int 1 v] }).objs.size, [(s.heap.push { cls := .type "range", data := .fields #[.int lo t, .int hi u, .int 1 v] }).objs.size], _, _, H, rfl,
   I1.kept (t' := tk) fun b o e => Heap.get?_push_of_some _ e, turn_range _ lo (hi - lo).toNat, ?_, fun b hb => ?_, q⟩
 · have e1 : lo + ((0 : Nat) : Int) * 1 = lo := by simp
   have e2 : (((hi - lo).toNat : Nat) : Int) - ((0 : Nat) : Int) = Builtin.Range.rangeSize lo hi 1 := by rw [rangeSize_one]; split <;> omega
   show IsRangeIter _ _ (lo + ((0 : Nat) : Int) * 1) ((((hi - lo).toNat : Nat) : Int) - ((0 : Nat) : Int)) 1
   rw [e1, e2]
   exact Heap.get?_push_size _ rfl
 · have e : b = (s.heap.push { cls := .type "range", data := .fields #[.int lo t, .int hi u, .int 1 v] }).objs.size := by simpa using hb
   subst e
   exact I1.fpOk (Nat.le_refl _) (I1.hok.fresh (Nat.le_refl _))
def iRng1 (ta : TA) : TI := fun σ H R => ta σ H fun vs H1 => ∃ j : Int, vs = [.int j] /\ -(2 ^ 62) <= j /\ j < 2 ^ 62 /\ R (Itr 0 j.toNat) H1
def iRng2 (ta : TA) : TI := fun σ H R => ta σ H fun vs H1 => ∃ i j : Int, vs = [.int i, .int j] /\ (-(2 ^ 62) <= i /\ i < 2 ^ 62 /\ -(2 ^ 62) <= j /\ j < 2 ^ 62) /\ R (Itr i (j - i).toNat) H1
theorem jY {a : Expr} {ta : TA} {p pos : Pos} (hg : Gl X "range") (hm : X.mg "range" = none) (ha : PA X [a] ta) (hs : starEach [a] X.env = [(false, eval a X.env)] := by rfl) : PI X tg (.Call (.Name "range" p) [a] [] pos) (iRng1 ta) := by
 intro pins s σ H R I h
 refine Call_ (yX I hg hm boot_range (PyProof.Rows.callWith_type1 (thn (ha pos pins s σ H _ I h) fun us s1 ⟨vs, H1, I1, r1, q1⟩ => ?_) hs rfl))
 obtain ⟨j, e, q1, q2, q⟩ := q1
 subst e
 cases r1 with
 | cons r rr =>
   cases rr
   obtain ⟨t, rfl⟩ := r
   exact call_range_1 (range_it I1 (by omega) (by omega) q1 q2 (by simpa using q))
def tFor (wi : TI) (g : TG) (tb : TS) : TS := fun D σ H => wi σ H fun J H1 => ∃ W : Nat -> Nat -> St -> Hp -> Prop, (∃ m, W 0 m σ H1) /\ ∀ i m σ H, W i m σ H ->
 (J.stop i H /\ D.nx σ H) \/ (J.go i H /\ ∃ N : St -> Hp -> Prop, (∀ σ' H', N σ' H' -> ∃ m', m' < m /\ W (i + 1) m' σ' H') /\ ∀ x H', J.yld i H x H' -> g x σ H' fun σ2 H2 => tb { D with nx := N, ct := N, bk := D.nx } σ2 H2)
def yS (fp : List Addr) (h : Heap) : List (Addr × Obj) := fp.filterMap fun b => (h.get? b).map fun o => (b, o)
theorem yO {fp : List Addr} {h : Heap} {b : Addr} {o : Obj} (hb : b ∈ fp) (e : h.get? b = some o) : (b, o) ∈ yS fp h := List.mem_filterMap.mpr ⟨b, hb, by rw [e]; rfl⟩
theorem qB {fp : List Addr} {h : Heap} {p : Addr × Obj} (hp : p ∈ yS fp h) : p.1 ∈ fp /\ h.get? p.1 = some p.2 := by
 obtain ⟨b, hb, e⟩ := List.mem_filterMap.mp hp
 cases q : h.get? b with
 | none => rw [q] at e; cases e
 | some o =>
   rw [q] at e
   have e' : (b, o) = p := Option.some.inj e
   subst e'
   exact ⟨hb, q⟩
theorem Inv.pinned {pins : List (Addr × Obj)} {σ : St} {H : Hp} {s : Shared} {fp : List Addr} (I : Inv X pins σ H s) (hf : ∀ b ∈ fp, jP X pins H b) (ho : ∀ b ∈ fp, ∃ o, s.heap.get? b = some o /\ ∀ v, o.data ≠ .cell v) : Inv X (pins ++ yS fp s.heap) σ H s :=
 I.pins_of fun p hp => (List.mem_append.mp hp).elim (fun z => I.pin p (List.mem_append_right _ z)) fun z => by
   obtain ⟨hb, e⟩ := qB z
   obtain ⟨f0, f1, f2, _⟩ := hf p.1 hb
   obtain ⟨o, e', d⟩ := ho p.1 hb
   rw [e] at e'; cases e'
   exact ⟨e, f0, f1, f2, d⟩
theorem Inv.unpinned {pins pl : List (Addr × Obj)} {σ : St} {H : Hp} {s : Shared} (I : Inv X (pins ++ pl) σ H s) : Inv X pins σ H s := I.pins_of fun p hp => I.pin p (List.mem_append_right _ (List.mem_append_left _ hp))
theorem yT {iter : Expr} {body : List Stmt} {wi : TI} {g : TG} {tb : TS} {pos : Pos} (hp : PassesOwn (model X.prog X.w) X.A X.env X.xe) (hc : X.calm = true) (hi : PI X tg iter wi) (hg : PG X tg g) (hb : PSs X body tb)
   (hs : ∀ x, foldedSetIterable iter X.env x = pure x := by intro _; rfl) : PS X (.For tg iter body [] pos) (tFor wi g tb) := by
 intro pins s σ H D I h
 refine wpAny_For (thn (hi pins s σ H _ I h) fun v s1 h1 => thn h1 fun itv s2 h2 => ?_) hs
 obtain ⟨it, fp, tn, J, H2, e, I2, T, st2, f2, W, ⟨m0, w0⟩, turn⟩ := h2
 subst e
 have stat : ∀ {H' : Hp}, (∀ b ∈ fp, H' b = none) -> ∀ b ∈ fp, jP X pins H' b := fun hn b hb => ⟨hn b hb, (f2 b hb).2⟩
 refine codeAny_forLoop_any (fun n s' => ∃ i σ' H', Inv X pins σ' H' s' /\ tn i s'.heap /\ (∀ b ∈ fp, H' b = none) /\ W i n σ' H') ?_ m0 ⟨0, σ, H2, I2, st2, fun b hb => (f2 b hb).1, w0⟩
 rintro n s3 ⟨i, σ3, H3, I3, st3, fr3, w3⟩
 rcases turn i n σ3 H3 w3 with ⟨stop, qn⟩ | ⟨go, N, hN, step⟩
 · refine wpAny_passesOwn hp (thn (T.done X rfl rfl rfl hc i pins s3 σ3 H3 X.xe I3 (stat fr3) st3 stop) fun r s4 ⟨hr, I4⟩ => ?_)
   subst hr
   exact wpAny_execs_nil ⟨σ3, H3, I4, qn⟩
 · refine wpAny_passesOwn hp (thn (T.item X rfl rfl rfl hc i pins s3 σ3 H3 X.xe I3 (stat fr3) st3 go) fun r s4 ⟨u, hr, h4⟩ => ?_)
   subst hr
   refine wpAny_passesOwn hp (thn h4 fun _ s5 ⟨x, H5, I5, r5, y5, st5, fr5⟩ => ?_)
   have I5' := I5.pinned (stat fr5) (T.obj _ _ st5)
   refine wpAny_passesOwn hp (thn (hg _ s5 σ3 H5 x u _ I5' r5 (step x H5 y5)) fun _ s6 ⟨σ6, H6, I6, q6⟩ => ?_)
   refine wpAny_passesOwn hp (thn (hb _ s6 σ6 H6 _ I6 q6) fun f s7 q7 => ?_)
   have again : ∀ {σ7 : St} {H7 : Hp}, Inv X (pins ++ yS fp s5.heap) σ7 H7 s7 -> N σ7 H7 -> ∃ m, m < n /\ ∃ i σ' H', Inv X pins σ' H' s7 /\ tn i s7.heap /\ (∀ b ∈ fp, H' b = none) /\ W i m σ' H' := fun {σ7 H7} I7 n7 => by
     obtain ⟨m', hm, w7⟩ := hN σ7 H7 n7
     refine ⟨m', hm, i + 1, σ7, H7, I7.unpinned, T.keep _ _ _ st5 fun b hb o e => (I7.pin (b, o) (List.mem_append_right _ (List.mem_append_right _ (yO hb e)))).1, fun b hb => ?_, w7⟩
     obtain ⟨o, e, d⟩ := T.obj _ _ st5 b hb
     exact (I7.pin (b, o) (List.mem_append_right _ (List.mem_append_right _ (yO hb e)))).2.1
   cases f with
   | next => obtain ⟨σ7, H7, I7, n7⟩ := q7; exact again I7 n7
   | cont => obtain ⟨σ7, H7, I7, n7⟩ := q7; exact again I7 n7
   | brk => obtain ⟨σ7, H7, I7, q7⟩ := q7; exact ⟨σ7, H7, I7.unpinned, q7⟩
   | ret v => obtain ⟨x7, σ7, H7, I7, r7, q7⟩ := q7; exact ⟨x7, σ7, H7, I7.unpinned, r7, q7⟩
end
theorem for_list {K : PySem.W.Frag} {a : Addr} {xs : List V} {g : TG} {tb : TS} {D : Ends} {σ : St} {H : Hp} (Pv : Nat -> St -> Hp -> Prop) (h0 : Pv 0 σ H) (hl : ∀ i σ H, i <= xs.length -> Pv i σ H -> SqL K H a xs)
   (hs : ∀ i x σ H, xs[i]? = some x -> Pv i σ H -> g x σ H fun σ2 H2 => tb { D with nx := Pv (i + 1), ct := Pv (i + 1), bk := D.nx } σ2 H2) (hd : ∀ σ H, Pv xs.length σ H -> D.nx σ H) :
   ∃ W : Nat -> Nat -> St -> Hp -> Prop, (∃ m, W 0 m σ H) /\ ∀ i m σ H, W i m σ H ->
     ((Itl K a).stop i H /\ D.nx σ H) \/ ((Itl K a).go i H /\ ∃ N : St -> Hp -> Prop, (∀ σ' H', N σ' H' -> ∃ m', m' < m /\ W (i + 1) m' σ' H') /\ ∀ x H', (Itl K a).yld i H x H' -> g x σ H' fun σ2 H2 => tb { D with nx := N, ct := N, bk := D.nx } σ2 H2) := by
 refine ⟨fun i m σ H => m = xs.length - i /\ i <= xs.length /\ Pv i σ H, ⟨xs.length, by simp, Nat.zero_le _, h0⟩, ?_⟩
 rintro i m σ H ⟨rfl, hi, p⟩
 have q := hl i σ H hi p
 by_cases hlt : i < xs.length
 · refine .inr ⟨⟨xs, xs[i], q, by simp [hlt]⟩, Pv (i + 1), fun σ' H' p' => ⟨xs.length - (i + 1), by omega, rfl, hlt, p'⟩, fun x H' y => ?_⟩
   obtain ⟨e, y⟩ := y
   subst e
   exact hs i x σ _ (y xs q) p
 · have e : i = xs.length := by omega
   subst e
   exact .inl ⟨⟨xs, q, Nat.le_refl _⟩, hd σ H p⟩
theorem for_tup {K : PySem.W.Frag} {a : Addr} {xs : List V} {g : TG} {tb : TS} {D : Ends} {σ : St} {H : Hp} (Pv : Nat -> St -> Hp -> Prop) (h0 : Pv 0 σ H) (hl : ∀ i σ H, i <= xs.length -> Pv i σ H -> SqT K H a xs)
   (hs : ∀ i x σ H, xs[i]? = some x -> Pv i σ H -> g x σ H fun σ2 H2 => tb { D with nx := Pv (i + 1), ct := Pv (i + 1), bk := D.nx } σ2 H2) (hd : ∀ σ H, Pv xs.length σ H -> D.nx σ H) :
   ∃ W : Nat -> Nat -> St -> Hp -> Prop, (∃ m, W 0 m σ H) /\ ∀ i m σ H, W i m σ H ->
     ((Itt K a).stop i H /\ D.nx σ H) \/ ((Itt K a).go i H /\ ∃ N : St -> Hp -> Prop, (∀ σ' H', N σ' H' -> ∃ m', m' < m /\ W (i + 1) m' σ' H') /\ ∀ x H', (Itt K a).yld i H x H' -> g x σ H' fun σ2 H2 => tb { D with nx := N, ct := N, bk := D.nx } σ2 H2) := by
 refine ⟨fun i m σ H => m = xs.length - i /\ i <= xs.length /\ Pv i σ H, ⟨xs.length, by simp, Nat.zero_le _, h0⟩, ?_⟩
 rintro i m σ H ⟨rfl, hi, p⟩
 have q := hl i σ H hi p
 by_cases hlt : i < xs.length
 · refine .inr ⟨⟨xs, xs[i], q, by simp [hlt]⟩, Pv (i + 1), fun σ' H' p' => ⟨xs.length - (i + 1), by omega, rfl, hlt, p'⟩, fun x H' y => ?_⟩
   obtain ⟨e, y⟩ := y
   subst e
   exact hs i x σ _ (y xs q) p
 · have e : i = xs.length := by omega
   subst e
   exact .inl ⟨⟨xs, q, Nat.le_refl _⟩, hd σ H p⟩
theorem for_range {lo : Int} {n : Nat} {g : TG} {tb : TS} {D : Ends} {σ : St} {H : Hp} (Pv : Nat -> St -> Hp -> Prop) (h0 : Pv 0 σ H)
   (hs : ∀ i σ H, i < n -> Pv i σ H -> g (.int (lo + i)) σ H fun σ2 H2 => tb { D with nx := Pv (i + 1), ct := Pv (i + 1), bk := D.nx } σ2 H2) (hd : ∀ σ H, Pv n σ H -> D.nx σ H) :
   ∃ W : Nat -> Nat -> St -> Hp -> Prop, (∃ m, W 0 m σ H) /\ ∀ i m σ H, W i m σ H ->
     ((Itr lo n).stop i H /\ D.nx σ H) \/ ((Itr lo n).go i H /\ ∃ N : St -> Hp -> Prop, (∀ σ' H', N σ' H' -> ∃ m', m' < m /\ W (i + 1) m' σ' H') /\ ∀ x H', (Itr lo n).yld i H x H' -> g x σ H' fun σ2 H2 => tb { D with nx := N, ct := N, bk := D.nx } σ2 H2) := by
 refine ⟨fun i m σ H => m = n - i /\ i <= n /\ Pv i σ H, ⟨n, by simp, Nat.zero_le _, h0⟩, ?_⟩
 rintro i m σ H ⟨rfl, hi, p⟩
 by_cases hlt : i < n
 · refine .inr ⟨hlt, Pv (i + 1), fun σ' H' p' => ⟨n - (i + 1), by omega, rfl, hlt, p'⟩, fun x H' y => ?_⟩
   obtain ⟨e, y⟩ := y
   subst e y
   exact hs i σ _ hlt p
 · have e : i = n := by omega
   subst e
   exact .inl ⟨Nat.le_refl _, hd σ H p⟩
abbrev R2 := V -> V -> Hp -> VK -> Prop
def OpR (X : Cx) (f : Value -> Value -> Sem Value) (r : R2) : Prop :=
 ∀ (pins : List (Addr × Obj)) (s : Shared) (σ : St) (H : Hp) (x y : V) (v u : Value) (Q : VK), Inv X pins σ H s -> RelV x v -> RelV y u -> r x y H Q ->
   wpAny (model X.prog X.w) X.A (f v u) (EP X pins σ Q) X.xe s
def UnR (X : Cx) (f : Value -> Sem Value) (r : V -> Hp -> VK -> Prop) : Prop :=
 ∀ (pins : List (Addr × Obj)) (s : Shared) (σ : St) (H : Hp) (x : V) (v : Value) (Q : VK), Inv X pins σ H s -> RelV x v -> r x H Q ->
   wpAny (model X.prog X.w) X.A (f v) (EP X pins σ Q) X.xe s
def xN (X : Cx) (f : Value) (r : List V -> Hp -> VK -> Prop) : Prop :=
 ∀ (pins : List (Addr × Obj)) (s : Shared) (σ : St) (H : Hp) (xs : List V) (us : List Value) (Q : VK), Inv X pins σ H s -> Vals xs us -> r xs H Q ->
   wpAny (model X.prog X.w) X.A (call f us) (EP X pins σ Q) X.xe s
def tOp (r : R2) (ta tb : TE) : TE := fun σ H Q => ta σ H fun x H1 => tb σ H1 fun y H2 => r x y H2 Q
def tUn (r : V -> Hp -> VK -> Prop) (ta : TE) : TE := fun σ H Q => ta σ H fun x H1 => r x H1 Q
def rI (C : Int -> Int -> Prop) (g : Int -> Int -> V) : R2 := fun x y H Q => ∃ i j, x = .int i /\ y = .int j /\ C i j /\ Q (g i j) H
def rI0 (g : Int -> Int -> V) : R2 := fun x y H Q => ∃ i j, x = .int i /\ y = .int j /\ Q (g i j) H
def rU (g : Int -> V) : V -> Hp -> VK -> Prop := fun x H Q => ∃ i, x = .int i /\ Q (g i) H
section
variable {X : Cx} {a b c : Expr} {ta tb tc : TE} {pos : Pos}
theorem binT (ha : PE X a ta) (hb : PE X b tb) {pins : List (Addr × Obj)} {s : Shared} {σ : St} {H : Hp} {R : V -> V -> Hp -> Prop} (I : Inv X pins σ H s)
   (h : ta σ H fun x H1 => tb σ H1 fun y H2 => R x y H2) {Q : Value -> Shared -> Prop} {f : Value -> Value -> Sem Value}
   (hf : ∀ v u s2 x y H2, Inv X pins σ H2 s2 -> RelV x v -> RelV y u -> R x y H2 -> wpAny (model X.prog X.w) X.A (f v u) Q X.xe s2) :
   wpAny (model X.prog X.w) X.A (eval a X.env) (fun v s₁ => wpAny (model X.prog X.w) X.A (eval b X.env) (fun u s₂ => wpAny (model X.prog X.w) X.A (f v u) Q X.xe s₂) X.xe s₁) X.xe s := by
 refine thn (ha pins s σ H _ I h) fun v s1 ⟨x, H1, I1, r1, q1⟩ => ?_
 refine thn (hb pins s1 σ H1 _ I1 q1) fun u s2 ⟨y, H2, I2, r2, q2⟩ => ?_
 exact hf v u s2 x y H2 I2 r1 r2 q2
theorem zM {op : Operator} {r : R2} (ho : OpR X (binaryOp op) r) (ha : PE X a ta) (hb : PE X b tb) : PE X (.BinOp a op b pos) (tOp r ta tb) := by
 intro pins s σ H Q I h
 exact wpAny_BinOp (binT ha hb I h fun v u s2 x y H2 I2 rx ry q => ho pins s2 σ H2 x y v u Q I2 rx ry q)
theorem pe_un {op : UnaryOp} {r : V -> Hp -> VK -> Prop} (ho : UnR X (unaryOp op) r) (ha : PE X a ta) : PE X (.UnaryOp op a pos) (tUn r ta) := by
 intro pins s σ H Q I h
 exact UnaryOp_ (thn (ha pins s σ H _ I h) fun v s1 ⟨x, H1, I1, r1, q1⟩ => ho pins s1 σ H1 x v Q I1 r1 q1)
theorem opI {f : Value -> Value -> Sem Value} {C : Int -> Int -> Prop} {g : Int -> Int -> Int}
   (rule : ∀ (i j : Int) (t u : Tok) (s : Shared) (Q : Value -> Shared -> Prop) (E : Value -> Shared -> Prop), C i j -> Q (.int (g i j) s.toks) { s with toks := s.toks + 1 } -> wpAny (model X.prog X.w) X.A (f (.int i t) (.int j u)) Q E s) :
   OpR X f (rI C fun i j => .int (g i j)) := by
 intro pins s σ H x y v u Q I rx ry h
 obtain ⟨i, j, rfl, rfl, hc, q⟩ := h
 obtain ⟨t, rfl⟩ := rx
 obtain ⟨t', rfl⟩ := ry
 exact rule i j t t' s _ _ hc ⟨.int (g i j), H, I.tok _, ⟨_, rfl⟩, q⟩
theorem opI0 {f : Value -> Value -> Sem Value} {g : Int -> Int -> Int}
   (rule : ∀ (i j : Int) (t u : Tok) (s : Shared) (Q : Value -> Shared -> Prop) (E : Value -> Shared -> Prop), Q (.int (g i j) s.toks) { s with toks := s.toks + 1 } -> wpAny (model X.prog X.w) X.A (f (.int i t) (.int j u)) Q E s) :
   OpR X f (rI0 fun i j => .int (g i j)) := by
 intro pins s σ H x y v u Q I rx ry h
 obtain ⟨i, j, rfl, rfl, q⟩ := h
 obtain ⟨t, rfl⟩ := rx
 obtain ⟨t', rfl⟩ := ry
 exact rule i j t t' s _ _ ⟨.int (g i j), H, I.tok _, ⟨_, rfl⟩, q⟩
theorem opB0 {f : Value -> Value -> Sem Value} {g : Int -> Int -> Bool}
   (rule : ∀ (i j : Int) (t u : Tok) (s : Shared) (Q : Value -> Shared -> Prop) (E : Value -> Shared -> Prop), Q (.bool (g i j)) s -> wpAny (model X.prog X.w) X.A (f (.int i t) (.int j u)) Q E s) :
   OpR X f (rI0 fun i j => .bl (g i j)) := by
 intro pins s σ H x y v u Q I rx ry h
 obtain ⟨i, j, rfl, rfl, q⟩ := h
 obtain ⟨t, rfl⟩ := rx
 obtain ⟨t', rfl⟩ := ry
 exact rule i j t t' s _ _ ⟨.bl (g i j), H, I, rfl, q⟩
def CDiv (i j : Int) : Prop := 0 < j /\ j < 1073741824
def CPow (i j : Int) : Prop := 0 <= j /\ j <= 1000000 /\ i.natAbs < 2 ^ 64
def CMul (i j : Int) : Prop := (-(2 ^ 64) < i /\ i < 2 ^ 64) \/ (-(2 ^ 64) < j /\ j < 2 ^ 64)
theorem CMul.ok {i j : Int} (h : CMul i j) : IntMulOk i j := by
 rcases h with ⟨h1, h2⟩ | ⟨h1, h2⟩
 · exact .of_left (intBits_le_64 h1 h2)
 · exact .of_right (intBits_le_64 h1 h2)
theorem op_add : OpR X (binaryOp .Add) (rI0 fun i j => .int (i + j)) := opI0 fun _ _ _ _ _ _ _ q => add_int q
theorem op_sub : OpR X (binaryOp .Sub) (rI0 fun i j => .int (i - j)) := opI0 fun _ _ _ _ _ _ _ q => sub_int q
theorem op_mul : OpR X (binaryOp .Mult) (rI CMul fun i j => .int (i * j)) := opI fun _ _ _ _ _ _ _ hc q => mul_int q hc.ok
theorem op_fdiv : OpR X (binaryOp .FloorDiv) (rI CDiv fun i j => .int (i / j)) := opI fun i j _ _ _ _ _ hc q => by
 have h1 : (0 : Int) < j := hc.1
 have h2 : j < 1073741824 := hc.2
 exact floordiv_int (by omega) (by rw [Int.fdiv_eq_ediv_of_nonneg i (by omega)]; exact q) (.inl (PyProof.noPylong_small (by omega)))
theorem op_mod : OpR X (binaryOp .Mod) (rI (fun _ j => 0 < j) fun i j => .int (i % j)) := opI fun i j _ _ _ _ _ hc q => by
 have h1 : (0 : Int) < j := hc
 exact mod_int' (by omega) (by rw [Int.fmod_eq_emod_of_nonneg i (by omega)]; exact q)
theorem op_pow : OpR X (binaryOp .Pow) (rI CPow fun i j => .int (i ^ j.toNat)) := opI fun _ _ _ _ _ _ _ hc q => pow_int_small hc.1 hc.2.1 hc.2.2 q
theorem op_xor : OpR X (binaryOp .BitXor) (rI0 fun i j => .int (Builtin.bitXor i j)) := opI0 fun _ _ _ _ _ _ _ q => xor_int q
theorem unI {f : Value -> Sem Value} {g : Int -> Int}
   (rule : ∀ (i : Int) (t : Tok) (s : Shared) (Q : Value -> Shared -> Prop) (E : Value -> Shared -> Prop), Q (.int (g i) s.toks) { s with toks := s.toks + 1 } -> wpAny (model X.prog X.w) X.A (f (.int i t)) Q E s) :
   UnR X f (rU fun i => .int (g i)) := by
 intro pins s σ H x v Q I rx h
 obtain ⟨i, rfl, q⟩ := h
 obtain ⟨t, rfl⟩ := rx
 exact rule i t s _ _ ⟨.int (g i), H, I.tok _, ⟨_, rfl⟩, q⟩
theorem un_neg : UnR X (unaryOp .USub) (rU fun i => .int (-i)) := unI fun _ _ _ _ _ q => neg_int q
end
def scal : V -> V -> Bool
 | .non, .non => true | .non, .int _ => true | .int _, .non => true | .non, .bl _ => true | .bl _, .non => true | .non, .str _ => true | .str _, .non => true
 | .int _, .int _ => true | .bl _, .bl _ => true | .str _, .str _ => true | .byt _, .byt _ => true
 | .int _, .str _ => true | .str _, .int _ => true | .bl _, .str _ => true | .str _, .bl _ => true
 | _, _ => false
def rEq : R2 := fun x y H Q => scal x y = true /\ Q (.bl (decide (x = y))) H
def rNe : R2 := fun x y H Q => scal x y = true /\ Q (.bl (!decide (x = y))) H
theorem dec_int {i j : Int} : decide (V.int i = V.int j) = (i == j) := by
 rw [Bool.eq_iff_iff]
 simp
theorem dec_bl {i j : Bool} : decide (V.bl i = V.bl j) = (i == j) := by
 rw [Bool.eq_iff_iff]
 simp
theorem dec_str {i j : Str} : decide (V.str i = V.str j) = (i == j) := by
 rw [Bool.eq_iff_iff]
 simp
theorem dec_byt {i j : Array UInt8} : decide (V.byt i = V.byt j) = (i.toList == j.toList) := by
 rw [Bool.eq_iff_iff]
 cases i
 cases j
 simp
section
variable {X : Cx} {a b c : Expr} {ta tb tc : TE} {pos : Pos}
theorem yD {pins : List (Addr × Obj)} {σ : St} {H : Hp} {s : Shared} {Q : VK} {k k' : Bool} (I : Inv X pins σ H s) (q : Q (.bl k) H) (e : k = k') : EP X pins σ Q (.bool k') s := by
 subst e
 exact ⟨.bl k, H, I, rfl, q⟩
theorem op_eq : OpR X (compareOp .Eq) rEq := by
 intro pins s σ H x y v u Q I rx ry h
 obtain ⟨hs, q⟩ := h
 cases x with
 | non =>
   cases rx
   cases y with
   | non => cases ry; exact PySem.EqNone.eq_none_none (yD I q (by simp))
   | bl j => cases ry; exact PySem.EqNone.eq_none_bool (yD I q (by simp))
   | int j => obtain ⟨t', rfl⟩ := ry; exact PySem.EqNone.eq_none_int (yD I q (by simp))
   | str j => obtain ⟨t', rfl⟩ := ry; exact PySem.EqNone.eq_none_str (yD I q (by simp))
   | _ => exact absurd (show false = true from hs) Bool.false_ne_true
 | bl i =>
   cases rx
   cases y with
   | non => cases ry; exact PySem.EqNone.eq_bool_none (yD I q (by simp))
   | bl j => cases ry; exact eq_bool (yD I q dec_bl)
   | str j => obtain ⟨t', rfl⟩ := ry; exact PySem.EqMixed.eq_bool_str (yD I q (by simp))
   | _ => exact absurd (show false = true from hs) Bool.false_ne_true
 | int i =>
   obtain ⟨t, rfl⟩ := rx
   cases y with
   | non => cases ry; exact PySem.EqNone.eq_int_none (yD I q (by simp))
   | int j => obtain ⟨t', rfl⟩ := ry; exact eq_int (yD I q dec_int)
   | str j => obtain ⟨t', rfl⟩ := ry; exact PySem.EqMixed.eq_int_str (yD I q (by simp))
   | _ => exact absurd (show false = true from hs) Bool.false_ne_true
 | str i =>
   obtain ⟨t, rfl⟩ := rx
   cases y with
   | non => cases ry; exact PySem.EqNone.eq_str_none (yD I q (by simp))
   | bl j => cases ry; exact PySem.EqMixed.eq_str_bool (yD I q (by simp))
   | int j => obtain ⟨t', rfl⟩ := ry; exact PySem.EqMixed.eq_str_int (yD I q (by simp))
   | str j => obtain ⟨t', rfl⟩ := ry; exact eq_str (yD I q dec_str)
   | _ => exact absurd (show false = true from hs) Bool.false_ne_true
 | byt i =>
   obtain ⟨t, rfl⟩ := rx
   cases y with
   | byt j => obtain ⟨t', rfl⟩ := ry; exact PySem.W.eq_bytes (yD I q dec_byt)
   | _ => exact absurd (show false = true from hs) Bool.false_ne_true
 | _ => cases y <;> exact absurd (show false = true from hs) Bool.false_ne_true
theorem op_lt : OpR X (compareOp .Lt) (rI0 fun i j => .bl (decide (i < j))) := opB0 fun _ _ _ _ _ _ _ q => lt_int q
theorem op_gt : OpR X (compareOp .Gt) (rI0 fun i j => .bl (decide (j < i))) := opB0 fun _ _ _ _ _ _ _ q => gt_int q
theorem op_isN : OpR X (compareOp .Is) (fun x y H Q => y = .non /\ Q (.bl (decide (x = .non))) H) := by
 intro pins s σ H x y v u Q I rx ry h
 obtain ⟨rfl, q⟩ := h
 cases ry
 refine is_none_gen (yD I q ?_)
 cases x <;> first
   | (cases rx; rfl)
   | (obtain ⟨t, rfl⟩ := rx; rfl)
theorem zN (b : Expr) {op : CmpOp} (h : op ≠ .In := by decide) (h2 : op ≠ .NotIn := by decide) : behindInMarks op b = false := by
 have e1 : (op == CmpOp.In) = false := by cases op <;> first | rfl | exact absurd rfl h
 have e2 : (op == CmpOp.NotIn) = false := by cases op <;> first | rfl | exact absurd rfl h2
 cases b <;> simp [behindInMarks, e1, e2]
theorem qV {op : CmpOp} {r : R2} (ho : OpR X (compareOp op) r) (ha : PE X a ta) (hb : PE X b tb) (hm : behindInMarks op b = false) : PE X (.Compare a [op] [b] pos) (tOp r ta tb) := by
 intro pins s σ H Q I h
 exact wpAny_Compare1 (binT ha hb I h fun v u s2 x y H2 I2 rx ry q => ho pins s2 σ H2 x y v u Q I2 rx ry q) hm
def tTest (t : TE) : TT := fun σ H Q => t σ H fun x H' => ∃ k, x = .bl k /\ Q k H'
theorem zK {op : CmpOp} {r : R2} (ho : OpR X (compareOp op) r) (ha : PE X a ta) (hb : PE X b tb) (hm : behindInMarks op b = false) : PT X (.Compare a [op] [b] pos) (tTest (tOp r ta tb)) := by
 intro pins s σ H Q I h
 refine wpAny_isTrue_Compare1 (thn (ha pins s σ H _ I h) fun v s1 ⟨x, H1, I1, r1, q1⟩ => thn (hb pins s1 σ H1 _ I1 q1) fun u s2 ⟨y, H2, I2, r2, q2⟩ =>
   thn (ho pins s2 σ H2 x y v u _ I2 r1 r2 q2) fun c s3 ⟨z, H3, I3, r3, k, e, q3⟩ => ?_) hm
 subst e
 cases r3
 exact wpAny_truthy_bool ⟨H3, I3, q3⟩
def tChain (r r' : R2) (ta tb tc : TE) : TE := fun σ H Q => ta σ H fun x H1 => tb σ H1 fun y H2 => r x y H2 fun z H3 => ∃ k, z = .bl k /\
 (if k = true then tc σ H3 fun w' H4 => r' y w' H4 Q else Q (.bl false) H3)
theorem line63 : (sizeLine : Nat) < 2 ^ 63 := by rw [sizeLine_eq]; decide
theorem op_add_str : OpR X (binaryOp .Add) (fun x y H Q => ∃ i j, x = .str i /\ y = .str j /\ i.length + j.length <= sizeLine /\ Q (.str (i ++ j)) H) := by
 intro pins s σ H x y v u Q I rx ry h
 obtain ⟨i, j, rfl, rfl, hz, q⟩ := h
 obtain ⟨t, rfl⟩ := rx
 obtain ⟨t', rfl⟩ := ry
 exact add_str (fun t' tk => ⟨.str (i ++ j), H, I.tok _, ⟨_, rfl⟩, q⟩) hz
theorem jC {x : V} {us : List Value} (r : Vals [x] us) : ∃ u, us = [u] /\ RelV x u := by
 cases r with
 | cons r1 r2 => cases r2; exact ⟨_, rfl, r1⟩
theorem vals2 {x y : V} {us : List Value} (r : Vals [x, y] us) : ∃ u w', us = [u, w'] /\ RelV x u /\ RelV y w' := by
 cases r with
 | cons r1 r2 =>
   cases r2 with
   | cons r3 r4 => cases r4; exact ⟨_, _, rfl, r1, r3⟩
def LenV (K : PySem.W.Frag) (x : V) (H : Hp) (n : Nat) : Prop :=
 match x with
 | .str y => y.length <= sizeLine /\ n = y.length
 | .byt y => y.size <= sizeLine /\ n = y.size
 | .ref p => (∃ xs, SqL K H p xs /\ n = xs.length) \/ ∃ xs, SqT K H p xs /\ n = xs.length
 | _ => False
theorem call_len : xN X (.builtin "len") (fun xs H Q => ∃ x n, xs = [x] /\ LenV X.K x H n /\ Q (.int n) H) := by
 intro pins s σ H xs us Q I r h
 obtain ⟨x, n, rfl, e, q⟩ := h
 obtain ⟨u, rfl, rx⟩ := jC r
 have hl := line63
 have hs : sizeLine = 16777216 := sizeLine_eq
 cases x with
 | str y =>
   obtain ⟨t, rfl⟩ := rx
   obtain ⟨hy, e'⟩ : y.length <= sizeLine /\ n = y.length := e
   subst e'
   exact len_str (by omega) ⟨.int _, H, I.tok _, ⟨_, rfl⟩, q⟩
 | byt y =>
   obtain ⟨t, rfl⟩ := rx
   obtain ⟨hy, e'⟩ : y.size <= sizeLine /\ n = y.size := e
   subst e'
   exact PySem.W.len_bytes (by omega) ⟨.int _, H, I.tok _, ⟨_, rfl⟩, q⟩
 | ref p =>
   cases rx
   have e' : (∃ xs, SqL X.K H p xs /\ n = xs.length) \/ ∃ xs, SqT X.K H p xs /\ n = xs.length := e
   rcases e' with ⟨xs, hx, e'⟩ | ⟨xs, hx, e'⟩
   · subst e'
     obtain ⟨its, r', pl, hz⟩ := I.list hx
     have hlen := r'.length
     exact Calls.call_len_list pl.isList (by simp only [List.size_toArray]; omega) ⟨.int xs.length, H, I.tok _, ⟨_, by simp only [List.size_toArray]; rw [hlen]⟩, q⟩
   · subst e'
     obtain ⟨its, r', pl, hz⟩ := I.tuple hx
     have hlen := r'.length
     exact len_tuple pl (by simp only [List.size_toArray]; omega) ⟨.int xs.length, H, I.tok _, ⟨_, by simp only [List.size_toArray]; rw [hlen]⟩, q⟩
 | _ => exact (show False from e).elim
end
structure ObjM (h : Heap) (x dx C : Addr) (mA : Str -> Option Value) : Prop where
 obj : h.get? x = some (PySem.W.instObj C dx)
 ns : h.Ns1 dx mA
 ne : dx ≠ x
theorem lookIn_ns {h : Heap} {dx : Addr} {mA : Str -> Option Value} (n : h.Ns1 dx mA) : ∃ od, h.get? dx = some od /\ ∀ name, PySem.W.lookIn name od = some (mA name) := by
 obtain ⟨o, es, ep, ho, hd, hk, _, hm⟩ := n
 refine ⟨o, ho, fun name => ?_⟩
 have e := hm name
 unfold nsFind findBy at e
 rw [← Array.find?_toList] at e
 unfold PySem.W.lookIn
 rw [hd]
 dsimp only
 split
 · rename_i y q
   rw [q] at e
   exact congrArg some e
 · rename_i q
   rw [q] at e
   have a : es.toList.any (·.refKey) = false := by
     rw [List.any_eq_false]
     intro y hy
     obtain ⟨z, t, hkey⟩ := hk y (Array.mem_toList_iff.mp hy)
     simp [DictEntry.refKey, hkey]
   have a' : ¬ es.toList.any (·.refKey) = true := by rw [a]; exact Bool.false_ne_true
   rw [if_neg a']
   exact congrArg some e
theorem ObjM.look {h : Heap} {x dx C : Addr} {mA : Str -> Option Value} (I : ObjM h x dx C mA) : ∃ od, PySem.W.InstAt h x (PySem.W.instObj C dx) C (some od) /\ ∀ name, PySem.W.lookIn name od = some (mA name) :=
 let ⟨od, ho, hl⟩ := lookIn_ns I.ns
 ⟨od, ⟨I.obj, rfl, rfl, ho⟩, hl⟩
section
variable {prog : Program} {w : World} {A : Around} {E : Value -> Shared -> Prop} {s : Shared} {K : PySem.W.Frag} {x dx C f : Addr} {mA : Str -> Option Value} {name : Str} {v : Value}
end
section
variable {P : Program} {w : World} {H H' : Hp} {h h' : Heap} {a C dx : Addr} {fs fs' : List (Str × V)}
theorem ins_get (hok : HOk P w H h) (e : H a = some (.ins C dx fs)) : ∃ mA, ObjM h a dx C mA /\ (∀ f, RelO (fs.lookup f) (mA f)) /\ PySem.Within mA (fs.map (·.1)) /\ fs.length <= 1000 /\ H dx = some (.own a) := by
 obtain ⟨d, z, ne, ob, mA, n, r, q⟩ := (show ObjOk P w H h a (.ins C dx fs) from hok a _ e)
 exact ⟨mA, ⟨ob, n, ne⟩, r, q, z, d⟩
end
structure Cls (K : PySem.W.Frag) (C : Addr) : Prop where
 pg : PySem.W.plainGet K C Str.empty = true
 hd : PySem.W.hasDictIn K C = true
 po : PySem.W.plainOver K C = true
 sa : PySem.W.findIn K (.ref C) "__setattr__" = some (some (.builtin "object.__setattr__"))
theorem Cls.get {K : PySem.W.Frag} {C : Addr} (c : Cls K C) (f : Str) : PySem.W.plainGet K C f = true := c.pg
structure Con (K : PySem.W.Frag) (C : Addr) (f : Str) (v : V) (u : Value) : Prop where
 at_ : PySem.W.findIn K (.ref C) f = some (some u)
 rel : RelV v u
 get : PySem.W.specialIn K u "__get__" = some none
 cp : PySem.W.copiedNames.contains f = false
structure Meth (K : PySem.W.Frag) (C : Addr) (m : Str) (f : Addr) : Prop where
 at_ : PySem.W.findIn K (.ref C) m = some (some (.ref f))
 fn : PySem.W.isFn K (.ref f) = true
 kp : PySem.W.keepIn K (.ref f) = true
section
variable {X : Cx} {pins : List (Addr × Obj)} {σ : St} {H : Hp} {s : Shared} {a C dx : Addr} {fs : List (Str × V)} {f : Str} {v : V} {A : Around} {E : Value -> Shared -> Prop}
end
section
variable {X : Cx} {o e value : Expr} {f : Str} {pos pos' tpos : Pos} {ta tv : TE}
end
section
variable {X : Cx} {pins : List (Addr × Obj)} {σ : St} {H : Hp} {s : Shared} {A : Around} {E : Value -> Shared -> Prop} {Q : Value -> Shared -> Prop} {c : Value} {b : Bool}
inductive TyOf (K : PySem.W.Frag) (H : Hp) : V -> Value -> Prop where
 | non : TyOf K H .non (.type "NoneType")
 | bl (x : Bool) : TyOf K H (.bl x) (.type "bool")
 | int (i : Int) : TyOf K H (.int i) (.type "int")
 | str (x : Str) : TyOf K H (.str x) (.type "str")
 | flt (x : UInt64) : TyOf K H (.flt x) (.type "float")
 | lst {a : Addr} {xs : List V} (e : H a = some (.lst xs)) : TyOf K H (.ref a) (.type "list")
 | frz {a : Addr} {o : Obj} {xs : List V} (e : H a = some (.frz o (.lst xs))) : TyOf K H (.ref a) (.type "list")
 | tup {a : Addr} {xs : List V} (e : H a = some (.tup xs)) : TyOf K H (.ref a) (.type "tuple")
 | dK {a : Addr} {kvs : List (Key × V)} (e : H a = some (.dK kvs)) : TyOf K H (.ref a) (.type "dict")
 | dT {a : Addr} {kvs : List (List Key × V)} (e : H a = some (.dT kvs)) : TyOf K H (.ref a) (.type "dict")
 | ins {a C dx : Addr} {fs : List (Str × V)} (e : H a = some (.ins C dx fs)) (cl : Cls K C) (ha : PySem.W.findIn K (.ref C) "__class__" = some (some (.builtin "object.__class__")))
     (hn : PySem.W.specialIn K (.builtin "object.__class__") "__get__" = some (some (.builtin "getset_descriptor.__get__"))) (htk : PySem.W.takesIn K (.builtin "object.__class__") = some true)
     (hm : PySem.W.mroIn K C (.type "object") = some true) : TyOf K H (.ref a) (.ref C)
theorem isinst_ok {x : V} {u t : Value} (I : Inv X pins σ H s) (rx : RelV x u) (ty : TyOf X.K H x t) (e : PySem.W.kitOne X.K t c = some b) (h : ∀ tk, Q (.bool b) { s with toks := tk }) :
   wpAny (model X.prog X.w) A (call (.builtin "isinstance") [u, c]) Q E s := by
 cases ty with
 | non => cases (show u = Value.none from rx); exact PySem.W.kia_one PySem.W.kitx_none I.kIn True.intro e (fun z => nomatch z) h
 | bl y => cases (show u = Value.bool y from rx); exact PySem.W.kia_one PySem.W.kitx_bool I.kIn True.intro e (fun z => nomatch z) h
 | int i => obtain ⟨t, q⟩ := (show ∃ t, u = Value.int i t from rx); cases q; exact PySem.W.kia_one PySem.W.kitx_int I.kIn True.intro e (fun z => nomatch z) h
 | str y => obtain ⟨t, q⟩ := (show ∃ t, u = Value.str y t from rx); cases q; exact PySem.W.kia_one PySem.W.kitx_str I.kIn True.intro e (fun z => nomatch z) h
 | flt y => obtain ⟨t, q⟩ := (show ∃ t, u = Value.float y t from rx); cases q; exact PySem.W.kia_one PySem.W.kitx_float I.kIn True.intro e (fun z => nomatch z) h
 | @lst a xs ea =>
   cases (show u = Value.ref a from rx)
   obtain ⟨_, _, n, _, h1⟩ := (show ObjOk X.prog X.w H s.heap a (.lst xs) from I.hok a _ ea)
   exact PySem.W.kia_one PySem.W.kitx_list I.kIn ⟨_, h1, rfl⟩ e (fun z => nomatch z) h
 | @frz a ob xs ea =>
   cases (show u = Value.ref a from rx)
   obtain ⟨_, _, _, n, _, h1⟩ := (show ObjOk X.prog X.w H s.heap a (.frz ob (.lst xs)) from I.hok a _ ea)
   exact PySem.W.kia_one PySem.W.kitx_list I.kIn ⟨_, h1, rfl⟩ e (fun z => nomatch z) h
 | @tup a xs ea =>
   cases (show u = Value.ref a from rx)
   obtain ⟨_, _, _, p⟩ := (show ObjOk X.prog X.w H s.heap a (.tup xs) from I.hok a _ ea)
   obtain ⟨o, h1, h2, _⟩ := p
   exact PySem.W.kia_one PySem.W.kitx_tuple I.kIn ⟨o, h1, h2⟩ e (fun z => nomatch z) h
 | @dK a kvs ea =>
   cases (show u = Value.ref a from rx)
   obtain ⟨_, _, vs, _, p⟩ := (show ObjOk X.prog X.w H s.heap a (.dK kvs) from I.hok a _ ea)
   obtain ⟨o, es, ep, h1, h2, _⟩ := p
   exact PySem.W.kia_one PySem.W.kitx_dict I.kIn ⟨o, h1, h2.1⟩ e (fun z => nomatch z) h
 | @dT a kvs ea =>
   cases (show u = Value.ref a from rx)
   obtain ⟨_, _, xs, _, o, es, ep, h1, h2, _⟩ := (show ObjOk X.prog X.w H s.heap a (.dT kvs) from I.hok a _ ea)
   exact PySem.W.kia_one PySem.W.kitx_dict I.kIn ⟨o, h1, h2.1⟩ e (fun z => nomatch z) h
 | @ins a C dx fs ea cl ha hn htk hm =>
   cases (show u = Value.ref a from rx)
   obtain ⟨mA, O, _⟩ := ins_get I.hok ea
   obtain ⟨od, J, _⟩ := O.look
   exact PySem.W.kia_one (PySem.W.kitx_own (cl.get _) cl.hd ha hn htk hm) I.kIn J e (fun z => nomatch z) h
end
structure Room (k : Nat) (A : Around) : Prop where
 hd : A.handled = none
 dp : A.depth + 3 * k + 5 < recursionLimit
 un : A.units + 16 * k + 200 < cLine
theorem Room.mono {j k : Nat} {A : Around} (r : Room k A) (h : j <= k) : Room j A := ⟨r.hd, by have := r.dp; omega, by have := r.un; omega⟩
theorem Room.deeper {k : Nat} {A : Around} (r : Room (k + 1) A) (env : Env) : Room k (A.deeper env) :=
 ⟨r.hd, by have := r.dp; show A.depth + 1 + 3 * k + 5 < _; omega, by have := r.un; show A.units + 3 + 16 * k + 200 < _; omega⟩
theorem Room.depth {k : Nat} {A : Around} (r : Room k A) : A.depth < recursionLimit := by have := r.dp; omega
theorem Room.units {k : Nat} {A : Around} (r : Room k A) : A.units + 64 < cLine := by have := r.un; omega
def tNil : TA := fun _ H Q => Q [] H
def tCons (ta : TE) (tr : TA) : TA := fun σ H Q => ta σ H fun x H1 => tr σ H1 fun xs H2 => Q (x :: xs) H2
section
variable {X : Cx} {e : Expr} {es : List Expr} {te : TE} {t : TA} {pos : Pos}
theorem pa_nil : PA X [] tNil := fun _ _ _ _ H Q I h => Calls.spliced_nil ⟨[], H, I, .nil, h⟩
theorem zA (ha : PE X e te) (hr : PA X es t) (hs : starEach (e :: es) X.env = (false, eval e X.env) :: starEach es X.env := by rfl) : PA X (e :: es) (tCons te t) := by
 intro pos pins s σ H Q I h
 rw [hs]
 show wpAny _ _ (spliced ((false, eval e X.env) :: backTo pos (starEach es X.env))) _ _ s
 refine Calls.spliced_cons (thn (ha pins s σ H _ I h) fun u s1 ⟨x, H1, I1, r1, q1⟩ => ?_)
 exact thn (hr pos pins s1 σ H1 _ I1 q1) fun us s2 ⟨xs, H2, I2, r2, q2⟩ => ⟨x :: xs, H2, I2, .cons r1 r2, q2⟩
def tTup (t : TA) : TE := fun σ H Q => t σ H fun xs H1 => xs.length <= sizeLine /\ ∀ p, H1 p = none -> Q (.ref p) (upd H1 p (.tup xs))
def tLst (t : TA) : TE := fun σ H Q => t σ H fun xs H1 => xs.length <= sizeLine /\ ∀ p, H1 p = none -> Q (.ref p) (upd H1 p (.lst xs))
theorem zS {x1} (h : PA X es t) : PE X (.Tuple es x1 pos) (tTup t) := by
 intro pins s σ H Q I hq
 refine wpAny_Tuple_spliced (thn (h pos pins s σ H _ I hq) fun us s1 ⟨xs, H1, I1, r, z, q⟩ => ⟨by rw [← r.length]; exact z, ?_⟩)
 have hf : H1 s1.heap.objs.size = none := I1.hok.fresh (Nat.le_refl _)
 refine ⟨.ref s1.heap.objs.size, upd H1 s1.heap.objs.size (.tup xs), I1.laid (t' := s1.toks) (fun b u e => Heap.get?_push_of_some _ e) (Nat.le_refl _) ?_, rfl, q _ hf⟩
 exact ⟨z, us, r, ⟨_, Heap.get?_push_size _ rfl, rfl, _, rfl⟩⟩
theorem xF (h : PA X es t) : PE X (.List es pos) (tLst t) := by
 intro pins s σ H Q I hq
 refine wpAny_List_spliced (thn (h pos pins s σ H _ I hq) fun us s1 ⟨xs, H1, I1, r, z, q⟩ => ⟨by rw [← r.length]; exact z, ?_⟩)
 have hf : H1 s1.heap.objs.size = none := I1.hok.fresh (Nat.le_refl _)
 refine ⟨.ref s1.heap.objs.size, upd H1 s1.heap.objs.size (.lst xs), I1.laid (t' := s1.toks) (fun b u e => Heap.get?_push_of_some _ e) (Nat.le_refl _) ?_, rfl, q _ hf⟩
 exact ⟨z, us, 0, r, Heap.get?_push_size _ rfl⟩
end
abbrev Sp := List V -> Hp -> VK -> XK -> Prop
abbrev CXT := List Env -> Hp -> Shared -> XK -> Value -> Shared -> Prop
structure Env0 (P : Program) (w : World) (K : PySem.W.Frag) (mg : Str -> Option Value) (base : Heap) (A : Around) (outer : List Env) (s : Shared) (H : Hp) : Prop where
 frames : A.frames = some outer
 mod : Mod K mg base
 bs : ∀ b o, base.get? b = some o -> s.heap.get? b = some o /\ H b = none
 bsz : base.objs.size <= s.heap.objs.size
 funs : s.heap.FunFrames base outer
 frf : ∀ b ∈ frs outer, H b = none
 hok : HOk P w H s.heap
 bare : AllBare s.gens
def CE (outer : List Env) (P : Program) (w : World) (H : Hp) (s : Shared) (Q : VK) (u : Value) (s' : Shared) : Prop :=
 ∃ v H', s'.os = s.os /\ AllBare s'.gens /\ Un (frs outer) [] H H' s.heap s'.heap /\ HOk P w H' s'.heap /\ RelV v u /\ Q v H'
def CR (CX : CXT) (outer : List Env) (P : Program) (w : World) (H : Hp) (s : Shared) (Q : VK) (E : XK) (r : Result) (s' : Shared) : Prop :=
 match r with
 | .ok (.ret u) => CE outer P w H s Q u s'
 | .ok _ => False
 | .error e => CX outer H s E e s'
structure FnOk (P : Program) (w : World) (K : PySem.W.Frag) (mg : Str -> Option Value) (base : Heap) (CX : CXT) (k : Nat) (f : Addr) (fd : FuncData) (ps : List Str) (sp : Sp) : Prop where
 len : ∀ vs H Q E, sp vs H Q E -> vs.length = ps.length
 run : ∀ (A : Around) (outer : List Env) (s : Shared) (H : Hp) (args : Args) (us : List Value) (vs : List V) (Q : VK) (E : XK), Room k A -> Env0 P w K mg base A outer s H -> BindsTo s fd args (ps.zip us) -> Vals vs us -> sp vs H Q E ->
   codeAny (model P w) A (.call (.ref f) args) (CR CX outer P w H s Q E) s
theorem FnOk.mono {P : Program} {w : World} {K : PySem.W.Frag} {mg : Str -> Option Value} {base : Heap} {CX : CXT} {j k : Nat} {f : Addr} {fd : FuncData} {ps : List Str} {sp : Sp} (F : FnOk P w K mg base CX j f fd ps sp) (h : j <= k) :
   FnOk P w K mg base CX k f fd ps sp := ⟨F.len, fun A outer s H args us vs Q E hr => F.run A outer s H args us vs Q E (hr.mono h)⟩
section
variable {X : Cx} {pins : List (Addr × Obj)} {σ : St} {H : Hp} {s s' : Shared}
theorem Inv.env0 (I : Inv X pins σ H s) : Env0 X.prog X.w X.K X.mg X.base X.A X.stack s H :=
 ⟨I.ok.frames, I.ok.mod, I.bs, Nat.le_trans I.ok.bsz I.sz, I.stack, I.stkFree, I.hok, I.bare⟩
theorem Inv.after {Q : VK} {u : Value} (I : Inv X pins σ H s) (h : CE X.stack X.prog X.w H s Q u s') : EP X pins σ Q u s' := by
 obtain ⟨v, H', os, bare, un, hok, r, q⟩ := h
 obtain ⟨hh, g, d, t, os'⟩ := s'
 obtain rfl : os' = s.os := os
 exact ⟨v, H', I.call (h' := hh) (g' := g) (d' := d) (t' := t) (ch := []) un hok bare (fun b z => absurd z (by simp)), r, q⟩
end
def tCall (sp : Sp) (dvs : List V) (E : XK) (t : TA) : TE := fun σ H Q => t σ H fun vs H1 => sp (vs ++ dvs) H1 Q E
def Binds (K : PySem.W.Frag) (fd : FuncData) (ps : List Str) (ds : List Value) : Prop :=
 ∀ (s : Shared) (us : List Value), K.In s.heap -> (us ++ ds).length = ps.length -> BindsTo s fd ⟨us, []⟩ (ps.zip (us ++ ds))
theorem Binds.all {K : PySem.W.Frag} {fd : FuncData} {ps : List Str} (h : ∀ us : List Value, us.length = ps.length -> bindArgs fd ⟨us, []⟩ = pure (ps.zip us)) : Binds K fd ps [] := fun s us _ hl => by
 rw [List.append_nil] at hl ⊢
 exact .of_eq (h us hl)
def Passes (CX : CXT) (X : Cx) (E : XK) : Prop := ∀ (pins : List (Addr × Obj)) (σ : St) (H : Hp) (s : Shared) (e : Value) (s' : Shared), Inv X pins σ H s -> CX X.stack H s E e s' -> X.xe e s'
section
variable {X : Cx} {CX : CXT} {k : Nat} {f C : Addr} {fd : FuncData} {ps : List Str} {sp : Sp} {dvs : List V} {ds : List Value} {E : XK} {x m : Str} {p pos apos : Pos} {e o : Expr} {es : List Expr} {ta : TE} {t : TA}
theorem run_fn {pins : List (Addr × Obj)} {σ : St} {H : Hp} {s : Shared} {Q : VK} {us : List Value} {vs : List V} (F : FnOk X.prog X.w X.K X.mg X.base CX k f fd ps sp) (hr : Room k X.A) (hb : Binds X.K fd ps ds) (hd : Vals dvs ds) (hx : Passes CX X E)
   (I : Inv X pins σ H s) (r : Vals vs us) (h : sp (vs ++ dvs) H Q E) : wpAny (model X.prog X.w) X.A (call (.ref f) us) (EP X pins σ Q) X.xe s := by
 have r2 : Vals (vs ++ dvs) (us ++ ds) := r.append hd
 have hl : (us ++ ds).length = ps.length := by rw [← r2.length]; exact F.len _ _ _ _ h
 refine wpAny_call (codeAny_mono (F.run X.A X.stack s H ⟨us, []⟩ (us ++ ds) (vs ++ dvs) Q E hr I.env0 (hb s us I.kIn hl) r2 h) fun r s' hq => ?_)
 cases r with
 | error e => exact hx pins σ H s e s' I hq
 | ok fl =>
   cases fl with
   | ret u => exact I.after hq
   | next => exact False.elim hq
   | brk => exact False.elim hq
   | cont => exact False.elim hq
theorem pe_call (F : FnOk X.prog X.w X.K X.mg X.base CX k f fd ps sp) (hr : Room k X.A) (hg : Gl X x) (hm : X.mg x = some (.ref f)) (hk : PySem.W.keepIn X.K (.ref f) = true) (hb : Binds X.K fd ps ds) (hd : Vals dvs ds) (hx : Passes CX X E)
   (ha : PA X (e :: es) t) (hdb : (x == ("__debug__" : Str)) = false := by decide) (he : starEach (e :: es) X.env = (false, eval e X.env) :: starEach es X.env := by rfl) (hpl : (backTo pos (starEach es X.env)).any (·.1) = false := by rfl) :
   PE X (.Call (.Name x p) (e :: es) [] pos) (tCall sp dvs E t) := by
 intro pins s σ H Q I h
 refine wpAny_Call_Name_kw (ld_glob I hg hm ?_ hdb)
 refine PySem.W.callWith_K (h₀ := X.base) I.ok.mod.kin hk (thn (ha pos pins s σ H _ I h) fun us s1 ⟨vs, H1, I1, r, q⟩ => ⟨I1.kIn, ?_⟩) he hpl
 exact run_fn F hr hb hd hx I1 r q
structure Mk (K : PySem.W.Frag) (C f : Addr) : Prop where
 makes : PySem.W.makesIn K C = true
 init : PySem.W.findIn K (.ref C) "__init__" = some (some (.ref f))
 fn : PySem.W.isFn K (.ref f) = true
 kp : PySem.W.keepIn K (.ref C) = true
end
section
variable {X : Cx} {CX : CXT} {k : Nat} {f C : Addr} {fd : FuncData} {ps ks : List Str} {sp : Sp} {E : XK} {x m : Str} {p pos apos kpos : Pos} {e o : Expr} {es : List Expr} {kws : List Keyword} {te ta : TE} {t tk : TA} {nm : Option Str}
structure KBinds (K : PySem.W.Frag) (fd : FuncData) (ps ks : List Str) (g : List Value -> List Value -> List Value) (gV : List V -> List V -> List V) : Prop where
 to : ∀ (s : Shared) (us ws : List Value), K.In s.heap -> (g us ws).length = ps.length -> BindsTo s fd ⟨us, ks.zip ws⟩ (ps.zip (g us ws))
 rel : ∀ {vs : List V} {us : List Value} {zs : List V} {ws : List Value}, Vals vs us -> Vals zs ws -> Vals (gV vs zs) (g us ws)
variable {g : List Value -> List Value -> List Value} {gV : List V -> List V -> List V}
end
structure FnScope (N P : List Str) (sc : Scope) : Prop where
 kind : sc.kind = .function
 co : sc.isCoroutine = false
 gen : sc.isGenerator = false
 nd : N.Nodup
 pre : N.take P.length = P
 par : ∀ x ∈ P, sc.names.lookup x = some .local \/ sc.names.lookup x = some .cell
 nofree : ∀ y ∈ sc.names, y.2 ≠ .free
theorem qG {kindOf : Str -> Option NameKind} {x : Str} : ∀ {binds : List (Str × Value)} {m : Str -> Option Value}, (∀ v, (x, v) ∉ binds) -> bindL kindOf binds m x = m x
 | [], _, _ => rfl
 | (n, v) :: r, m, h => by
   unfold bindL
   rw [qG fun w hw => h w (List.mem_cons_of_mem _ hw)]
   split
   · have : x ≠ n := by rintro rfl; exact h v List.mem_cons_self
     simp [this]
   · rfl
theorem qI {kindOf : Str -> Option NameKind} {x : Str} : ∀ {binds : List (Str × Value)} {m : Str -> Option Value}, (∀ v, (x, v) ∉ binds) -> bindC kindOf binds m x = m x
 | [], _, _ => rfl
 | (n, v) :: r, m, h => by
   unfold bindC
   rw [qI fun w hw => h w (List.mem_cons_of_mem _ hw)]
   split
   · rfl
   · have : x ≠ n := by rintro rfl; exact h v List.mem_cons_self
     simp [this]
theorem qH {kindOf : Str -> Option NameKind} {x : Str} {v : Value} : ∀ {P : List Str} {vs : List Value} {i : Nat} {m : Str -> Option Value}, P.Nodup -> P[i]? = some x -> vs[i]? = some v -> kindOf x = some .local ->
   bindL kindOf (P.zip vs) m x = some v
 | [], _, _, _, _, h, _, _ => by simp at h
 | _ :: _, [], _, _, _, _, h, _ => by simp at h
 | p :: P, w :: vs, 0, m, nd, h1, h2, hk => by
   simp at h1 h2; subst h1; subst h2
   show bindL kindOf ((p, w) :: P.zip vs) m p = _
   unfold bindL
   rw [qG fun v hv => (List.nodup_cons.mp nd).1 (List.of_mem_zip hv).1, if_pos hk]
   simp
 | p :: P, w :: vs, i + 1, m, nd, h1, h2, hk => by
   show bindL kindOf ((p, w) :: P.zip vs) m x = _
   unfold bindL
   exact qH (i := i) (List.nodup_cons.mp nd).2 (by simpa using h1) (by simpa using h2) hk
theorem qJ {kindOf : Str -> Option NameKind} {x : Str} {v : Value} : ∀ {P : List Str} {vs : List Value} {i : Nat} {m : Str -> Option Value}, P.Nodup -> P[i]? = some x -> vs[i]? = some v -> kindOf x ≠ some .local ->
   bindC kindOf (P.zip vs) m x = some v
 | [], _, _, _, _, h, _, _ => by simp at h
 | _ :: _, [], _, _, _, _, h, _ => by simp at h
 | p :: P, w :: vs, 0, m, nd, h1, h2, hk => by
   simp at h1 h2; subst h1; subst h2
   show bindC kindOf ((p, w) :: P.zip vs) m p = _
   unfold bindC
   rw [qI fun v hv => (List.nodup_cons.mp nd).1 (List.of_mem_zip hv).1, if_neg hk]
   simp
 | p :: P, w :: vs, i + 1, m, nd, h1, h2, hk => by
   show bindC kindOf ((p, w) :: P.zip vs) m x = _
   unfold bindC
   exact qJ (i := i) (List.nodup_cons.mp nd).2 (by simpa using h1) (by simpa using h2) hk
def start (N : List Str) (vs : List V) : St := vs.map some ++ List.replicate (N.length - vs.length) none
def jR (CX : CXT) (P : Program) (w : World) (K : PySem.W.Frag) (mg : Str -> Option Value) (base : Heap) (N : List Str) (qual : Str) (scope : Scope) (f : Addr) (cd : Value) (A : Around) (outer : List Env) (s : Shared) (H : Hp) (E : XK) : Cx where
 prog := P
 w := w
 K := K
 mg := mg
 base := base
 A := A.deeper (envOfC qual scope s.heap.objs.size f cd)
 N := N
 s₀ := s
 H₀ := H
 env := envOfC qual scope s.heap.objs.size f cd
 outer := outer
 stack := envOfC qual scope s.heap.objs.size f cd :: outer
 ex := []
 calm := true
 fn := fun _ => true
 pn := []
 xe := fun e s' => wpAny (model P w) (A.deeper (envOfC qual scope s.heap.objs.size f cd)) (leaving (envOfC qual scope s.heap.objs.size f cd) e) (fun _ s'' => CX outer H s E e s'') (fun e' s'' => CX outer H s E e' s'') s'
theorem cell_has {sc : Scope} {n : Nat} {x : Str} (h : sc.names.lookup x = some .cell) : ∃ c, (cellsFrom n sc.names []).lookup x = some c := by
 have q := PySem.W.cellsFrom_some sc.names n [] (.inl h)
 exact Option.isSome_iff_exists.mp q
theorem inv_start {CX : CXT} {P : Program} {w : World} {K : PySem.W.Frag} {mg : Str -> Option Value} {base : Heap} {N ps : List Str} {qual : Str} {scope : Scope} {f : Addr} {cd : Value} {A : Around} {outer : List Env} {s s1 : Shared} {H : Hp} {E : XK} {us : List Value} {vs : List V}
   (S : FnScope N ps scope) (hd : A.handled = none) (e0 : Env0 P w K mg base A outer s H) (hl : vs.length = ps.length) (r : Vals vs us)
   (x : InCallC s s.heap.objs.size (bindL (envOfC qual scope s.heap.objs.size f cd).kindOf (ps.zip us) fun _ => none) (cellsFrom (s.heap.objs.size + 1) scope.names []) (bindC (envOfC qual scope s.heap.objs.size f cd).kindOf (ps.zip us) fun _ => none) s1) :
   Inv (jR CX P w K mg base N qual scope f cd A outer s H E) [] (start N vs) H s1 := by
 have hpl : ps.length <= N.length := by have := congrArg List.length S.pre; rw [List.length_take] at this; omega
 obtain ⟨h1, tk, rfl, hk⟩ := x.done
 have noA : ∀ b : Addr, b ∉ (jR CX P w K mg base N qual scope f cd A outer s H E).ex := fun b z => absurd (show b ∈ ([] : List Addr) from z) (by simp)
 refine ⟨⟨e0.mod, S.kind, rfl, rfl, Nat.le_refl _, fun y z c h1 h2 => ?_, fun y hy => ?_, fun y c _ h => ?_, fun _ => hd, Around.frames_deeper e0.frames, .inr ⟨rfl, rfl⟩, fun b z => absurd z (noA b), e0.bs, e0.bsz, fun b _ _ => noA b, fun b z => absurd z (noA b), e0.funs, e0.frf⟩,
   rfl, e0.bare, Un.kept hk, ⟨_, x.toInCall.ns, fun i y v h1 h2 h3 => ?_⟩, fun y c h => ⟨_, x.cell y c h⟩, e0.hok.fresh (Nat.le_refl _), fun y c h => ?_, fun p hp => absurd (show p ∈ ([] : List (Addr × Obj)) from hp) (by simp), e0.hok.kept hk, ?_⟩
 · exact name_of_addr x.apart (PySem.mem_of_lookup h1) (PySem.mem_of_lookup h2)
 · have hy : scope.names.lookup y = some .cell \/ scope.names.lookup y = some .free := hy
   rcases hy with hy | hy
   · exact cell_has hy
   · exact absurd rfl (S.nofree _ (PySem.mem_of_lookup hy))
 · exact Nat.le_of_lt (x.above y c (PySem.mem_of_lookup h))
 · have hi : i < vs.length := by
     unfold start at h2
     by_cases hi : i < vs.length
     · exact hi
     · rw [List.getElem?_append_right (by simpa using hi)] at h2
       rw [List.getElem?_replicate] at h2
       split at h2 <;> cases h2
   have ha : vs[i]? = some v := by
     unfold start at h2
     rw [List.getElem?_append_left (by simpa using hi), List.getElem?_map] at h2
     cases e : vs[i]? with
     | none => rw [e] at h2; cases h2
     | some a => rw [e] at h2; cases h2; rfl
   obtain ⟨u, hu, rv⟩ := r.get ha
   have hp : ps[i]? = some y := by
     rw [← S.pre, List.getElem?_take_of_lt (by omega)]; exact h1
   have ndP : ps.Nodup := by rw [← S.pre]; exact S.nd.sublist (List.take_sublist _ _)
   refine ⟨u, rv, ?_⟩
   rcases S.par y (List.mem_of_getElem? hp) with k | k
   · exact .inl ⟨k, qH ndP hp hu k⟩
   · obtain ⟨c, e⟩ := cell_has (n := s.heap.objs.size + 1) k
     refine .inr ⟨.inl k, c, e, ?_⟩
     have q := x.cell y c e
     rw [qJ ndP hp hu (by show scope.names.lookup y ≠ _; rw [k]; decide)] at q
     exact q
 · exact e0.hok.fresh (Nat.le_of_lt (x.above y c (PySem.mem_of_lookup h)))
 · unfold start
   show _ = N.length
   rw [List.length_append, List.length_map, List.length_replicate]
   omega
theorem fn_of {CX : CXT} {P : Program} {w : World} {K : PySem.W.Frag} {mg : Str -> Option Value} {base : Heap} {k : Nat} {f : Addr} {name qual : Str} {params : Arguments} {body : List Stmt} {scope : Scope} {dV kV doc pm cdv ct oc : Value} {an od : Option Addr}
   {osl : Array (Option Value)} {N ps : List Str} {sp : Sp} (lk : K.lookup f = some ⟨oc, od, .func (PySem.W.fnOf name qual params body scope dV kV doc pm an cdv ct), osl⟩) (hcd : PySem.W.codeIn K cdv qual = true) (S : FnScope N ps scope)
   (len : ∀ vs H Q E, sp vs H Q E -> vs.length = ps.length)
   (hbody : ∀ (A : Around) (outer : List Env) (s : Shared) (H : Hp) (vs : List V) (Q : VK) (E : XK), Room k (A.deeper (envOfC qual scope s.heap.objs.size f cdv)) -> sp vs H Q E ->
     ∃ t, PSs (jR CX P w K mg base N qual scope f cdv A outer s H E) body t /\ t { nx := fun _ H' => Q .non H', rt := Q } (start N vs) H) :
   FnOk P w K mg base CX (k + 1) f (PySem.W.fnOf name qual params body scope dV kV doc pm an cdv ct) ps sp := by
 refine ⟨len, fun A outer s H args us vs Q E hr e0 hb r hsp => ?_⟩
 have hl := len _ _ _ _ hsp
 have KX : K.In s.heap := e0.mod.kin.keeps fun b o e => (e0.bs b o e).1
 have lim : s.heap.NoLimit := e0.mod.nolimit.keeps fun b o e => (e0.bs b o e).1
 have hkind : ∀ y ∈ ps.zip us, scope.names.lookup y.1 = some .local \/ (scope.names.lookup y.1 = some .cell /\ ((cellsFrom (s.heap.objs.size + 1) scope.names []).lookup y.1).isSome = true) := fun ⟨n, v⟩ hy => by
   rcases S.par n (List.of_mem_zip hy).1 with q | q
   · exact .inl q
   · exact .inr ⟨q, PySem.W.cellsFrom_some _ _ _ (.inl q)⟩
 refine codeAny_call_function hr.depth (KX _ _ lk) rfl S.co S.gen rfl (PySem.W.codeRec_of KX hcd) (hb _ _ _ _ ?_)
 refine wpAny_newFunctionEnv_cells S.kind hkind fun env he s1 x => ?_
 subst he
 refine ⟨lim.keeps x.toInCall.keep, codeAny_func ?_⟩
 obtain ⟨t, ht, hq⟩ := hbody A outer s H vs Q E (hr.deeper _) hsp
 have I : Inv (jR CX P w K mg base N qual scope f cdv A outer s H E) [] (start N vs) H s1 := inv_start S hr.hd e0 hl r x
 refine wpAny_mono (ht [] s1 (start N vs) H _ I hq) (fun fl s' hs => ?_) fun e s' hs => hs
 have fin : ∀ {σ' : St} {H' : Hp} {v : V} {u : Value}, Inv (jR CX P w K mg base N qual scope f cdv A outer s H E) [] σ' H' s' -> RelV v u -> Q v H' -> CE outer P w H s Q u s' :=
   fun {σ' H' v u} J rv q => ⟨v, H', J.os, J.bare, J.base, J.hok, rv, q⟩
 cases fl with
 | ret u =>
   obtain ⟨v, σ', H', J, rv, q⟩ := hs
   exact fin J rv q
 | next =>
   obtain ⟨σ', H', J, q⟩ := hs
   exact fin (v := V.non) (u := Value.none) J rfl q
 | brk =>
   obtain ⟨_, _, _, q⟩ := hs
   exact False.elim q
 | cont =>
   obtain ⟨_, _, _, q⟩ := hs
   exact False.elim q
section
variable {X : Cx} {x : Str} {p pos : Pos} {e : Expr} {es : List Expr} {t : TA} {id T : String} {r : List V -> Hp -> VK -> Prop}
def tCB (r : List V -> Hp -> VK -> Prop) (t : TA) : TE := fun σ H Q => t σ H fun vs H1 => r vs H1 Q
theorem yB (hc : xN X (.builtin id) r) (hg : Gl X x) (hm : X.mg x = none) (hv : bootBuiltins x = some (.builtin id)) (ha : PA X (e :: es) t) (hn : x ≠ "__name__" := by decide) (hdb : (x == ("__debug__" : Str)) = false := by decide)
   (he : starEach (e :: es) X.env = (false, eval e X.env) :: starEach es X.env := by rfl) (hpl : (backTo pos (starEach es X.env)).any (·.1) = false := by rfl) : PE X (.Call (.Name x p) (e :: es) [] pos) (tCB r t) := by
 intro pins s σ H Q I h
 refine wpAny_Call_Name_kw (yX I hg hm hv ?_ hn hdb)
 exact PyProof.Rows.callWith_builtin1 (thn (ha pos pins s σ H _ I h) fun us s1 ⟨vs, H1, I1, r1, q1⟩ => hc pins s1 σ H1 vs us Q I1 r1 q1) he hpl
theorem yQ (hc : xN X (.type T) r) (hg : Gl X x) (hm : X.mg x = none) (hv : bootBuiltins x = some (.type T)) (ha : PA X (e :: es) t) (hn : x ≠ "__name__" := by decide) (hdb : (x == ("__debug__" : Str)) = false := by decide)
   (he : starEach (e :: es) X.env = (false, eval e X.env) :: starEach es X.env := by rfl) (hpl : (backTo pos (starEach es X.env)).any (·.1) = false := by rfl) : PE X (.Call (.Name x p) (e :: es) [] pos) (tCB r t) := by
 intro pins s σ H Q I h
 refine wpAny_Call_Name_kw (yX I hg hm hv ?_ hn hdb)
 exact PyProof.Rows.callWith_type1 (thn (ha pos pins s σ H _ I h) fun us s1 ⟨vs, H1, I1, r1, q1⟩ => hc pins s1 σ H1 vs us Q I1 r1 q1) he hpl
end
end L2
namespace HT
open PySem PyProof.Rows
section
open PySem.SeqAt
open PySem.AutoSeq1 (wpAny_loadPart')
open PySem.MeetsSeq PySem.MeetsSeq2 PySem.MeetsSeq3
end
section
variable {prog : Program} {w : World} {A : Around} {E : Value -> Shared -> Prop} {s : Shared}
theorem cat_tup {t b : Addr} {vs ws : List Value} {Q : Value -> Shared -> Prop} (ht : IsTup s.heap t vs.toArray) (hb : IsTup s.heap b ws.toArray) (hv : vs ≠ [])
   (h1 : ws = [] -> Q (.ref t) s) (h2 : ws ≠ [] -> Q (.ref s.heap.objs.size) { s with heap := s.heap.push { cls := .type "tuple", data := .seq (vs ++ ws).toArray } })
   (hsz : vs.length + ws.length <= sizeLine) : wpAny (model prog w) A (binaryOp .Add (.ref t) (.ref b)) Q E s := by
 obtain ⟨⟨cls, dd, data, sl⟩, ho, hc, n, hd⟩ := id ht
 obtain ⟨⟨cls2, dd2, data2, sl2⟩, ho2, hc2, n2, hd2⟩ := id hb
 simp only at hc hd hc2 hd2
 subst hc hd hc2 hd2
 have e : vs.toArray ++ ws.toArray = (vs ++ ws).toArray := by simp
 by_cases hw : ws = []
 · exact concat_meets ⟨_, ho, rfl⟩ ⟨_, ho2, rfl⟩ noFill_tuple_add seq_tuple_add PySem.F.slot_tuple_add PySem.F.entry_tuple_add (PySem.F.args_tuple_add_2 _ _)
     (tuple_addW1 t b vs.toArray ws.toArray n n2 dd dd2 sl sl2 (by simpa using hv) (by simp [hw])) ⟨ho, ho2, h1 hw⟩
 · refine concat_meets ⟨_, ho, rfl⟩ ⟨_, ho2, rfl⟩ noFill_tuple_add seq_tuple_add PySem.F.slot_tuple_add PySem.F.entry_tuple_add (PySem.F.args_tuple_add_2 _ _)
     (tuple_addW2 t b vs.toArray ws.toArray n n2 dd dd2 sl sl2 (by simpa using hv) (by simpa using hw) (by rw [List.size_toArray, List.size_toArray]; exact hsz)) ⟨ho, ho2, ?_⟩
   rw [e]
   exact h2 hw
def sIx (n d : Nat) : Option Int -> Nat
 | none => d
 | some v => if v < 0 then (v + (n : Int)).toNat else min v.toNat n
theorem sIx_none (n d : Nat) : sIx n d none = d := rfl
theorem sIx_nat (n d k : Nat) : sIx n d (some (k : Int)) = min k n := by
 show (if (k : Int) < 0 then ((k : Int) + (n : Int)).toNat else min (k : Int).toNat n) = min k n
 rw [if_neg (by omega), Int.toNat_natCast]
theorem sIx_le (n d : Nat) (hd : d <= n) (o : Option Int) : sIx n d o <= n := by
 cases o with
 | none => exact hd
 | some v =>
   show (if v < 0 then (v + (n : Int)).toNat else min v.toNat n) <= n
   by_cases hv : v < 0
   · rw [if_pos hv]; omega
   · rw [if_neg hv]; exact Nat.min_le_right _ _
theorem clip_eq (v : Int) (n d : Nat) : (if v < 0 then max (v + (n : Int)) 0 else min v (n : Int)) = ((sIx n d (some v) : Nat) : Int) := by
 show (if v < 0 then max (v + (n : Int)) 0 else min v (n : Int)) = (((if v < 0 then (v + (n : Int)).toNat else min v.toNat n) : Nat) : Int)
 by_cases hv : v < 0
 · simp only [if_pos hv]; omega
 · simp only [if_neg hv]; omega
theorem adjust_gen (lo hi : Option Int) (n : Nat) : Builtin.Slice.sliceAdjust lo hi 1 (n : Int) = (((sIx n 0 lo : Nat) : Int), ((sIx n n hi : Nat) : Int)) := by
 have h1 : ¬ ((1 : Int) < 0) := by omega
 unfold Builtin.Slice.sliceAdjust
 simp only [h1, if_false]
 refine Prod.ext ?_ ?_
 · cases lo with
   | none => rfl
   | some v => exact clip_eq v n 0
 · cases hi with
   | none => rfl
   | some v => exact clip_eq v n n
theorem places_gen (i j : Nat) : Builtin.Slice.slicePlaces (i : Int) (j : Int) 1 = j - i := by
 unfold Builtin.Slice.slicePlaces
 have h1 : (1 : Int) > 0 := by omega
 simp only [h1, if_true, Int.ediv_one]
 split <;> omega
theorem jF {v : Value} {o : Option Int} {Q : Option Int -> Shared -> Prop} (p : IsPart v o) (h : Q o s) : wpAny (model prog w) A (Builtin.Slice.slicePartIndex v) Q E s := by
 cases p with
 | none => exact slicePart_none h
 | int i t => exact slicePart_int h
theorem sliceApplied_gen {sl : Addr} {vl vu : Value} {lo hi : Option Int} {n : Nat} {Q : Int × Int × Nat -> Shared -> Prop} (hs : s.heap.IsSliceOf sl vl vu .none) (pl : IsPart vl lo) (pu : IsPart vu hi)
   (h : Q (((sIx n 0 lo : Nat) : Int), 1, sIx n n hi - sIx n 0 lo) s) : wpAny (model prog w) A (Builtin.Slice.sliceApplied (.ref sl) (pure (n : Int))) Q E s := by
 obtain ⟨os, hos, hcs, hds⟩ := id hs
 unfold Builtin.Slice.sliceApplied Builtin.Slice.sliceFields
 refine wpAny_bind (wpAny_bind (wpAny_field hos hds (x := vl) rfl (wpAny_bind (wpAny_field hos hds (x := vu) rfl (wpAny_bind (wpAny_field hos hds (x := .none) rfl (wpAny_pure ?_)))))))
 refine wpAny_bind (slicePart_none ?_)
 show wpAny _ _ (if ((1 : Int) == 0) = true then _ else _) _ _ s
 rw [if_neg (by decide)]
 refine wpAny_bind (jF pl (wpAny_bind (jF pu (wpAny_bind (wpAny_pure ?_)))))
 show wpAny _ _ (match Builtin.Slice.sliceAdjust lo hi 1 (n : Int) with | (lo, hi) => pure (lo, (1 : Int), Builtin.Slice.slicePlaces lo hi 1)) _ _ s
 rw [adjust_gen lo hi n]
 show wpAny _ _ (pure (((sIx n 0 lo : Nat) : Int), (1 : Int), Builtin.Slice.slicePlaces ((sIx n 0 lo : Nat) : Int) ((sIx n n hi : Nat) : Int) 1)) _ _ s
 rw [places_gen]
 exact wpAny_pure h
theorem pick_gen (xs : Array Value) (i k : Nat) : ((List.range k).filterMap fun (m : Nat) => xs[((i : Int) + (m : Int) * 1).toNat]?).toArray = ((xs.toList.drop i).take k).toArray := by
 have e : (fun (m : Nat) => xs[((i : Int) + (m : Int) * 1).toNat]?) = fun m => xs[i + m]? := by
   funext m
   have : ((i : Int) + (m : Int) * 1).toNat = i + m := by omega
   rw [this]
 rw [e]
 have := pick_run xs i k
 rw [List.filterMap_map] at this
 have e2 : ((fun x => xs[x]?) ∘ fun x => i + x) = fun m => xs[i + m]? := rfl
 rw [e2] at this
 rw [this]
theorem getItem_tuple_cut {t sl : Addr} {items : Array Value} {vl vu : Value} {lo hi : Option Int} {Q : Value -> Shared -> Prop} (ht : IsTup s.heap t items) (hs : s.heap.IsSliceOf sl vl vu .none) (pl : IsPart vl lo) (pu : IsPart vu hi)
   (hw : ¬ (sIx items.size 0 lo = 0 /\ sIx items.size items.size hi = items.size))
   (h : Q (.ref s.heap.objs.size) { s with heap := s.heap.push { cls := .type "tuple", data := .seq ((items.toList.drop (sIx items.size 0 lo)).take (sIx items.size items.size hi - sIx items.size 0 lo)).toArray } })
   (hsz : items.size <= sizeLine) : wpAny (model prog w) A (getItem (.ref t) (.ref sl)) Q E s := by
 have htake : sizeOk (.seq ((items.toList.drop (sIx items.size 0 lo)).take (sIx items.size items.size hi - sIx items.size 0 lo)).toArray) := by
   show ((items.toList.drop (sIx items.size 0 lo)).take (sIx items.size items.size hi - sIx items.size 0 lo)).toArray.size <= sizeLine
   rw [List.size_toArray, List.length_take, List.length_drop, Array.length_toList]
   omega
 have hj : sIx items.size items.size hi <= items.size := sIx_le _ _ (Nat.le_refl _) hi
 obtain ⟨os, hos, hcs, hds⟩ := id hs
 have hTs : s.TypeIs (.ref sl) "slice" := ⟨os, hos, hcs⟩
 unfold getItem
 try with_reducible refine wpAny_holding ?_
 first | refine wpAny_bind (wpAny_pure ?_) | skip
 refine wpAny_bind (wpAny_sequenceKey ht.typeIs (by decide) ?_)
 refine wpAny_bind (wpAny_callSpecial?_slot (name := Str.ofString "__getitem__") ht.typeIs PyProof.Rows.slot_tuple_getitem
   (wpAny_call_entry PyProof.Rows.slot_tuple_getitem ht.typeIs entry_tuple_getitem ?_ (args_tuple_getitem _ _)))
 show wpAny _ _ (Builtin.Tuple.tupleItemsOf (.ref t) >>= _) _ _ s
 refine wpAny_bind (tupleItemsOf_ ht ?_)
 refine wpAny_bind (wpAny_typeOf hTs ?_)
 rw [if_pos (by decide)]
 refine wpAny_bind (sliceApplied_gen hs pl pu ?_)
 have hno : ¬ ((((sIx items.size 0 lo : Nat) : Int) == 0 && (1 : Int) == 1 && (sIx items.size items.size hi - sIx items.size 0 lo) == items.size) = true) := by
   intro q
   rw [Bool.and_eq_true, Bool.and_eq_true] at q
   have q1 : ((sIx items.size 0 lo : Nat) : Int) = 0 := eq_of_beq q.1.1
   have q2 : sIx items.size items.size hi - sIx items.size 0 lo = items.size := eq_of_beq q.2
   exact hw ⟨by omega, by omega⟩
 show wpAny _ _ (if (((sIx items.size 0 lo : Nat) : Int) == 0 && (1 : Int) == 1 && (sIx items.size items.size hi - sIx items.size 0 lo) == items.size) = true then _ else _) _ _ s
 rw [if_neg hno, pick_gen]
 first
   | exact wpAny_bind (m := Builtin.Tuple.tupleExact _) (wpAny_newObj_type (wpAny_pure ⟨_, rfl, wpAny_pure h⟩) htake)
   | exact wpAny_bind (m := Builtin.Tuple.tupleExact _) (wpAny_newObj_type (wpAny_bind (wpAny_pure (wpAny_pure ⟨_, rfl, wpAny_pure h⟩))) htake)
   | exact wpAny_bind (wpAny_bind (m := Builtin.Tuple.tupleExact _) (wpAny_newObj_type (wpAny_pure (wpAny_pure ⟨_, rfl, wpAny_pure h⟩)) htake))
   | exact wpAny_bind (wpAny_bind (m := Builtin.Tuple.tupleExact _) (wpAny_newObj_type (wpAny_pure ⟨_, rfl, wpAny_pure h⟩) htake))
end
end HT
namespace L2
open PySem PySem.Spec PyProof.Rows
abbrev TO := St -> Hp -> (Option Int -> Hp -> Prop) -> Prop
def PO (X : Cx) (e : Option Expr) (t : TO) : Prop :=
 ∀ (pins : List (Addr × Obj)) (s : Shared) (σ : St) (H : Hp) (Q : Option Int -> Hp -> Prop), Inv X pins σ H s -> t σ H Q ->
   wpAny (model X.prog X.w) X.A (evalPart e X.env) (fun u s' => ∃ o H', Inv X pins σ H' s' /\ IsPart u o /\ Q o H') X.xe s
def tNoPart : TO := fun _ H Q => Q none H
def tPart (t : TE) : TO := fun σ H Q => t σ H fun x H1 => ∃ i, x = .int i /\ Q (some i) H1
section
variable {X : Cx} {e : Expr} {te : TE} {lo hi : Option Expr} {tl th : TO} {pos p2 : Pos}
theorem po_none : PO X none tNoPart := by
 intro pins s σ H Q I h
 rw [evalPart_none]
 exact wpAny_pure ⟨none, H, I, .none, h⟩
theorem yE (h : PE X e te) : PO X (some e) (tPart te) := by
 intro pins s σ H Q I hw
 rw [evalPart_some]
 refine thn (h pins s σ H _ I hw) fun u s1 ⟨x, H1, I1, r1, q1⟩ => ?_
 obtain ⟨i, rfl, q⟩ := q1
 obtain ⟨t, rfl⟩ := r1
 exact ⟨some i, H1, I1, .int i t, q⟩
def SlR (X : Cx) (r : V -> Option Int -> Option Int -> Hp -> VK -> Prop) : Prop :=
 ∀ (pins : List (Addr × Obj)) (s : Shared) (σ : St) (H : Hp) (x : V) (v vl vu : Value) (lo hi : Option Int) (sl : Addr) (Q : VK), Inv X pins σ H s -> RelV x v -> s.heap.IsSliceOf sl vl vu .none -> IsPart vl lo -> IsPart vu hi -> r x lo hi H Q ->
   ∃ T id, typeLookup (.type T) "__getitem__" = pure (some (.builtin id)) /\ s.TypeIs v T /\ wpAny (model X.prog X.w) X.A (getItem v (.ref sl)) (EP X pins σ Q) X.xe s
def tSl (r : V -> Option Int -> Option Int -> Hp -> VK -> Prop) (te : TE) (tl th : TO) : TE := fun σ H Q => te σ H fun x H1 => tl σ H1 fun l H2 => th σ H2 fun u H3 => r x l u H3 Q
theorem yC {r : V -> Option Int -> Option Int -> Hp -> VK -> Prop} (hr : SlR X r) (he : PE X e te) (hl : PO X lo tl) (hu : PO X hi th) : PE X (.Subscript e (.Slice lo hi none p2) pos) (tSl r te tl th) := by
 intro pins s σ H Q I h
 refine Subscript_ (thn (he pins s σ H _ I h) fun v s1 ⟨x, H1, I1, r1, q1⟩ => ?_)
 refine wpAny_Slice (thn (hl pins s1 σ H1 _ I1 q1) fun vl s2 ⟨l, H2, I2, pl, q2⟩ => thn (hu pins s2 σ H2 _ I2 q2) fun vu s3 ⟨u, H3, I3, pu, q3⟩ => ?_)
 rw [evalPart_none]
 refine wpAny_pure ?_
 have I4 : Inv X pins σ H3 { s3 with heap := s3.heap.push { cls := .type "slice", data := .fields #[vl, vu, .none] } } := I3.kept (t' := s3.toks) fun b ob q => Heap.get?_push_of_some _ q
 obtain ⟨T, id, hT, ht, hg⟩ := hr pins { s3 with heap := s3.heap.push { cls := .type "slice", data := .fields #[vl, vu, .none] } } σ H3 x v vl vu l u s3.heap.objs.size Q I4 r1 (Heap.IsSliceOf.new ..) pl pu q3
 show wpAny (model X.prog X.w) X.A (subscriptTail e (.Slice lo hi none p2) v (.ref s3.heap.objs.size)) (EP X pins σ Q) X.xe { s3 with heap := s3.heap.push { cls := .type "slice", data := .fields #[vl, vu, .none] } }
 exact tail_any (ops := [.ref s3.heap.objs.size, v]) ht hT hg (by with_unfolding_all rfl)
def yM (xs : List V) (lo hi : Option Int) : List V := (xs.drop (HT.sIx xs.length 0 lo)).take (HT.sIx xs.length xs.length hi - HT.sIx xs.length 0 lo)
theorem xU (xs : List V) (lo hi : Option Int) : (yM xs lo hi).length <= xs.length := by
 unfold yM
 rw [List.length_take, List.length_drop]
 omega
def rSlT (K : PySem.W.Frag) : V -> Option Int -> Option Int -> Hp -> VK -> Prop := fun x lo hi H Q => ∃ a xs, x = .ref a /\ SqT K H a xs /\
 ¬ (HT.sIx xs.length 0 lo = 0 /\ HT.sIx xs.length xs.length hi = xs.length) /\ ∀ p, H p = none -> Q (.ref p) (upd H p (.tup (yM xs lo hi)))
theorem sl_tup : SlR X (rSlT X.K) := by
 intro pins s σ H x v vl vu lo hi sl Q I rx hs pl pu h
 obtain ⟨a, xs, rfl, hx, hw, q⟩ := h
 cases rx
 obtain ⟨its, r, ht, hz⟩ := I.tuple hx
 have hlen : its.toArray.size = xs.length := by rw [List.size_toArray]; exact r.length.symm
 refine ⟨"tuple", _, PyProof.Rows.slot_tuple_getitem.lookup, ht.typeIs, ?_⟩
 refine HT.getItem_tuple_cut ht hs pl pu (by rw [hlen]; exact hw) ?_ (by rw [hlen]; exact hz)
 rw [hlen]
 refine ⟨.ref s.heap.objs.size, _, I.laid (t' := s.toks) (o := .tup (yM xs lo hi)) (fun b ob q => Heap.get?_push_of_some _ q) (Nat.le_refl _) ?_, rfl, q _ (I.hok.fresh (Nat.le_refl _))⟩
 exact ⟨Nat.le_trans (xU xs lo hi) hz, _, (r.drop (HT.sIx xs.length 0 lo)).take (HT.sIx xs.length xs.length hi - HT.sIx xs.length 0 lo), IsTup.new _ _⟩
def rCatT (K : PySem.W.Frag) : R2 := fun x y H Q => ∃ a b xs ys, x = .ref a /\ y = .ref b /\ SqT K H a xs /\ SqT K H b ys /\ xs ≠ [] /\ xs.length + ys.length <= sizeLine /\
 (ys = [] -> Q (.ref a) H) /\ (ys ≠ [] -> ∀ p, H p = none -> Q (.ref p) (upd H p (.tup (xs ++ ys))))
theorem Vals.nil_iff {xs : List V} {us : List Value} (r : Vals xs us) : us = [] ↔ xs = [] := by
 cases r with
 | nil => simp
 | cons _ _ => simp
theorem op_catT : OpR X (binaryOp .Add) (rCatT X.K) := by
 intro pins s σ H x y v u Q I rx ry h
 obtain ⟨a, b, xs, ys, rfl, rfl, ha, hb, hx, hz, q1, q2⟩ := h
 cases rx
 cases ry
 obtain ⟨its, r1, p1, _⟩ := I.tuple ha
 obtain ⟨its2, r2, p2, _⟩ := I.tuple hb
 refine HT.cat_tup p1 p2 (fun z => hx (r1.nil_iff.mp z)) (fun z => ⟨.ref a, H, I, rfl, q1 (r2.nil_iff.mp z)⟩) (fun z => ?_) (by rw [← r1.length, ← r2.length]; exact hz)
 refine ⟨.ref s.heap.objs.size, _, I.laid (t' := s.toks) (o := .tup (xs ++ ys)) (fun b ob q => Heap.get?_push_of_some _ q) (Nat.le_refl _) ?_, rfl, q2 (fun w => z (r2.nil_iff.mpr w)) _ (I.hok.fresh (Nat.le_refl _))⟩
 exact ⟨by rw [List.length_append]; exact hz, _, r1.append r2, IsTup.new _ _⟩
end
def ixN (n : Nat) (i : Int) : Option Nat := if 0 <= i then (if i < n then some i.toNat else none) else if -(n : Int) <= i then some (i + n).toNat else none
def atI {α : Type} (xs : List α) (i : Int) : Option α := (ixN xs.length i).bind fun j => xs[j]?
theorem ixN_seq {n : Nat} {i : Int} {j : Nat} (h : ixN n i = some j) : seqIndex? i n = some j /\ j < n /\ -(n : Int) <= i /\ i < n := by
 unfold ixN at h
 by_cases h0 : 0 <= i
 · rw [if_pos h0] at h
   by_cases h1 : i < n
   · rw [if_pos h1] at h
     have e : i.toNat = j := Option.some.inj h
     exact ⟨by rw [seqIndex_of h0 h1, e], by omega, by omega, h1⟩
   · rw [if_neg h1] at h; cases h
 · rw [if_neg h0] at h
   by_cases h1 : -(n : Int) <= i
   · rw [if_pos h1] at h
     have e : (i + n).toNat = j := Option.some.inj h
     exact ⟨by rw [seqIndex_neg (by omega) h1, e], by omega, h1, by omega⟩
   · rw [if_neg h1] at h; cases h
theorem uE {α : Type} {xs : List α} {i : Int} {v : α} (h : atI xs i = some v) : ∃ j, seqIndex? i xs.length = some j /\ xs[j]? = some v /\ j < xs.length /\ -(xs.length : Int) <= i /\ i < xs.length := by
 unfold atI at h
 cases e : ixN xs.length i with
 | none => rw [e] at h; cases h
 | some j =>
   rw [e] at h
   obtain ⟨h1, h2, h3, h4⟩ := ixN_seq e
   exact ⟨j, h1, h, h2, h3, h4⟩
theorem yI {α : Type} {xs : List α} {j : Nat} {v : α} (h : xs[j]? = some v) : atI xs (j : Int) = some v := by
 have hj : j < xs.length := (List.getElem?_eq_some_iff.mp h).1
 have e : ixN xs.length (j : Int) = some j := by
   unfold ixN
   rw [if_pos (by omega), if_pos (by omega)]; simp
 unfold atI; rw [e]; exact h
theorem atI_last {α : Type} (xs : List α) (v : α) : atI (xs ++ [v]) (-1) = some v := by
 have hl : (xs ++ [v]).length = xs.length + 1 := by simp
 have e : ixN (xs ++ [v]).length (-1) = some xs.length := by
   unfold ixN
   rw [hl, if_neg (by decide), if_pos (by omega)]
   congr 1
   omega
 unfold atI
 rw [e]
 show (xs ++ [v])[xs.length]? = some v
 simp
def PlainIx (b : Expr) : Prop := ∀ o i, subscripted b false o i = operate [o, i] (getItem o i)
def IxR (X : Cx) (r : R2) : Prop :=
 ∀ (value slice : Expr) (pins : List (Addr × Obj)) (s : Shared) (σ : St) (H : Hp) (x y : V) (v u : Value) (Q : VK), Inv X pins σ H s -> RelV x v -> RelV y u -> r x y H Q ->
   subscripted slice false v u = operate [v, u] (getItem v u) -> wpAny (model X.prog X.w) X.A (subscriptTail value slice v u) (EP X pins σ Q) X.xe s
def MtR (X : Cx) (id : String) (r : V -> List V -> Hp -> VK -> Prop) : Prop :=
 ∀ (pins : List (Addr × Obj)) (s : Shared) (σ : St) (H : Hp) (x : V) (xs : List V) (v : Value) (us : List Value) (Q : VK), Inv X pins σ H s -> RelV x v -> Vals xs us -> r x xs H Q ->
   wpAny (model X.prog X.w) X.A (call (.builtin id) (v :: us)) (EP X pins σ Q) X.xe s
section
variable {X : Cx} {a b : Expr} {ta tb : TE} {pos : Pos}
theorem zZ {r : R2} (hr : IxR X r) (ha : PE X a ta) (hb : PE X b tb) (hs : PlainIx b) : PE X (.Subscript a b pos) (tOp r ta tb) := by
 intro pins s σ H Q I h
 exact Subscript_ (binT ha hb I h fun v u s2 x y H2 I2 rx ry q => hr a b pins s2 σ H2 x y v u Q I2 rx ry q (hs _ _))
def rIxL (K : PySem.W.Frag) : R2 := fun x y H Q => ∃ p xs i v, x = .ref p /\ y = .int i /\ SqL K H p xs /\ atI xs i = some v /\ Q v H
def rIxT (K : PySem.W.Frag) : R2 := fun x y H Q => ∃ p xs i v, x = .ref p /\ y = .int i /\ SqT K H p xs /\ atI xs i = some v /\ Q v H
def rIxS : R2 := fun x y H Q => ∃ z i c, x = .str z /\ y = .int i /\ z.length <= sizeLine /\ atI z.cps.toList i = some c /\ Q (.str ⟨#[c]⟩) H
theorem ix_list : IxR X (rIxL X.K) := by
 intro value slice pins s σ H x y v u Q I rx ry h hs
 obtain ⟨p, xs, i, z, rfl, rfl, hq, he, q⟩ := h
 cases rx
 obtain ⟨t, rfl⟩ := ry
 obtain ⟨its, r, pl, hz⟩ := I.list hq
 obtain ⟨j, h1, h2, h3, h4, h5⟩ := uE he
 obtain ⟨w, ew, rw'⟩ := r.get h2
 have hl := r.length
 have hn := line63
 have fin : EP X pins σ Q w s := ⟨z, H, I, rw', q⟩
 by_cases h0 : 0 <= i
 · have hj : i.toNat = j := by
     rw [seqIndex_of h0 h5] at h1
     exact Option.some.inj h1
   exact item_listR pl.isList h0 (by omega) (by rw [hj]; simpa using ew) fin hs
 · have hj : (i + (its.toArray.size : Int)).toNat = j := by
     rw [seqIndex_neg (by omega) h4] at h1
     rw [List.size_toArray, ← hl]
     exact Option.some.inj h1
   exact subscriptTail_builtinR (x := w) pl.isList.typeIs slot_list_getitem.lookup
     (wpAny_getItem_list_neg (Q := fun r s' => r = w /\ EP X pins σ Q r s') pl.isList (by omega) (by rw [List.size_toArray] <;> omega) (by omega) (by rw [hj]; simpa using ew) ⟨rfl, fin⟩) hs
theorem ix_tup : IxR X (rIxT X.K) := by
 intro value slice pins s σ H x y v u Q I rx ry h hs
 obtain ⟨p, xs, i, z, rfl, rfl, hq, he, q⟩ := h
 cases rx
 obtain ⟨t, rfl⟩ := ry
 obtain ⟨its, r, pl, hz⟩ := I.tuple hq
 obtain ⟨j, h1, h2, h3, h4, h5⟩ := uE he
 obtain ⟨w, ew, rw'⟩ := r.get h2
 have hl := r.length
 have hn := line63
 have fin : EP X pins σ Q w s := ⟨z, H, I, rw', q⟩
 exact subscriptTail_builtinR (x := w) pl.typeIs slot_tuple_getitem.lookup
   (getItem_tuple (j := j) (Q := fun r s' => r = w /\ EP X pins σ Q r s') pl (by omega) (by omega) (by rw [List.size_toArray, ← hl]; exact h1) (by simpa using ew) ⟨rfl, fin⟩) hs
theorem ix_str : IxR X rIxS := by
 intro value slice pins s σ H x y v u Q I rx ry h hs
 obtain ⟨z, i, c, rfl, rfl, hz, he, q⟩ := h
 obtain ⟨t, rfl⟩ := rx
 obtain ⟨t', rfl⟩ := ry
 obtain ⟨j, h1, h2, h3, h4, h5⟩ := uE he
 have hl : z.cps.toList.length = z.length := by simp [Str.length]
 rw [hl] at h1 h4 h5
 have hn := line63
 exact tail_any (typeIs_str s z t) slot_str_getitem.lookup (getItem_str (c := c) (by
   have e1 : decide (i < -(2 ^ 63 : Int)) = false := decide_eq_false (by omega)
   have e2 : decide (i ≥ 2 ^ 63) = false := decide_eq_false (by omega)
   rw [e1, e2, Bool.or_false]) (by rw [h1]; simpa using h2) ⟨.str ⟨#[c]⟩, H, I.tok _, ⟨_, rfl⟩, q⟩) hs
theorem qP (lo hi : Option Int) (n : Nat) : (sliceBounds lo hi none n).1 = ((HT.sIx n 0 lo : Nat) : Int) /\ (sliceBounds lo hi none n).2.1 = ((HT.sIx n n hi : Nat) : Int) /\ (sliceBounds lo hi none n).2.2 = 1 := by
 refine ⟨?_, ?_, rfl⟩
 · cases lo with
   | none => simp [sliceBounds, HT.sIx]
   | some i =>
     simp only [sliceBounds, HT.sIx, Option.getD_none, show (1 : Int) > 0 by decide, if_true]
     by_cases h : i < 0
     · simp only [h, if_true] <;> omega
     · simp only [h, if_false] <;> omega
 · cases hi with
   | none => simp [sliceBounds, HT.sIx]
   | some i =>
     simp only [sliceBounds, HT.sIx, Option.getD_none, show (1 : Int) > 0 by decide, if_true]
     by_cases h : i < 0
     · simp only [h, if_true] <;> omega
     · simp only [h, if_false] <;> omega
theorem jQ (its : List Value) (lo hi : Option Int) : slicePick its.toArray lo hi none = ((its.drop (HT.sIx its.length 0 lo)).take (HT.sIx its.length its.length hi - HT.sIx its.length 0 lo)).toArray := by
 obtain ⟨h1, h2, h3⟩ := qP lo hi its.toArray.size
 unfold slicePick
 rw [h1, h2, h3]
 simp only [sliceRange_one, pick_run, List.size_toArray] <;> rfl
def rSlL (K : PySem.W.Frag) : V -> Option Int -> Option Int -> Hp -> VK -> Prop := fun x lo hi H Q => ∃ a xs, x = .ref a /\ SqL K H a xs /\ ∀ p, H p = none -> Q (.ref p) (upd H p (.lst (yM xs lo hi)))
theorem sl_list : SlR X (rSlL X.K) := by
 intro pins s σ H x v vl vu lo hi sl Q I rx hs pl pu h
 obtain ⟨a, xs, rfl, hx, q⟩ := h
 cases rx
 obtain ⟨its, r, ht, hz⟩ := I.list hx
 have hlen := r.length
 refine ⟨"list", _, slot_list_getitem.lookup, ht.isList.typeIs, ?_⟩
 refine wpAny_getItem_list_slice ht.isList hs pl pu .none (by simp) ?_ (by rw [List.size_toArray] <;> omega)
 rw [jQ, ← hlen]
 refine ⟨.ref s.heap.objs.size, _, I.laid (t' := s.toks) (o := .lst (yM xs lo hi)) (fun b ob q => Heap.get?_push_of_some _ q) (Nat.le_refl _) ?_, rfl, q _ (I.hok.fresh (Nat.le_refl _))⟩
 exact ⟨Nat.le_trans (xU xs lo hi) hz, _, 0, (r.drop (HT.sIx xs.length 0 lo)).take (HT.sIx xs.length xs.length hi - HT.sIx xs.length 0 lo), Heap.get?_push_size _ rfl⟩
theorem call_list_of : xN X (.type "list") (fun xs H Q => ∃ p ys, xs = [.ref p] /\ (SqL X.K H p ys \/ SqT X.K H p ys) /\ ∀ l, H l = none -> Q (.ref l) (upd H l (.lst ys))) := by
 intro pins s σ H xs us Q I r h
 obtain ⟨p, ys, rfl, hq, q⟩ := h
 obtain ⟨u, rfl, rx⟩ := jC r
 cases rx
 have fin : ∀ (its : List Value), Vals ys its -> ys.length <= sizeLine -> ∀ (h' : Heap) (c' : Nat), (∀ b o', s.heap.get? b = some o' -> h'.get? b = some o') ->
     h'.get? s.heap.objs.size = some { cls := .type "list", dict := none, data := .seq its.toArray c', slots := #[] } -> EP X pins σ Q (.ref s.heap.objs.size) { s with heap := h' } := fun its r' hz h' c' kp e =>
   ⟨.ref s.heap.objs.size, _, I.laid (t' := s.toks) kp (Nat.le_refl _) (show ObjOk X.prog X.w _ h' _ (.lst ys) from ⟨hz, its, c', r', e⟩), rfl, q _ (I.hok.fresh (Nat.le_refl _))⟩
 rcases hq with hq | hq
 · obtain ⟨its, r', pl, hz⟩ := I.list hq
   have hlen := r'.length
   obtain ⟨o, ho, hc, n, hd⟩ := pl.isList
   exact call_list_seq p (.inl rfl) ho hc hd (fun h' c' kp e => fin its r' hz h' c' kp e) (by simp only [List.size_toArray] <;> omega)
 · obtain ⟨its, r', pl, hz⟩ := I.tuple hq
   have hlen := r'.length
   obtain ⟨o, ho, hc, n, hd⟩ := pl
   exact call_list_seq p (.inr rfl) ho hc hd (fun h' c' kp e => fin its r' hz h' c' kp e) (by simp only [List.size_toArray] <;> omega)
theorem call_tuple_of : xN X (.type "tuple") (fun xs H Q => ∃ p ys, xs = [.ref p] /\ ((SqL X.K H p ys /\ ∀ l, H l = none -> Q (.ref l) (upd H l (.tup ys))) \/ (SqT X.K H p ys /\ Q (.ref p) H))) := by
 intro pins s σ H xs us Q I r h
 obtain ⟨p, ys, rfl, h⟩ := h
 obtain ⟨u, rfl, rx⟩ := jC r
 cases rx
 rcases h with ⟨hq, q⟩ | ⟨hq, q⟩
 · obtain ⟨its, r', pl, hz⟩ := I.list hq
   have hlen := r'.length
   refine call_tuple_list pl.isList (fun h' kp => ?_) (by simp only [List.size_toArray] <;> omega)
   have I1 : Inv X pins σ H { s with heap := h' } := I.kept (t' := s.toks) kp
   have I2 : Inv X pins σ (upd H h'.objs.size (.tup ys)) { s with heap := h'.push { cls := .type "tuple", data := .seq its.toArray } } :=
     I1.laid (t' := s.toks) (fun b o e => Heap.get?_push_of_some _ e) (Nat.le_refl _) (show ObjOk X.prog X.w _ _ _ (.tup ys) from ⟨hz, its, r', IsTup.new _ _⟩)
   exact ⟨.ref h'.objs.size, _, I2, rfl, q _ (I1.hok.fresh (Nat.le_refl _))⟩
 · obtain ⟨its, r', pl, hz⟩ := I.tuple hq
   exact call_tuple_same pl ⟨.ref p, H, I, rfl, q⟩
def tyV (K : PySem.W.Frag) (T : String) (x : V) (H : Hp) : Prop := match x with
 | .str _ => T = "str"
 | .int _ => T = "int"
 | .ref p => (T = "list" /\ ∃ xs, SqL K H p xs) \/ (T = "tuple" /\ ∃ o, K.lookup p = some o /\ o.cls = .type "tuple" /\ o.dict = none) \/
     (T = "dict" /\ ((∃ kvs, H p = some (.dK kvs)) \/ ∃ kvs, H p = some (.dT kvs))) \/ (T = "set" /\ ∃ S n, H p = some (.set S n))
 | _ => False
theorem tyV_is {pins : List (Addr × Obj)} {σ : St} {H : Hp} {s : Shared} {T : String} {x : V} {v : Value} (I : Inv X pins σ H s) (r : RelV x v) (ty : tyV X.K T x H) :
   s.TypeIs v T /\ ∀ a, v = .ref a -> ∃ ob, s.heap.get? a = some ob /\ ob.dict = none := by
 cases x with
 | str z =>
   obtain ⟨t, rfl⟩ := r
   cases (show T = "str" from ty)
   exact ⟨typeIs_str s z t, fun _ e => nomatch e⟩
 | int i =>
   obtain ⟨t, rfl⟩ := r
   cases (show T = "int" from ty)
   exact ⟨typeIs_int s i t, fun _ e => nomatch e⟩
 | ref p =>
   cases r
   rcases ty with ⟨rfl, xs, hq⟩ | ⟨rfl, o, hk, hc, hd⟩ | ⟨rfl, hk⟩ | ⟨rfl, S, n, hk⟩
   · obtain ⟨its, _, pl, _⟩ := I.list hq
     refine ⟨pl.isList.typeIs, fun a e => ?_⟩
     cases e
     obtain ⟨o, n, e, c, hd, _⟩ := pl
     exact ⟨o, e, hd⟩
   · refine ⟨⟨o, I.kIn p o hk, hc⟩, fun a e => ?_⟩
     cases e
     exact ⟨o, I.kIn _ o hk, hd⟩
   · have z : ∃ o, s.heap.get? p = some o /\ o.ExactDict := by
       rcases hk with ⟨kvs, hk⟩ | ⟨kvs, hk⟩
       · obtain ⟨_, _, _, _, o, _, _, e, ex, _⟩ := I.hok p _ hk
         exact ⟨o, e, ex⟩
       · obtain ⟨_, _, _, _, o, _, _, e, ex, _⟩ := I.hok p _ hk
         exact ⟨o, e, ex⟩
     obtain ⟨o, e, ex⟩ := z
     refine ⟨⟨o, e, ex.1⟩, fun a e2 => ?_⟩
     cases e2
     exact ⟨o, e, ex.2.1⟩
   · obtain ⟨o, _, _, _, e, ex, _⟩ := I.hok p _ hk
     refine ⟨⟨o, e, ex.1⟩, fun a e2 => ?_⟩
     cases e2
     exact ⟨o, e, ex.2.1⟩
 | _ => exact False.elim ty
def tBM0 (K : PySem.W.Frag) (T : String) (r : V -> List V -> Hp -> VK -> Prop) (to : TE) : TE := fun σ H Q => to σ H fun x H1 => tyV K T x H1 /\ r x [] H1 Q
def tBM (K : PySem.W.Frag) (T : String) (r : V -> List V -> Hp -> VK -> Prop) (to : TE) (t : TA) : TE := fun σ H Q => to σ H fun x H1 => tyV K T x H1 /\ t σ H1 fun xs H2 => r x xs H2 Q
variable {o e : Expr} {es : List Expr} {to : TE} {t : TA} {name : Str} {apos cpos : Pos} {T id : String} {r : V -> List V -> Hp -> VK -> Prop}
theorem pe_bm0 (pa : PlainAttrs T) (slot : Slot T name id) (hty : typeOf (.builtin id) = pure (.type "method_descriptor")) (hm : MtR X id r) (ho : PE X o to)
   (hbase : attributeBase o name X.env (eval o X.env) = eval o X.env := by rfl) (hline : (apos.endLine == cpos.line) = true := by rfl) : PE X (.Call (.Attribute o name apos) [] [] cpos) (tBM0 X.K T r to) := by
 intro pins s σ H Q I h
 refine wpAny_Call_method0_late hbase hline (thn (ho pins s σ H _ I h) fun v s1 ⟨x, H1, I1, r1, ty, q1⟩ => ?_)
 obtain ⟨h1, h2⟩ := tyV_is I1 r1 ty
 exact ⟨T, id, pa, slot, hty, h1, h2, Calls.callWith_builtin rfl (PySem.evalArgs_none (hm pins s1 σ H1 x [] v [] Q I1 r1 .nil q1))⟩
theorem yJ (pa : PlainAttrs T) (slot : Slot T name id) (hty : typeOf (.builtin id) = pure (.type "method_descriptor")) (hm : MtR X id r) (ho : PE X o to) (ha : PA X (e :: es) t)
   (hbase : attributeBase o name X.env (eval o X.env) = eval o X.env := by rfl)
   (hfew : ((backTo cpos (starEach (e :: es) X.env)).all (fun x => !x.1) && (backToKw cpos (keywordEach [] X.env)).all (fun x => x.1.isSome)
     && decide ((e :: es).length + ([] : List Keyword).length + (if ([] : List Keyword).isEmpty then 0 else 1) < 30)) = true := by rfl)
   (hline : (apos.endLine == cpos.line) = true := by rfl) (hs : starEach (e :: es) X.env = (false, eval e X.env) :: starEach es X.env := by rfl) (hplain : (backTo cpos (starEach es X.env)).any (·.1) = false := by rfl) :
   PE X (.Call (.Attribute o name apos) (e :: es) [] cpos) (tBM X.K T r to t) := by
 intro pins s σ H Q I h
 refine wpAny_Call_method_late hbase hfew hline rfl (thn (ho pins s σ H _ I h) fun v s1 ⟨x, H1, I1, r1, ty, q1⟩ => ?_)
 obtain ⟨h1, h2⟩ := tyV_is I1 r1 ty
 refine ⟨T, id, pa, slot, hty, h1, h2, ?_⟩
 have hA := ha cpos pins s1 σ H1 _ I1 q1
 rw [hs] at hA ⊢
 refine Calls.callWith_builtin (by show (false || (backTo cpos (starEach es X.env)).any (·.1)) = false; rw [hplain] <;> rfl) (Calls.evalArgs_plain ?_)
 exact thn hA fun us s2 ⟨vs, H2, I2, r2, q2⟩ => hm pins s2 σ H2 x vs v us Q I2 r1 r2 q2
end
def MtM (X : Cx) (id : String) (r : V -> List V -> Hp -> VK -> Prop) : Prop :=
 ∀ (pins : List (Addr × Obj)) (s : Shared) (σ : St) (H : Hp) (x : V) (xs : List V) (v : Value) (us : List Value) (Q : VK), Inv X pins σ H s -> RelV x v -> Vals xs us -> r x xs H Q ->
   wpAny (model X.prog X.w) X.A (call (.builtin id) (v :: us)) (EP X pins σ Q) X.xe s
theorem Vals.one : ∀ {x : V} {us : List Value}, Vals [x] us -> ∃ u, us = [u] /\ RelV x u
 | _, _, .cons r .nil => ⟨_, rfl, r⟩
theorem Vals.zero : ∀ {us : List Value}, Vals [] us -> us = []
 | _, .nil => rfl
theorem Vals.dropLast {xs : List V} {us : List Value} (h : Vals xs us) : Vals xs.dropLast us.dropLast := by
 induction h with
 | nil => exact .nil
 | cons r t ih =>
   cases t with
   | nil => exact .nil
   | cons q t' => exact .cons r ih
theorem erase_last {α : Type} (l : List α) : l.eraseIdx (l.length - 1) = l.dropLast := by
 induction l with
 | nil => rfl
 | cons a r ih =>
   cases r with
   | nil => rfl
   | cons b r =>
     have e : (a :: b :: r).length - 1 = ((b :: r).length - 1) + 1 := by
       have h1 : (a :: b :: r).length = r.length + 2 := rfl
       have h2 : (b :: r).length = r.length + 1 := rfl
       omega
     rw [e, List.eraseIdx_cons_succ, ih]
     all_goals rfl
section
variable {X : Cx} {pins : List (Addr × Obj)} {σ : St} {H : Hp} {s : Shared} {l b : Addr} {xs ys zs : List V}
theorem Inv.lset {its its' : List Value} {n : Nat} {f : Array Value -> Array Value} {t' : Nat} (I : Inv X pins σ H s) (hH : H l = some (.lst xs))
   (e : s.heap.get? l = some { cls := .type "list", data := .seq its.toArray n }) (hf : f its.toArray = its'.toArray) (hv : Vals ys its') (hz : ys.length <= sizeLine) :
   Inv X pins σ (upd H l (.lst ys)) { s with heap := s.heap.update l (Obj.mapSeq f), toks := t' } := by
 have q := PySem.IsL.update e f
 rw [hf] at q
 refine I.write (x := l) (e := l) (by rw [hH]; exact trivial) (.inl rfl) (fun b' u hb hu => (Heap.get?_update_other s.heap (Obj.mapSeq f) (Ne.symm hb)).trans hu) ⟨_, q⟩ ?_
 exact ⟨hz, its', _, hv, q⟩
theorem Inv.lnew {its : List Value} {t' : Nat} (I : Inv X pins σ H s) (hv : Vals ys its) (hz : ys.length <= sizeLine) :
   Inv X pins σ (upd H s.heap.objs.size (.lst ys)) { s with heap := s.heap.push { cls := .type "list", data := .seq its.toArray }, toks := t' } :=
 I.laid (fun _ _ q => Heap.get?_push_of_some _ q) (Nat.le_refl _) ⟨hz, its, 0, hv, Heap.get?_push_size _ rfl⟩
theorem Inv.fresh (I : Inv X pins σ H s) : H s.heap.objs.size = none := I.hok.fresh (Nat.le_refl _)
theorem Inv.lstM (I : Inv X pins σ H s) (hH : H l = some (.lst xs)) : xs.length <= sizeLine /\ ∃ (its : List Value) (n : Nat), Vals xs its /\ xs.length = its.length /\ s.heap.get? l = some { cls := .type "list", data := .seq its.toArray n } := by
 obtain ⟨z, its, n, r, e⟩ := I.hok l _ hH
 exact ⟨z, its, n, r, r.length, e⟩
end
section
variable {X : Cx}
def rAppend : V -> List V -> Hp -> VK -> Prop := fun x vs H Q => ∃ l xs y, x = .ref l /\ vs = [y] /\ H l = some (.lst xs) /\ xs.length < sizeLine /\ Q .non (upd H l (.lst (xs ++ [y])))
theorem mt_append : MtM X "list.append" rAppend := by
 intro pins s σ H x vs v us Q I rx rv h
 obtain ⟨l, xs, y, rfl, rfl, hH, hz, q⟩ := h
 cases rx
 obtain ⟨u, rfl, ru⟩ := rv.one
 obtain ⟨z, its, n, r, hl, e⟩ := I.lstM hH
 refine call_meets F.slot_list_append ⟨_, e, rfl⟩ F.entry_list_append (F.args_list_append_2 _ _) (PySem.list_append l its.toArray n u (by rw [List.size_toArray]; omega)) ⟨e, ?_⟩
 refine ⟨.non, _, I.lset (its' := its ++ [u]) hH e (by simp) (r.append (.cons ru .nil)) ?_, rfl, q⟩
 rw [List.length_append, List.length_singleton]
 omega
def rPop : V -> List V -> Hp -> VK -> Prop := fun x vs H Q => ∃ l xs y, x = .ref l /\ vs = [] /\ H l = some (.lst xs) /\ xs[xs.length - 1]? = some y /\ Q y (upd H l (.lst xs.dropLast))
theorem mt_pop : MtM X "list.pop" rPop := by
 intro pins s σ H x vs v us Q I rx rv h
 obtain ⟨l, xs, y, rfl, rfl, hH, hy, q⟩ := h
 cases rx
 have hus := rv.zero
 subst hus
 obtain ⟨z, its, n, r, hl, e⟩ := I.lstM hH
 obtain ⟨u, hu, ru⟩ := r.get hy
 have hy' : its.toArray[its.toArray.size - 1]? = some u := by
   show its.toArray[its.length - 1]? = some u
   rw [← Array.getElem?_toList, ← hl]
   exact hu
 refine call_meets F.slot_list_pop ⟨_, e, rfl⟩ F.entry_list_pop (F.args_list_pop_1 _) (MeetsSeq.list_pop_last l its.toArray n u hy' (by rw [List.size_toArray]; omega)) ⟨e, ?_⟩
 refine ⟨y, _, I.lset (its' := its.dropLast) hH e ?_ r.dropLast ?_, ru, q⟩
 · show its.toArray.eraseIdxIfInBounds (its.toArray.size - 1) = its.dropLast.toArray
   rw [List.size_toArray, List.eraseIdxIfInBounds_toArray, erase_last]
 · rw [List.length_dropLast]
   omega
def rCat : R2 := fun x y H Q => ∃ l b xs zs, x = .ref l /\ y = .ref b /\ H l = some (.lst xs) /\ H b = some (.lst zs) /\ xs.length + zs.length <= sizeLine /\ ∀ p, H p = none -> Q (.ref p) (upd H p (.lst (xs ++ zs)))
theorem op_cat : OpR X (binaryOp .Add) rCat := by
 intro pins s σ H x y v u Q I rx ry h
 obtain ⟨l, b, xs, zs, rfl, rfl, hH, hB, hz, q⟩ := h
 cases rx
 cases ry
 obtain ⟨z, its, n, r, hl, e⟩ := I.lstM hH
 obtain ⟨z2, its2, n2, r2, hl2, e2⟩ := I.lstM hB
 refine PySem.P.add_list e e2 ?_ (by rw [List.size_toArray, List.size_toArray]; omega)
 have ea : its.toArray ++ its2.toArray = (its ++ its2).toArray := by simp
 rw [ea]
 exact ⟨.ref _, _, I.lnew (t' := s.toks) (r.append r2) (by rw [List.length_append]; omega), rfl, q _ I.fresh⟩
end
section
variable {prog : Program} {w : World} {A : Around} {E : Value -> Shared -> Prop} {s : Shared}
end
section
variable {X : Cx}
end
section
variable {κ : Type} [DecidableEq κ]
def yV (kvs : List (κ × V)) (k : κ) : Option V := (kvs.find? fun kv => decide (kv.1 = k)).map (·.2)
def putK (kvs : List (κ × V)) (k : κ) (v : V) : List (κ × V) :=
 if (kvs.any fun kv => decide (kv.1 = k)) = true then kvs.map (fun kv => if kv.1 = k then (kv.1, v) else kv) else kvs ++ [(k, v)]
theorem valV_pos {p : κ × V} {r : List (κ × V)} {k : κ} (e : p.1 = k) : yV (p :: r) k = some p.2 := by simp [yV, List.find?_cons, e]
theorem valV_neg {p : κ × V} {r : List (κ × V)} {k : κ} (e : ¬ p.1 = k) : yV (p :: r) k = yV r k := by simp [yV, List.find?_cons, e]
theorem RelO.getD {o : Option V} {u : Option Value} {d : V} {d' : Value} (r : RelO o u) (rd : RelV d d') : RelV (o.getD d) (u.getD d') := by
 cases o with
 | none => cases u with
   | none => exact rd
   | some _ => exact (show False from r).elim
 | some _ => cases u with
   | none => exact (show False from r).elim
   | some _ => exact r
theorem KV.val {kvs : List (κ × V)} {vs : List (κ × Value)} (r : KV kvs vs) (k : κ) : RelO (yV kvs k) (valueAt vs k) := by
 unfold KV at r
 induction r with
 | nil => exact True.intro
 | @cons p q ps qs h t ih =>
   obtain ⟨h1, h2⟩ := h
   by_cases e : p.1 = k
   · have e' : q.1 = k := h1.symm.trans e
     have b : valueAt (q :: qs) k = some q.2 := by simp [valueAt, List.find?_cons, e']
     rw [valV_pos e, b]; exact h2
   · have e' : ¬ q.1 = k := fun z => e (h1.trans z)
     have b : valueAt (q :: qs) k = valueAt qs k := by simp [valueAt, List.find?_cons, e']
     rw [valV_neg e, b]; exact ih
theorem KV.any {kvs : List (κ × V)} {vs : List (κ × Value)} (r : KV kvs vs) (k : κ) : (kvs.any fun kv => decide (kv.1 = k)) = vs.any fun kv => decide (kv.1 = k) := by
 unfold KV at r
 induction r with
 | nil => rfl
 | cons h t ih => rw [List.any_cons, List.any_cons, ih, h.1]
theorem KV.keys {kvs : List (κ × V)} {vs : List (κ × Value)} (r : KV kvs vs) : kvs.map (·.1) = vs.map (·.1) := by
 unfold KV at r
 induction r with
 | nil => rfl
 | cons h t ih => rw [List.map_cons, List.map_cons, ih, h.1]
theorem KV.length {kvs : List (κ × V)} {vs : List (κ × Value)} (r : KV kvs vs) : kvs.length = vs.length := Paired.length r
end
theorem kV_is {P : Program} {w : World} {k : Key} {u : Value} (r : RelV (kV k) u) : (zQ P w).is k u = true := by
 cases k with
 | inl i => obtain ⟨t, e⟩ := (show ∃ t, u = Value.int i t from r); subst e; exact mixKind_int P w i t
 | inr x => obtain ⟨t, e⟩ := (show ∃ t, u = Value.str x t from r); subst e; exact xT P w x t
theorem qF {P : Program} {w : World} : ∀ {ks : List Key} {us : List Value}, Vals (ks.map kV) us -> ItemsAre (zQ P w) ks us
 | [], _, r => by rw [List.map_nil] at r; cases r; exact .nil
 | k :: ks, _, r => by
   rw [List.map_cons] at r
   cases r with
   | cons h t => exact .cons (kV_is h) (qF t)
abbrev KT (H : Hp) : List (List Key × V) -> List (List Key × Addr × Value) -> Prop := Paired fun p q => p.1 = q.1 /\ H q.2.1 = some (.tup (p.1.map kV)) /\ RelV p.2 q.2.2
theorem KT.val {H : Hp} {kvs : List (List Key × V)} {xs : List (List Key × Addr × Value)} (r : KT H kvs xs) (k : List Key) : RelO (yV kvs k) ((atKey xs k).map (·.2)) := by
 induction r with
 | nil => exact True.intro
 | @cons p q ps qs h t ih =>
   obtain ⟨h1, _, h2⟩ := h
   by_cases e : p.1 = k
   · have e' : q.1 = k := h1.symm.trans e
     have b : atKey (q :: qs) k = some q.2 := by simp [atKey, List.find?_cons, e']
     rw [valV_pos e, b]; exact h2
   · have e' : ¬ q.1 = k := fun z => e (h1.trans z)
     have b : atKey (q :: qs) k = atKey qs k := by simp [atKey, List.find?_cons, e']
     rw [valV_neg e, b]; exact ih
theorem KT.keeps {H H' : Hp} {kvs : List (List Key × V)} {xs : List (List Key × Addr × Value)} (r : KT H kvs xs) (ht : ∀ b ys, H b = some (.tup ys) -> H' b = some (.tup ys)) : KT H' kvs xs :=
 Paired.mapP r fun _ _ z => ⟨z.1, ht _ _ z.2.1, z.2.2⟩
section
variable {P : Program} {w : World} {H : Hp} {h : Heap} {a : Addr}
theorem rd_of {u : HO} (ok : HOk P w H h) (e : Rd H a u) : ObjOk P w H h a u := e.ok ok
theorem dk_rd {kvs : List (Key × V)} (ok : HOk P w H h) (e : Rd H a (.dK kvs)) : kvs.length <= sizeLine /\ (a == sysModules) = false /\ ∃ vs, KV kvs vs /\ h.DictOf (zQ P w) a vs :=
 show ObjOk P w H h a (.dK kvs) from rd_of ok e
theorem key_of {ks : List Key} (ok : HOk P w H h) (e : H a = some (.tup (ks.map kV))) : (tupleKind (zQ P w)).is h ks a := by
 obtain ⟨_, its, r, o, h1, h2, n, h3⟩ := (show ObjOk P w H h a (.tup (ks.map kV)) from ok a _ e)
 exact ⟨o, its.toArray, n, h1, h2, h3, by simpa using qF r⟩
theorem dt_rd {kvs : List (List Key × V)} (ok : HOk P w H h) (e : Rd H a (.dT kvs)) : kvs.length <= sizeLine /\ (a == sysModules) = false /\
   ∃ xs, KT H kvs xs /\ h.DictOfH (tupleKind (zQ P w)) a xs := by
 obtain ⟨z, y, xs, r, o, es, ep, h1, h2, h3, h4, h5⟩ := (show ObjOk P w H h a (.dT kvs) from rd_of ok e)
 refine ⟨z, y, xs, r, o, es, ep, h1, h2, h3, h4, fun x hx => ?_, h5⟩
 have all : ∀ {l : List (List Key × V)} {m : List (List Key × Addr × Value)}, KT H l m -> ∀ x ∈ m, (tupleKind (zQ P w)).is h x.1 x.2.1 := by
   intro l m q
   induction q with
   | nil => intro x hx; exact nomatch hx
   | @cons p q ps qs hq t ih =>
     intro x hx
     rcases List.mem_cons.mp hx with e | hx
     · subst e
       exact key_of ok (by rw [← hq.1]; exact hq.2.1)
     · exact ih x hx
 exact all r x hx
theorem dt_of {kvs : List (List Key × V)} (ok : HOk P w H h) (e : H a = some (.dT kvs)) : kvs.length <= sizeLine /\ (a == sysModules) = false /\
   ∃ xs, KT H kvs xs /\ h.DictOfH (tupleKind (zQ P w)) a xs := dt_rd ok (.inl e)
end
def DGet (H : Hp) (a : Addr) (y : V) (r : Option V) : Prop :=
 (∃ kvs k, Rd H a (.dK kvs) /\ y = kV k /\ r = yV kvs k) \/ ∃ kvs k b, Rd H a (.dT kvs) /\ y = .ref b /\ H b = some (.tup (k.map kV)) /\ r = yV kvs k
def DPut (H : Hp) (a : Addr) (y v : V) (H' : Hp) : Prop :=
 (∃ kvs k, H a = some (.dK kvs) /\ y = kV k /\ kvs.length < sizeLine /\ H' = upd H a (.dK (putK kvs k v))) \/
 ∃ kvs k b, H a = some (.dT kvs) /\ y = .ref b /\ H b = some (.tup (k.map kV)) /\ kvs.length < sizeLine /\ H' = upd H a (.dT (putK kvs k v))
theorem DGet.k {H : Hp} {a : Addr} {kvs : List (Key × V)} {k : Key} (e : H a = some (.dK kvs)) : DGet H a (kV k) (yV kvs k) := .inl ⟨kvs, k, .inl e, rfl, rfl⟩
theorem DGet.t {H : Hp} {a b : Addr} {kvs : List (List Key × V)} {k : List Key} (e : H a = some (.dT kvs)) (eb : H b = some (.tup (k.map kV))) : DGet H a (.ref b) (yV kvs k) := .inr ⟨kvs, k, b, .inl e, rfl, eb, rfl⟩
theorem DPut.k {H : Hp} {a : Addr} {kvs : List (Key × V)} {k : Key} {v : V} (e : H a = some (.dK kvs)) (hl : kvs.length < sizeLine) : DPut H a (kV k) v (upd H a (.dK (putK kvs k v))) := .inl ⟨kvs, k, e, rfl, hl, rfl⟩
theorem DPut.t {H : Hp} {a b : Addr} {kvs : List (List Key × V)} {k : List Key} {v : V} (e : H a = some (.dT kvs)) (eb : H b = some (.tup (k.map kV))) (hl : kvs.length < sizeLine) :
   DPut H a (.ref b) v (upd H a (.dT (putK kvs k v))) := .inr ⟨kvs, k, b, e, rfl, eb, hl, rfl⟩
section
variable {X : Cx} {pins : List (Addr × Obj)} {σ : St} {H : Hp} {s : Shared} {a : Addr} {y v : V} {u r : Value} {o : Option V} {A : Around} {E : Value -> Shared -> Prop}
theorem Inv.big (I : Inv X pins σ H s) : sysModules < s.heap.objs.size := by
 have h : mainGlobals < s.heap.objs.size := (I.mod.glob.keeps I.bk).lt
 exact Nat.lt_trans (by decide) h
end
section
variable {X : Cx} {pins : List (Addr × Obj)} {σ : St} {H : Hp} {s : Shared} {a : Addr} {kvs : List (Key × V)} {k : Key} {u : Value} {A : Around} {E : Value -> Shared -> Prop}
end
def tDGet (td ty : TE) : TE := fun σ H Q => td σ H fun x H1 => ty σ H1 fun y H2 => ∃ a v, x = .ref a /\ DGet H2 a y (some v) /\ Q v H2
section
variable {X : Cx} {o i e value : Expr} {pos pos' tpos : Pos} {td ty tv : TE}
end
def tDNewK : TE := fun _ H Q => ∀ p, H p = none -> Q (.ref p) (upd H p (.dK []))
section
variable {X : Cx} {pos : Pos}
end
def tPairs : List (TE × TE) -> St -> Hp -> (List (V × V) -> Hp -> Prop) -> Prop
 | [], _, H, Q => Q [] H
 | (tk, tv) :: r, σ, H, Q => tk σ H fun x H1 => tv σ H1 fun y H2 => tPairs r σ H2 fun ps H3 => Q ((x, y) :: ps) H3
abbrev VV : List (V × V) -> List (Value × Value) -> Prop := Paired fun p q => RelV p.1 q.1 /\ RelV p.2 q.2
def PPs (X : Cx) (pos : Pos) (keys : List (Option Expr)) (values : List Expr) (trs : List (TE × TE)) : Prop :=
 ∀ (pins : List (Addr × Obj)) (s : Shared) (σ : St) (H : Hp) (Q : List (V × V) -> Hp -> Prop), Inv X pins σ H s -> tPairs trs σ H Q ->
   wpAny (model X.prog X.w) X.A (evalPairs (pairTrees keys values X.env pos)) (fun vs s' => ∃ ps H', Inv X pins σ H' s' /\ VV ps vs /\ Q ps H') X.xe s
def mergeK (kvs more : List (Key × V)) : List (Key × V) := more.foldl (fun acc kv => putK acc kv.1 kv.2) kvs
def tDisp (trs : List (TE × TE)) : TE := fun σ H Q => ∀ p, H p = none -> tPairs trs σ (upd H p (.dK [])) fun ps H2 => H2 p = some (.dK []) /\ ∃ kvs : List (Key × V), ps = kvs.map (fun kv => (kV kv.1, kv.2)) /\ kvs.length <= 15 /\ Q (.ref p) (upd H2 p (.dK (mergeK [] kvs)))
structure M1 (X : Cx) (o : Expr) (m : Str) (apos : Pos) (e : Expr) (cpos : Pos) : Prop where
 base : attributeBase o m X.env (eval o X.env) = eval o X.env
 few : ((backTo cpos (starEach [e] X.env)).all (fun x => !x.1) && (backToKw cpos (keywordEach [] X.env)).all (fun x => x.1.isSome)
   && decide (([e] : List Expr).length + ([] : List Keyword).length + (if ([] : List Keyword).isEmpty then 0 else 1) < 30)) = true
 line : (apos.endLine == cpos.line) = true
 trees : backTo cpos (starEach [e] X.env) = [(false, eval e X.env)]
structure M2 (X : Cx) (o : Expr) (m : Str) (apos : Pos) (e f : Expr) (cpos : Pos) : Prop where
 base : attributeBase o m X.env (eval o X.env) = eval o X.env
 few : ((backTo cpos (starEach [e, f] X.env)).all (fun x => !x.1) && (backToKw cpos (keywordEach [] X.env)).all (fun x => x.1.isSome)
   && decide (([e, f] : List Expr).length + ([] : List Keyword).length + (if ([] : List Keyword).isEmpty then 0 else 1) < 30)) = true
 line : (apos.endLine == cpos.line) = true
 trees : backTo cpos (starEach [e, f] X.env) = [(false, eval e X.env), (false, eval f X.env)]
def IsD (H : Hp) (a : Addr) : Prop := (∃ kvs, Rd H a (.dK kvs)) \/ ∃ kvs, Rd H a (.dT kvs)
theorem isD_at {X : Cx} {pins : List (Addr × Obj)} {σ : St} {H : Hp} {s : Shared} {a : Addr} (I : Inv X pins σ H s) (d : IsD H a) :
   s.TypeIs (.ref a) "dict" /\ (∀ b, Value.ref a = .ref b -> ∃ ob, s.heap.get? b = some ob /\ ob.dict = none) /\ (a == sysModules) = false := by
 rcases d with ⟨kvs, e⟩ | ⟨kvs, e⟩
 · obtain ⟨_, hd, vs, _, dd⟩ := dk_rd I.hok e
   refine ⟨dd.typeIs, fun b q => ?_, hd⟩
   cases q
   obtain ⟨ob, _, _, h1, h2, _⟩ := dd
   exact ⟨ob, h1, h2.2.1⟩
 · obtain ⟨_, hd, xs, _, dd⟩ := dt_rd I.hok e
   refine ⟨dd.typeIs, fun b q => ?_, hd⟩
   cases q
   obtain ⟨ob, _, _, h1, h2, _⟩ := dd
   exact ⟨ob, h1, h2.2.1⟩
section
variable {X : Cx} {pins : List (Addr × Obj)} {σ : St} {H : Hp} {s : Shared} {a : Addr} {y d : V} {u r : Value} {o : Option V} {A : Around} {E : Value -> Shared -> Prop}
end
section
variable {X : Cx} {o e f : Expr} {apos cpos : Pos} {td ty tx : TE}
end
section
variable {X : Cx} {pins : List (Addr × Obj)} {σ : St} {H : Hp} {s : Shared} {a : Addr} {kvs : List (Key × V)} {A : Around} {E : Value -> Shared -> Prop}
end
section
variable {X : Cx} {pins : List (Addr × Obj)} {σ : St} {H : Hp} {s : Shared} {a : Addr} {y : V} {u : Value} {A : Around} {E : Value -> Shared -> Prop}
end
end L2
namespace Att
open PySem PySem.W PySem.Calls PyProof.Rows
theorem xX {P : Params} {h : Heap} : ∀ (ns : List Int) (vs : List Value), WellAll P h vs (ns.map WData.int) -> IntsAre vs ns := by
 intro ns
 induction ns with
 | nil =>
   intro vs w
   rw [List.map_nil] at w
   cases w
   exact .nil
 | cons n ns ih =>
   intro vs w
   rw [List.map_cons] at w
   cases w with
   | cons a b =>
     cases a
     exact .cons _ _ (ih _ b)
theorem script_of {l : OpenLaw} {n : Nat} (hn : l.most = some n) {P : Params} {h : Heap} {args : List WData} {vals : List Value}
   (hpre : l.row.toRowW.claim.pre args = true) (hwl : WellAll P h vals args) :
   ∃ a vs ns, vals = [Value.ref a] /\ args = [WData.list (ns.map WData.int)] /\ h.get? a = some { cls := .type "list", data := .seq vs.toArray } /\ IntsAre vs ns /\ ns.length <= n := by
 have hsh : WShape.hasAll [] args [.list .int] = true := (pre_splitW hpre).1
 have hc : l.pre.holds [] { args := args } = true := (pre_splitW hpre).2
 obtain ⟨d, r, rfl, h1, h2⟩ := hasAllW_cons hsh
 obtain rfl := hasAllW_nil h2
 obtain ⟨xs, rfl, h3⟩ := hasW_list h1
 obtain ⟨ns, rfl⟩ := items_int h3
 have hlen : ns.length <= n := by
   unfold OpenLaw.pre at hc
   have h4 : (WTm.not (.lt (.lit (.int (n : Int))) (.len (.arg 0)))).holds [] { args := [.list (ns.map .int)] } = true := by
     have h4 := (holds_andW hc).1
     rw [hn] at h4
     exact h4
   have h5 := condW_of h4 (w_not (w_lt w_lit (w_len_list (w_arg rfl))))
   rw [List.length_map] at h5
   refine Nat.le_of_not_lt fun q => ?_
   have q' : (n : Int) < ((ns.length : Nat) : Int) := by omega
   first
     | (rw [decide_eq_true q'] at h5; exact absurd h5 (by decide))
     | (simp at h5; omega)
 cases hwl with
 | cons w1 w2 =>
   cases w2
   cases w1 with
   | list ho hall => exact ⟨_, _, ns, rfl, rfl, ho, xX ns _ hall, hlen⟩
theorem post_true (l : OpenLaw) (args : List WData) : l.row.toRowW.claim.post args (.bool true) args = true :=
 postW_of (r := l.row.toRowW) (X := (true == true))
   (show WShape.has [] (.bool true) .bool = true by first | rfl | decide | simp [WShape.has, WShape.arms, WShape.armsAll])
   (show (WTm.eq .res (.lit (.bool true))).value [] { args := args, res := some (.bool true), after := args } = some (.bool (true == true)) from w_eq_bool (w_res rfl) w_lit) rfl
theorem attach_call {l : OpenLaw} {n : Nat} {q : Program} {loose : List Str} {XP : (Str -> Option Value) -> Heap -> Prop} {YP : World -> Heap -> Prop} {d : DefRec}
   (hn : l.most = some n) (hdf : d.params.defaults = [])
   (call : ∀ (w : World) (s₀ s₁ : Shared) (mg mb : Str -> Option Value) (fa : Addr) (o : Obj) (pm cd doc : Value) (a : Addr) (vs : List Value) (ns : List Int),
     Ground q loose [] XP w s₀ mg mb s₁.heap -> YP w s₁.heap ->
     s₁.heap.get? fa = some o -> o.data = .func (docDef d.name d.params d.body d.scope pm cd doc) -> s₁.heap.CodeRec cd d.name -> mg d.name = some (.ref fa) ->
     s₁.heap.get? a = some { cls := .type "list", data := .seq vs.toArray } -> IntsAre vs ns -> ns.length <= n -> s₁.gens = #[] ->
     codeAny (model l.prog w) callerA (.call (.ref fa) ⟨[.ref a], []⟩) (fun r s' => r = .ok (.ret (.bool true)) /\ OldK s₁.heap s'.heap /\ s'.os = s₁.os /\ AllBare s'.gens) s₁) :
   WalkO q loose XP YP l.row.toRowW d [] (fun f vs => PySem.call f vs) := by
 intro w s₀ s₁ mg mb G Y fa o pm cd doc dV kV ho hd hcd hD hmg hg args vals as hpre hlay hrd hwl hlo
 obtain rfl : dV = .none := Dflts.none hD hdf
 obtain rfl : kV = .none := Dflts.noKw hD
 obtain ⟨a, vs, ns, rfl, rfl, hobj, hints, hlen⟩ := script_of hn hpre hwl
 refine enter_call (codeAny_mono (call w s₀ s₁ mg mb fa o pm cd doc a vs ns G Y ho (fd_plain hd) hcd hmg hobj hints hlen hg) fun r s' hq => ?_)
 obtain ⟨rfl, h2, h3, h4⟩ := hq
 exact ⟨.inl ⟨.bool true, .bool true, [], rfl, fun _ => rfl, .bool true, post_true l _, fun _ => ⟨List.Pairwise.nil, fun _ hm => (nomatch hm)⟩⟩, h2, h3, h4⟩
section
variable {prog : Program} {w : World} {A : Around} {E : Value -> Shared -> Prop} {s : Shared} {K : Frag}
end
end Att
namespace L2
open PySem PySem.Spec PyProof.Rows
theorem vals_ints : ∀ {vs : List Value} {ns : List Int}, IntsAre vs ns -> Vals (ns.map V.int) vs
 | _, _, .nil => .nil
 | _, _, .cons n t h => .cons ⟨t, rfl⟩ (vals_ints h)
def Only (H : Hp) : Prop := ∀ b, H b = none \/ ∃ o xs, H b = some (.frz o (.lst xs))
theorem law_call {P : Program} {w : World} {K : PySem.W.Frag} {mg mb : Str -> Option Value} {CX : CXT} {k : Nat} {fa a : Addr} {fd : FuncData} {x : Str} {sp : Sp} {s₁ : Shared} {vs : List Value} {ns : List Int}
   (KX : K.In s₁.heap) (hns : s₁.heap.Ns mainGlobals mg) (hb : s₁.heap.Ns builtinsNs mb) (hbb : ∀ x : Str, x ≠ "__name__" -> mb x = bootBuiltins x) (hlim : s₁.heap.NoLimit) (hg : s₁.gens = #[])
   (ha : s₁.heap.get? a = some { cls := .type "list", data := .seq vs.toArray }) (hi : IntsAre vs ns) (hl : ns.length <= sizeLine) (hr : Room k callerA)
   (F : ∀ base : Heap, K.In base -> base.Ns mainGlobals mg -> FnOk P w K mg base CX k fa fd [x] sp) (hbind : ∀ (s : Shared) (u : Value), BindsTo s fd ⟨[u], []⟩ [(x, u)])
   (hsp : ∀ H : Hp, Only H -> SqL K H a (ns.map V.int) -> sp [.ref a] H (fun v _ => v = .bl true) fun _ _ _ => False)
   (hCX : ∀ H e s', CX [] H s₁ (fun _ _ _ => False) e s' -> False) :
   codeAny (model P w) callerA (.call (.ref fa) ⟨[.ref a], []⟩) (fun r s' => r = .ok (.ret (.bool true)) /\ OldK s₁.heap s'.heap /\ s'.os = s₁.os /\ AllBare s'.gens) s₁ := by
 have rv := vals_ints hi
 have lenV := hi.length
 have core : ∀ H : Hp, Only H -> SqL K H a (ns.map V.int) -> HOk P w H s₁.heap -> (∀ b, H b ≠ none -> b = a) -> (H a ≠ none -> K.lookup a = none) ->
     codeAny (model P w) callerA (.call (.ref fa) ⟨[.ref a], []⟩) (fun r s' => r = .ok (.ret (.bool true)) /\ OldK s₁.heap s'.heap /\ s'.os = s₁.os /\ AllBare s'.gens) s₁ := by
   intro H hO hS hok hA hK
   have base_of : ∀ {b : Addr} {o : Obj}, s₁.heap.get? b = some o -> H b = none -> (qY s₁.heap H).get? b = some o := fun e n => hidT_get e n
   have noA : ∀ {b : Addr} {o : Obj} {es : Array DictEntry} {ep : Nat}, s₁.heap.get? b = some o -> o.data = .dict es ep -> H b = none := fun {b o es ep} e d => by
     cases q : H b with
     | none => rfl
     | some u =>
       have e' : b = a := hA b (by rw [q]; simp)
       subst e'
       rw [ha] at e; cases e
       have d' : Data.seq vs.toArray _ = Data.dict es ep := d
       cases d'
   have nsK : ∀ {b : Addr} {m : Str -> Option Value}, s₁.heap.Ns b m -> (qY s₁.heap H).Ns b m := fun {b m} ⟨o, es, ep, e, d, r⟩ => ⟨o, es, ep, base_of e (noA e d), d, r⟩
   have hKb : K.In (qY s₁.heap H) := fun b o e => base_of (KX b o e) (by
     cases q : H b with
     | none => rfl
     | some u =>
       have e' : b = a := hA b (by rw [q]; simp)
       subst e'
       rw [hK (by rw [q]; simp)] at e; cases e)
   have hM : Mod K mg (qY s₁.heap H) := ⟨hKb, nsK hns, ⟨mb, nsK hb, hbb⟩, let ⟨mc, h1, h2⟩ := hlim; ⟨mc, nsK h1, h2⟩⟩
   have e0 : Env0 P w K mg (qY s₁.heap H) callerA [] s₁ H := ⟨rfl, hM, fun b o e => of_hidT e, Nat.le_of_eq (hidT_size _ _), trivial, fun b hb => absurd (show b ∈ ([] : List Addr) from hb) (by simp), hok, .of_eq hg⟩
   refine codeAny_mono ((F _ hKb (nsK hns)).run callerA [] s₁ H ⟨[.ref a], []⟩ [.ref a] [.ref a] _ _ hr e0 (hbind s₁ (.ref a)) (.cons rfl .nil) (hsp H hO hS)) fun r s' h => ?_
   cases r with
   | error e => exact (hCX H e s' h).elim
   | ok fl =>
     cases fl with
     | next => exact False.elim h
     | brk => exact False.elim h
     | cont => exact False.elim h
     | ret u =>
       obtain ⟨v, H', os, bare, un, hok', r', q⟩ := h
       have q' : v = .bl true := q
       subst q'
       obtain rfl : u = Value.bool true := r'
       refine ⟨rfl, OldK.of_keep fun b o e => ?_, os, bare⟩
       cases q : H b with
       | none => exact un.keep b o e q (by intro z; exact absurd (show b ∈ ([] : List Addr) from z) (by simp)) (by simp)
       | some u =>
         rcases hO b with z | ⟨ob, xs, z⟩
         · rw [q] at z; cases z
         · have z2 := un.frzs b ob _ z
           obtain ⟨e1, _⟩ := hok b _ z
           obtain ⟨e2, _⟩ := hok' b _ z2
           rw [e] at e1; cases e1
           exact e2
 cases hk : K.lookup a with
 | some o =>
   have e := KX a o hk
   rw [ha] at e
   cases e
   refine core (fun _ => none) (fun _ => .inl rfl) (.inr ⟨_, vs.toArray, _, hk, rfl, rfl, rfl, by rw [List.size_toArray, lenV]; exact hl, by simpa using rv⟩) (fun b u z => by have z' : (none : Option HO) = some u := z; cases z') (fun b z => absurd rfl z) fun z => absurd rfl z
 | none =>
   refine core (fun b => if b = a then some (.frz { cls := .type "list", data := .seq vs.toArray } (.lst (ns.map V.int))) else none) (fun b => ?_) (.inl (.inr ⟨{ cls := .type "list", data := .seq vs.toArray }, if_pos rfl⟩)) (fun b u z => ?_) (fun b z => ?_) fun _ => hk
   · by_cases hb : b = a
     · exact .inr ⟨_, _, if_pos hb⟩
     · exact .inl (if_neg hb)
   · by_cases hb : b = a
     · have z' := (if_pos hb).symm.trans z
       cases z'
       subst hb
       exact ⟨ha, by rw [List.length_map]; exact hl, vs, _, rv, ha⟩
     · have z' := (if_neg hb).symm.trans z
       cases z'
   · by_cases hb : b = a
     · exact hb
     · exact absurd (if_neg hb) z
theorem walk_of {l : PySem.W.OpenLaw} {n k : Nat} {q : Program} {loose : List Str} {XP : (Str -> Option Value) -> Heap -> Prop} {YP : World -> Heap -> Prop} {d : DefRec} {K : Params -> PySem.W.Frag} {CX : World -> CXT} {sp : World -> Sp} {x : Str}
   (hn : l.most = some n) (hn2 : n <= sizeLine) (hdf : d.params.defaults = []) (hr : Room k callerA)
   (hY : ∀ (w : World) (h : Heap), YP w h -> (K w.params).In h)
   (F : ∀ (w : World) (mg : Str -> Option Value) (fa : Addr) (h : Heap), (K w.params).In h -> h.Ns mainGlobals mg -> mg d.name = some (.ref fa) ->
     ∃ fd : FuncData, (∀ (s : Shared) (u : Value), BindsTo s fd ⟨[u], []⟩ [(x, u)]) /\
       ∀ base : Heap, (K w.params).In base -> base.Ns mainGlobals mg -> FnOk l.prog w (K w.params) mg base (CX w) k fa fd [x] (sp w))
   (hsp : ∀ (w : World) (H : Hp) (a : Addr) (ns : List Int), ns.length <= n -> Only H -> SqL (K w.params) H a (ns.map V.int) -> sp w [.ref a] H (fun v _ => v = .bl true) fun _ _ _ => False)
   (hCX : ∀ (w : World) (H : Hp) (s : Shared) (e : Value) (s' : Shared), CX w [] H s (fun _ _ _ => False) e s' -> False) :
   PySem.W.WalkO q loose XP YP l.row.toRowW d [] (fun f vs => PySem.call f vs) := by
 refine Att.attach_call hn hdf fun w s₀ s₁ mg mb fa o pm cd doc a vs ns G Y ho hd hcd hmg hobj hints hlen hg => ?_
 have KX := hY w _ Y
 obtain ⟨fd, hb, hF⟩ := F w mg fa _ KX G.T.g hmg
 exact law_call KX G.T.g G.T.b G.T.builtins G.T.nolimit hg hobj hints (Nat.le_trans hlen hn2) hr hF hb (fun H hO hS => hsp w H a ns hlen hO hS) fun H e s' => hCX w H s₁ e s'
def zW (s : Stmt) : Arguments := match s with
 | .FunctionDef _ a _ _ _ _ _ _ _ _ => a
 | _ => { posonlyargs := [], args := [], vararg := none, kwonlyargs := [], kw_defaults := [], kwarg := none, defaults := [] }
def zT (s : Stmt) : List Stmt := match s with
 | .FunctionDef _ _ b _ _ _ _ _ _ _ => b
 | _ => []
def zI (s : Stmt) : Scope := match s with
 | .FunctionDef _ _ _ _ _ _ sc _ _ _ => sc
 | _ => { kind := .function, names := [], isGenerator := false, isCoroutine := false }
abbrev CX0 : CXT := fun _ _ _ _ _ _ => False
abbrev E0 : XK := fun _ _ _ => False
theorem pass0 {X : Cx} : Passes CX0 X E0 := fun _ _ _ _ _ _ _ h => h.elim
structure Fun (K : PySem.W.Frag) (x qual : Str) (st : Stmt) (f : Addr) (fd : FuncData) : Prop where
 ex : ∃ (oc : Value) (od : Option Addr) (kV doc pm : Value) (an : Option Addr) (cdv ct : Value) (osl : Array (Option Value)),
   fd = PySem.W.fnOf x qual (zW st) (zT st) (zI st) .none kV doc pm an cdv ct /\ K.lookup f = some ⟨oc, od, .func fd, osl⟩ /\ PySem.W.codeIn K cdv qual = true
 kp : PySem.W.keepIn K (.ref f) = true
section
variable {P : Program} {w : World} {K : PySem.W.Frag} {mg : Str -> Option Value} {base : Heap}
theorem Fun.ok {x qual : Str} {st : Stmt} {f : Addr} {fd : FuncData} {N ps : List Str} {k : Nat} {sp : Sp} (F : Fun K x qual st f fd) (S : FnScope N ps (zI st)) (len : ∀ vs H Q E, sp vs H Q E -> vs.length = ps.length)
   (hbody : ∀ (cdv : Value) (A : Around) (outer : List Env) (s : Shared) (H : Hp) (vs : List V) (Q : VK) (E : XK), Room k (A.deeper (envOfC qual (zI st) s.heap.objs.size f cdv)) -> sp vs H Q E ->
     ∃ t, PSs (jR CX0 P w K mg base N qual (zI st) f cdv A outer s H E).nox (zT st) t /\ t { nx := fun _ H' => Q .non H', rt := Q } (start N vs) H) : FnOk P w K mg base CX0 (k + 1) f fd ps sp := by
 obtain ⟨oc, od, kV, doc, pm, an, cdv, ct, osl, rfl, lk, hcd⟩ := F.ex
 refine fn_of lk hcd S len fun A outer s H vs Q E hr hsp => ?_
 obtain ⟨t, h, q⟩ := hbody cdv A outer s H vs Q E hr hsp
 exact ⟨t, h.nox, q⟩
theorem Fun.binds {x qual : Str} {st : Stmt} {f : Addr} {fd : FuncData} {ps : List Str} (F : Fun K x qual st f fd)
   (h : ∀ (kV doc pm : Value) (an : Option Addr) (cdv ct : Value) (us : List Value), us.length = ps.length -> bindArgs (PySem.W.fnOf x qual (zW st) (zT st) (zI st) .none kV doc pm an cdv ct) ⟨us, []⟩ = pure (ps.zip us)) : Binds K fd ps [] := by
 obtain ⟨oc, od, kV, doc, pm, an, cdv, ct, osl, rfl, lk, hcd⟩ := F.ex
 exact .all (h kV doc pm an cdv ct)
theorem yK {x qual : Str} {st : Stmt} {f : Addr} {oc : Value} {od an : Option Addr} {osl : Array (Option Value)} {kV doc pm cdv ct : Value} (l : K.lookup f = some ⟨oc, od, .func (PySem.W.fnOf x qual (zW st) (zT st) (zI st) .none kV doc pm an cdv ct), osl⟩)
   (c : PySem.W.codeIn K cdv qual = true) (k : PySem.W.keepIn K (.ref f) = true) : Fun K x qual st f (PySem.W.fnOf x qual (zW st) (zT st) (zI st) .none kV doc pm an cdv ct) := ⟨⟨oc, od, kV, doc, pm, an, cdv, ct, osl, rfl, l, c⟩, k⟩
end
theorem hu_of {A : Around} {k : Nat} (hr : Room k A) : A.units + 1 < cLine := Nat.lt_of_le_of_lt (Nat.add_le_add_left (by decide : 1 <= 64) _) hr.units
theorem zR {n : Nat} (h : n <= 1000) : n < sizeLine := Nat.lt_of_le_of_lt h (by decide)
section
variable {X : Cx}
theorem pv (i : Nat) {x : Str} {pos : Pos} (hN : X.N[i]? = some x := by rfl) (hv : Vis X.env.scope x := by first | exact Or.inl rfl | exact Or.inr (Or.inl rfl) | exact Or.inr (Or.inr rfl)) (hd : (x == ("__debug__" : Str)) = false := by decide)
   (hcd : (x == ("__classdict__" : Str)) = false := by decide) : PE X (.Name x pos) (tVar i) := pe_var hN hv hd hcd
end
def Same (H H' : Hp) : Prop := ∀ b o, H b = some o -> H' b = some o
theorem Same.refl (H : Hp) : Same H H := fun _ _ h => h
theorem Same.trans {H H1 H2 : Hp} (a : Same H H1) (b : Same H1 H2) : Same H H2 := fun c o h => b c o (a c o h)
theorem Same.free {H H' : Hp} (e : Same H H') {l : Addr} (h : H' l = Option.none) : H l = Option.none := by
 cases q : H l with
 | none => rfl
 | some o =>
   rw [e l o q] at h
   cases h
theorem Same.seq {K : PySem.W.Frag} {H H' : Hp} {a : Addr} {xs : List V} (e : Same H H') (h : SqL K H a xs) : SqL K H' a xs := by
 rcases h with (h | ⟨o, h⟩) | h
 · exact .inl (.inl (e _ _ h))
 · exact .inl (.inr ⟨o, e _ _ h⟩)
 · exact .inr h
section
variable {X : Cx}
end
section
variable {κ : Type} [DecidableEq κ]
end
def yN (env : Env) : List (Str × NameKind) -> List (Str × Addr) -> List (Str × Addr)
 | [], cs => cs
 | (n, k) :: r, cs => if (k == NameKind.free) = true then yN env r ((n, (env.cells.lookup n).getD 0) :: cs) else yN env r cs
theorem xE {scope : Scope} {env : Env} (h : ∀ x ∈ scope.names, x.2 = .free -> ∃ c, env.cells.lookup x.1 = some c) : closureFor scope env = pure (yN env scope.names []) := by
 unfold closureFor
 have go : ∀ (l : List (Str × NameKind)) (cs : List (Str × Addr)), (∀ x ∈ l, x.2 = .free -> ∃ c, env.cells.lookup x.1 = some c) ->
     (forIn l cs fun (x : Str × NameKind) (r : List (Str × Addr)) => (match x with
       | (name, kind) => if (kind == NameKind.free) = true then do let a ← cellOf env name; pure (ForInStep.yield ((name, a) :: r)) else pure (ForInStep.yield r) : Sem (ForInStep (List (Str × Addr))))) = (pure (yN env l cs) : Sem (List (Str × Addr))) := by
   intro l
   induction l with
   | nil => intro cs _; rfl
   | cons x r ih =>
     intro cs hl
     obtain ⟨n, k⟩ := x
     rw [List.forIn_cons]
     by_cases hk : (k == NameKind.free) = true
     · obtain ⟨c, hc⟩ := hl (n, k) List.mem_cons_self (by simpa using hk)
       have e : cellOf env n = pure c := by unfold cellOf; rw [hc]
       simp only [hk, if_true, e, pure_bind]
       rw [ih _ fun y hy => hl y (List.mem_cons_of_mem _ hy)]
       rw [yN, if_pos hk, hc]
       rfl
     · simp only [hk, if_false, Bool.false_eq_true, pure_bind]
       rw [ih _ fun y hy => hl y (List.mem_cons_of_mem _ hy)]
       rw [yN, if_neg hk]
 have q := go scope.names [] h
 simp only [pure_bind, bind_pure] at q ⊢
 exact q
theorem yU {env : Env} {y : Str} {c : Addr} : ∀ (l : List (Str × NameKind)) (cs : List (Str × Addr)), (∀ x ∈ l, x.2 = .free -> ∃ c, env.cells.lookup x.1 = some c) ->
   (∀ z d, cs.lookup z = some d -> env.cells.lookup z = some d) -> (yN env l cs).lookup y = some c -> env.cells.lookup y = some c
 | [], cs, _, hc, e => hc _ _ e
 | (n, k) :: r, cs, h, hc, e => by
   have hr : ∀ x ∈ r, x.2 = .free -> ∃ c, env.cells.lookup x.1 = some c := fun x hx => h x (List.mem_cons_of_mem _ hx)
   by_cases hk : (k == NameKind.free) = true
   · rw [yN, if_pos hk] at e
     refine yU r _ hr (fun z d ez => ?_) e
     obtain ⟨c', hc'⟩ := h (n, k) List.mem_cons_self (by simpa using hk)
     rw [List.lookup_cons] at ez
     cases hz : z == n with
     | true =>
       rw [hz] at ez
       have hz' : z = n := eq_of_beq hz
       subst hz'
       have e2 : (env.cells.lookup z).getD 0 = d := Option.some.inj ez
       have hc'' : env.cells.lookup z = some c' := hc'
       rw [hc''] at e2 ⊢
       exact congrArg some e2
     | false => rw [hz] at ez; exact hc z d ez
   · rw [yN, if_neg hk] at e
     exact yU r cs hr hc e
theorem xC {env : Env} {y : Str} : ∀ (l : List (Str × NameKind)) (cs : List (Str × Addr)), ((y, NameKind.free) ∈ l \/ ∃ c, cs.lookup y = some c) -> ∃ c, (yN env l cs).lookup y = some c
 | [], cs, h => h.elim (fun z => nomatch z) fun z => z
 | (n, k) :: r, cs, h => by
   by_cases hk : (k == NameKind.free) = true
   · rw [yN, if_pos hk]
     refine xC r _ ?_
     rcases h with h | ⟨c, h⟩
     · rcases List.mem_cons.mp h with h | h
       · cases h
         exact .inr ⟨_, by rw [List.lookup_cons, beq_self_eq_true]⟩
       · exact .inl h
     · cases hz : y == n with
       | true => exact .inr ⟨_, by rw [List.lookup_cons, hz]⟩
       | false => exact .inr ⟨c, by rw [List.lookup_cons, hz]; exact h⟩
   · rw [yN, if_neg hk]
     refine xC r _ ?_
     rcases h with h | h
     · rcases List.mem_cons.mp h with h | h
       · cases h
         exact absurd rfl hk
       · exact .inl h
     · exact .inr h
theorem yR {env : Env} : ∀ {names : List (Str × NameKind)} {x : Str} {k' : NameKind},
   (names.map fun (n, k) => if (k == NameKind.free && env.scope.kind == .function && env.kindOf n == some .cell) then (n, NameKind.cell) else (n, k)).lookup x = some k' ->
   names.lookup x = some k' \/ (names.lookup x = some .free /\ k' = .cell)
 | [], _, _, h => by simp at h
 | (n, k) :: r, x, k', h => by
   have ih := @yR env r x k'
   have h : List.lookup x ((if (k == NameKind.free && env.scope.kind == .function && env.kindOf n == some .cell) = true then (n, NameKind.cell) else (n, k)) :: _) = some k' := h
   rw [List.lookup_cons]
   by_cases hc : (k == NameKind.free && env.scope.kind == .function && env.kindOf n == some .cell) = true
   · rw [if_pos hc, List.lookup_cons] at h
     cases hx : x == n with
     | true =>
       rw [hx] at h
       have e1 : NameKind.cell = k' := Option.some.inj h
       simp only [Bool.and_eq_true] at hc
       exact .inr ⟨congrArg some (eq_of_beq hc.1.1), e1.symm⟩
     | false => rw [hx] at h; exact ih h
   · rw [if_neg hc, List.lookup_cons] at h
     cases hx : x == n with
     | true => rw [hx] at h; exact .inl h
     | false => rw [hx] at h; exact ih h
theorem xI {env : Env} : ∀ {names : List (Str × NameKind)} {x : Str}, names.lookup x = some .free ->
   (names.map fun (n, k) => if (k == NameKind.free && env.scope.kind == .function && env.kindOf n == some .cell) then (n, NameKind.cell) else (n, k)).lookup x = some .cell \/
   (names.map fun (n, k) => if (k == NameKind.free && env.scope.kind == .function && env.kindOf n == some .cell) then (n, NameKind.cell) else (n, k)).lookup x = some .free
 | [], _, h => by simp at h
 | (n, k) :: r, x, h => by
   have ih := @xI env r x
   show List.lookup x ((if (k == NameKind.free && env.scope.kind == .function && env.kindOf n == some .cell) = true then (n, NameKind.cell) else (n, k)) :: _) = _ \/ List.lookup x ((if (k == NameKind.free && env.scope.kind == .function && env.kindOf n == some .cell) = true then (n, NameKind.cell) else (n, k)) :: _) = _
   rw [List.lookup_cons] at h
   by_cases hc : (k == NameKind.free && env.scope.kind == .function && env.kindOf n == some .cell) = true
   · rw [if_pos hc, List.lookup_cons]
     cases hx : x == n with
     | true => exact .inl rfl
     | false => rw [hx] at h; exact ih h
   · rw [if_neg hc, List.lookup_cons]
     cases hx : x == n with
     | true => rw [hx] at h; exact .inr h
     | false => rw [hx] at h; exact ih h
structure LcScope (xs ys : List Str) (scope around : Scope) : Prop where
 kind : scope.kind = .function
 nd : (xs ++ ys).Nodup
 own : ∀ x ∈ xs, scope.names.lookup x = some .local
 cap : ∀ y ∈ ys, scope.names.lookup y = some .free /\ (around.names.lookup y = some .cell \/ around.names.lookup y = some .free)
 nocell : ∀ y ∈ scope.names, y.2 ≠ .cell
 names : ∀ y ∈ scope.names, y.2 = .local -> scope.names.lookup y.1 = some .local
 free : ∀ y ∈ scope.names, y.2 = .free -> y.1 ∈ ys
def zX (X : Cx) (xs ys : List Str) (scope : Scope) (C : Addr) (s₀ : Shared) (H₀ : Hp) (fp : List Addr) : Cx where
 prog := X.prog
 w := X.w
 K := X.K
 mg := X.mg
 base := X.base
 A := X.A
 N := xs ++ ys
 s₀ := s₀
 H₀ := H₀
 env := compEnvC scope (yN X.env scope.names []) C X.env
 outer := X.stack
 stack := X.stack
 ex := fp
 fn := fun _ => false
 calm := X.calm
 pn := []
 xe := fun _ _ => False
def lcSt (xs : List Str) (js : List Nat) (σ : St) : St := xs.map (fun _ => none) ++ js.map fun j => (σ[j]?).join
def LcW (J : It) (n : List Str) (js : List Nat) (g : TG) (tc : Option TT) (te : TE) (σ : St) (H1 : Hp) (Q : VK) : Prop := ∃ W : Nat -> Nat -> List V -> St -> Hp -> Prop, (∃ m, W 0 m [] (lcSt n js σ) H1) /\ ∀ i m ys σ1 H, W i m ys σ1 H ->
 (J.stop i H /\ ∀ p, H p = none -> Q (.ref p) (upd H p (.lst ys))) \/
 (J.go i H /\ ys.length < sizeLine /\ ∀ x H', J.yld i H x H' -> g x σ1 H' fun σ2 H2 => match tc with
   | none => te σ2 H2 fun y H3 => ∃ m', m' < m /\ W (i + 1) m' (ys ++ [y]) σ2 H3
   | some c => c σ2 H2 fun b H3 => if b = true then te σ2 H3 fun y H4 => ∃ m', m' < m /\ W (i + 1) m' (ys ++ [y]) σ2 H4 else ∃ m', m' < m /\ W (i + 1) m' ys σ2 H3)
def tLC (n : List Str) (js : List Nat) (wi : TI) (g : TG) (tc : Option TT) (te : TE) : TE := fun σ H Q => wi σ H fun J H1 => LcW J n js g tc te σ H1 Q
def PIf (X : Cx) (ifs : List Expr) (tc : Option TT) : Prop := match ifs, tc with
 | [], none => True
 | [c], some t => PT X c t
 | _, _ => False
section
variable {X : Cx} {pins : List (Addr × Obj)} {σ : St} {H : Hp} {s : Shared} {xs ys : List Str} {scope : Scope} {fp : List Addr} {C D : Addr} {js : List Nat}
def Caps (X : Cx) (ys : List Str) (js : List Nat) : Prop := js.length = ys.length /\ ∀ (i : Nat) (y : Str) (j : Nat), ys[i]? = some y -> js[i]? = some j -> X.N[j]? = some y
theorem uD (I : Inv X pins σ H s) (S : LcScope xs ys scope X.env.scope) : ∀ x ∈ scope.names, x.2 = .free -> ∃ c, X.env.cells.lookup x.1 = some c := fun x hx hf =>
 I.ok.has x.1 ((S.cap x.1 (S.free x hx hf)).2.elim .inl .inr)
theorem clos_look (I : Inv X pins σ H s) (S : LcScope xs ys scope X.env.scope) {y : Str} {c : Addr} (e : (yN X.env scope.names []).lookup y = some c) : X.env.cells.lookup y = some c :=
 yU scope.names [] (uD I S) (fun _ _ z => nomatch z) e
theorem block_start (I : Inv X pins σ H s) (S : LcScope xs ys scope X.env.scope) (hj : Caps X ys js) (f2 : ∀ b ∈ fp, jP X pins H b) (fo : ∀ b ∈ fp, b < s.heap.objs.size)
   {h₁ : Heap} {m : Str -> Option Value} {tk : Nat} {oD : Obj} (hC : s.heap.objs.size <= C) (hD : s.heap.objs.size <= D) (hDC : D ≠ C) (hn : h₁.Ns C m) (hd : h₁.get? D = some oD) (hdd : ∀ v, oD.data ≠ .cell v)
   (old : ∀ b o, s.heap.get? b = some o -> h₁.get? b = some o) :
   Inv (zX X xs ys scope C s H fp) [(D, oD)] (lcSt xs js σ) H { s with heap := h₁, toks := tk } := by
 have cl := fun y c => clos_look (y := y) (c := c) I S
 have nC : H C = none := I.hok.fresh hC
 have nD : H D = none := I.hok.fresh hD
 have lt_of : ∀ {b : Addr}, b < s.heap.objs.size -> b ≠ C := fun hb => Nat.ne_of_lt (Nat.lt_of_lt_of_le hb hC)
 have fsub : ∀ b, b ∈ frs X.stack -> b ∈ X.env.locals :: X.fs := I.stkSub
 refine ⟨⟨I.ok.mod, ?_, I.ok.glob, I.ok.blt, hC, fun x y c h1 h2 => I.ok.inj x y c (cl x c h1) (cl y c h2), fun x hx => ?_, (fun x c h => nomatch h), I.ok.hd, I.ok.frames, .inl rfl, fun b hb => ⟨lt_of (fo b hb), fun x c h => (f2 b hb).2.2.2.2.1 x c (cl x c h)⟩, I.bs,
   Nat.le_trans I.ok.bsz I.sz, fun b o e hb => ?_, fun b hb hf => ?_, I.stack, I.stkFree⟩,
   rfl, I.bare, Un.kept old, ⟨m, hn, fun i x v e1 e2 e3 => ?_⟩, fun x c h => ?_, nC, fun x c h => I.freeC x c (cl x c h), fun p hp => ?_, I.hok.kept old, ?_⟩
 · show scope.kind = _
   exact S.kind
 · have hx : (relabel scope X.env).names.lookup x = some .cell \/ (relabel scope X.env).names.lookup x = some .free := hx
   have hm : (x, NameKind.free) ∈ scope.names := by
     rcases hx with hx | hx
     · rcases yR hx with z | z
       · exact absurd rfl (S.nocell _ (PySem.mem_of_lookup z))
       · exact PySem.mem_of_lookup z.1
     · rcases yR hx with z | z
       · exact PySem.mem_of_lookup z
       · exact nomatch z.2
   exact xC scope.names [] (.inl hm)
 · rcases (f2 b hb).2.2.2.1 with z | z
   · exact I.ok.noex b o e z
   · exact absurd (Nat.lt_of_lt_of_le (Heap.lt_size e) (Nat.le_trans I.ok.bsz z)) (Nat.lt_irrefl _)
 · rcases List.mem_cons.mp (fsub b hf) with z | z
   · exact (f2 b hb).2.1 z
   · exact (f2 b hb).2.2.1 z
 · have e1 : (xs ++ ys)[i]? = some x := e1
   have e2 : (xs.map (fun _ => (none : Option V)) ++ js.map fun j => (σ[j]?).join)[i]? = some (some v) := e2
   by_cases hi : i < xs.length
   · rw [List.getElem?_append_left (by simpa using hi), List.getElem?_map] at e2
     cases q : xs[i]? with
     | none => rw [q] at e2; cases e2
     | some z => rw [q] at e2; cases e2
   · rw [List.getElem?_append_right (by simpa using hi), List.length_map, List.getElem?_map] at e2
     rw [List.getElem?_append_right (by simpa using hi)] at e1
     cases q : js[i - xs.length]? with
     | none => rw [q] at e2; cases e2
     | some j =>
       rw [q] at e2
       have e2' : (σ[j]?).join = some v := Option.some.inj e2
       have hy := hj.2 _ _ _ e1 q
       have hσ : σ[j]? = some (some v) := by
         cases z : σ[j]? with
         | none => rw [z] at e2'; cases e2'
         | some t => rw [z] at e2'; exact congrArg some e2'
       have ym : x ∈ ys := List.mem_of_getElem? e1
       obtain ⟨cf, ca⟩ := S.cap x ym
       obtain ⟨m0, _, hl⟩ := I.loc
       obtain ⟨u, ru, lk⟩ := hl j x v hy hσ (ca.elim (fun z => .inr (.inl z)) fun z => .inr (.inr z))
       refine ⟨u, ru, .inr ⟨?_, ?_⟩⟩
       · exact xI (env := X.env) cf
       · rcases lk with ⟨k, _⟩ | ⟨_, c, ec, zc⟩
         · have k : X.env.scope.names.lookup x = some .local := k
           rcases ca with z | z <;> · rw [k] at z; cases z
         · obtain ⟨c', ec'⟩ := xC (env := X.env) (y := x) scope.names [] (.inl (PySem.mem_of_lookup cf))
           have e3 := cl x c' ec'
           rw [ec] at e3
           cases e3
           obtain ⟨o, ho, hod⟩ := zc
           exact ⟨_, ec', o, old _ _ ho, hod⟩
 · obtain ⟨v, o, ho, hod⟩ := I.cell x c (cl x c h)
   exact ⟨v, o, old _ _ ho, hod⟩
 · have hp : p ∈ [(D, oD)] := by simpa [zX] using hp
   have e := List.mem_singleton.mp hp
   subst e
   refine ⟨hd, nD, hDC, fun hf => ?_, hdd⟩
   have hf : D ∈ frs X.stack := hf
   obtain ⟨o, ho⟩ : ∃ o, s.heap.get? D = some o := by
     rcases List.mem_cons.mp (fsub D hf) with z | z
     · obtain ⟨m0, ⟨o, _, _, ho, _⟩, _⟩ := I.loc
       have z : D = X.env.locals := z
       exact ⟨o, z ▸ ho⟩
     · exact absurd z (I.nofs hD)
   exact absurd (Heap.lt_size ho) (Nat.not_lt.mpr hD)
 · show (xs.map (fun _ => (none : Option V)) ++ js.map fun j => (σ[j]?).join).length = (xs ++ ys).length
   rw [List.length_append, List.length_append, List.length_map, List.length_map, hj.1]
end
section
variable {X : Cx} {pins : List (Addr × Obj)} {σ : St} {H : Hp} {s : Shared} {xs ys : List Str} {scope : Scope} {js : List Nat} {tg iter elt : Expr} {ifs : List Expr} {pos : Pos} {wi : TI} {g : TG} {tc : Option TT} {te : TE}
theorem jU {α : Type} {M : Model} {A : Around} {t : Sem α} {Q : α -> Shared -> Prop} {E : Value -> Shared -> Prop} {s : Shared} (h : wpAny M A t Q (fun _ _ => False) s) : wpAny M A t Q E s := wpAny_mono h (fun _ _ x => x) fun _ _ z => z.elim
theorem uC {prog : Program} {w : World} {A : Around} {R : Result -> Shared -> Prop} {it acc : Value} {env : Env} (J : Nat -> Shared -> Prop)
   (turn : ∀ n s, J n s -> wpAny (model prog w) A (pyNext it) (fun r s₁ => match r with
     | none => R (.ok .next) s₁
     | some v => wpAny (model prog w) A (letOwnedTupleGo tg it v) (fun _ s₁' => wpAny (model prog w) A (assign tg env v) (fun _ s₂ =>
         wpAny (model prog w) A (forIn ifs true fun c r => if r = true then do let ok ← isTrue c env (eval c env); pure (ForInStep.yield ok) else pure (ForInStep.yield r)) (fun ok s₃ =>
           if ok = true then wpAny (model prog w) A (eval elt env) (fun x s₄ =>
             wpAny (model prog w) A (call (.builtin "list.append") [acc, x]) (fun _ s₅ => ∃ m, m < n /\ J m s₅) (fun _ _ => False) s₄) (fun _ _ => False) s₃
           else ∃ m, m < n /\ J m s₃) (fun _ _ => False) s₂) (fun _ _ => False) s₁') (fun _ _ => False) s₁) (fun _ _ => False) s)
   (n : Nat) (h : J n s) : codeAny (model prog w) A (.compLoop (.ListComp elt [⟨tg, iter, ifs, 0⟩] scope pos) 0 it acc env) R s := by
 refine codeAny_loop rfl J (fun n s hI => ?_) n h
 show wpAny _ A ((compTurn (.ListComp elt [⟨tg, iter, ifs, 0⟩] scope pos) 0 it acc env).onRaise (fun x => do noteFrame x env; theTreesLotGoes x)) _ _ s
 refine wpAny_noted ?_
 rw [compTurn_list]
 refine wpAny_bind (wpAny_standAt (wpAny_bind (jU (thn (turn n s hI) fun r s₁ h₁ => ?_))))
 cases r with
 | none => exact wpAny_pure h₁
 | some v =>
   refine wpAny_bind (jU (thn h₁ fun _ s₁' h₁' => wpAny_bind (jU (thn h₁' fun _ s₂ h₂ => wpAny_bind (jU (thn h₂ fun ok s₃ h₃ => ?_))))))
   cases ok with
   | false => exact wpAny_pure ⟨rfl, h₃⟩
   | true => exact wpAny_bind (wpAny_bind (jU (thn h₃ fun x s₄ h₄ => wpAny_bind (jU (thn h₄ fun _ s₅ h₅ => wpAny_pure (wpAny_pure ⟨rfl, h₅⟩))))))
structure LcEnd (X : Cx) (pins : List (Addr × Obj)) (σ : St) (C : Addr) (H' : Hp) (s' : Shared) : Prop where
 inv : Inv X pins σ H' s'
 ns : ∃ m, s'.heap.Ns C m
 free : H' C = none
 ne : C ≠ X.env.locals
 up : X.s₀.heap.objs.size <= C
 cells : ∀ x c, X.env.cells.lookup x = some c -> c ≠ C
 pin : ∀ p ∈ X.pn ++ pins, p.1 ≠ C
theorem LcEnd.gone {C : Addr} {H' : Hp} {s' : Shared} (L : LcEnd X pins σ C H' s') {h' : Heap} (hs : Heap.SameBut C s'.heap h') : Inv X pins σ H' { s' with heap := h' } :=
 L.inv.turned (t' := s'.toks) (fun b o hb e => hs.extBut b o hb e) L.free L.ne (.inr L.up) L.cells L.pin
theorem lc_core (hc : X.calm = true) (S : LcScope xs ys scope X.env.scope) (hj : Caps X ys js) (hi : PI X tg iter wi)
   (hg : ∀ C s₀ H₀ fp, PG (zX X xs ys scope C s₀ H₀ fp) tg g) (hif : ∀ C s₀ H₀ fp, PIf (zX X xs ys scope C s₀ H₀ fp) ifs tc) (he : ∀ C s₀ H₀ fp, PE (zX X xs ys scope C s₀ H₀ fp) elt te)
   {RR : Value -> Addr -> Result -> Shared -> Prop} {Q : VK} (I : Inv X pins σ H s) (h : tLC xs js wi g tc te σ H Q)
   (fin : ∀ D C H' s', LcEnd X pins σ C H' s' -> Q (.ref D) H' -> RR (.ref D) C (.ok .next) s') :
   wpAny (model X.prog X.w) X.A (eval iter X.env) (fun x s₁ => wpAny (model X.prog X.w) X.A (pyIter x) (fun it s₂ => wpAny (model X.prog X.w) X.A (newList []) (fun acc s₃ =>
     wpAny (model X.prog X.w) X.A (newFunctionEnv scope X.env.globals (yN X.env scope.names []) [] X.env.qual none .none (some X.env)) (fun cenv s₄ =>
       codeAny (model X.prog X.w) X.A (.compStart (.ListComp elt [⟨tg, iter, ifs, 0⟩] scope pos) 0 it acc { cenv with scope := relabel scope X.env }) (RR acc cenv.locals) s₄) X.xe s₃) X.xe s₂) X.xe s₁) X.xe s := by
 refine thn (hi pins s σ H _ I h) fun v s1 h1 => thn h1 fun itv s2 h2 => ?_
 obtain ⟨it, fp, tn, J, H2, e, I2, T, st2, f2, W, ⟨m0, w0⟩, turn⟩ := h2
 subst e
 have fo : ∀ b ∈ fp, b < s2.heap.objs.size := fun b hb => let ⟨o, e, _⟩ := T.obj _ _ st2 b hb; Heap.lt_size e
 refine wpAny_newObj_type (wpAny_newFunctionEnv S.nocell (by intro y hy; simp at hy) (fun h₁ hns₁ hsb₁ => ?_) S.kind)
 dsimp only at hns₁ hsb₁ ⊢
 generalize hH2 : s2.heap.push { cls := .type "list", dict := none, data := .seq ([] : List Value).toArray } = G at hns₁ hsb₁ ⊢
 have hC : G.objs.size = s2.heap.objs.size + 1 := by rw [← hH2, Heap.size_push]
 have hDC : s2.heap.objs.size ≠ G.objs.size := by rw [hC]; exact Nat.ne_of_lt (Nat.lt_succ_self _)
 have hCle : s2.heap.objs.size <= G.objs.size := by rw [hC]; exact Nat.le_succ _
 have below : ∀ b, b < s2.heap.objs.size -> b ≠ G.objs.size /\ b ≠ s2.heap.objs.size := fun b hb => ⟨by rw [hC]; exact Nat.ne_of_lt (Nat.lt_succ_of_lt hb), Nat.ne_of_lt hb⟩
 have old : ∀ b o, s2.heap.get? b = some o -> h₁.get? b = some o := fun b o e => hsb₁.extBut b o (below b (Heap.lt_size e)).1 (Heap.get?_push_of_some _ (hH2 ▸ Heap.get?_push_of_some _ e))
 have hacc : h₁.get? s2.heap.objs.size = some (LCg.lst []) := hsb₁.extBut _ _ hDC (Heap.get?_push_of_some _ (hH2 ▸ Heap.get?_push_size _ rfl))
 have st₁ : tn 0 h₁ := T.keep _ _ _ st2 fun b _ o e => old b o e
 have I3 := block_start (C := G.objs.size) (D := s2.heap.objs.size) (tk := s2.toks + ([] : List (Str × Value)).length) I2 S hj f2 fo hCle (Nat.le_refl _) hDC hns₁ hacc (by intro v hv; cases hv) old
 generalize hX : zX X xs ys scope G.objs.size s2 H2 fp = B at I3
 have pB : B.prog = X.prog := by rw [← hX]; rfl
 have wB : B.w = X.w := by rw [← hX]; rfl
 have kB : B.K = X.K := by rw [← hX]; rfl
 have aB : B.A = X.A := by rw [← hX]; rfl
 have eB : B.env = compEnvC scope (yN X.env scope.names []) G.objs.size X.env := by rw [← hX]; rfl
 have cB : B.calm = true := by rw [← hX]; exact hc
 have xB : B.xe = fun _ _ => False := by rw [← hX]; rfl
 have gB : PG B tg g := by rw [← hX]; exact hg _ _ _ _
 have iB : PIf B ifs tc := by rw [← hX]; exact hif _ _ _ _
 have elB : PE B elt te := by rw [← hX]; exact he _ _ _ _
 have sB : B.s₀ = s2 := by rw [← hX]; rfl
 have hB : B.H₀ = H2 := by rw [← hX]; rfl
 have fB : B.fs = frs X.stack := by rw [← hX]; rfl
 have exB : B.ex = fp := by rw [← hX]; rfl
 have pnB : B.pn = [] := by rw [← hX]; rfl
 have statB : ∀ {H' : Hp} {oD : Obj} {σ' : St} {s' : Shared}, Inv B [(s2.heap.objs.size, oD)] σ' H' s' -> (∀ b ∈ fp, H' b = none) -> ∀ b ∈ fp, jP B [(s2.heap.objs.size, oD)] H' b := fun {H' oD σ' s'} I' hn b hb =>
   ⟨hn b hb, (I'.ok.exf b (exB ▸ hb)).1, I'.ok.exfs b (exB ▸ hb), .inl (exB ▸ hb), (I'.ok.exf b (exB ▸ hb)).2, fun p hp => by
     rw [pnB] at hp
     have e := List.mem_singleton.mp (show p ∈ [(s2.heap.objs.size, oD)] from hp)
     subst e
     exact Nat.ne_of_gt (fo b hb)⟩
 have loop : ∀ s₃ : Shared, s₃ = { s2 with heap := h₁, toks := s2.toks + ([] : List (Str × Value)).length } ->
     codeAny (model X.prog X.w) X.A (.compLoop (.ListComp elt [⟨tg, iter, ifs, 0⟩] scope pos) 0 (.ref it) (.ref s2.heap.objs.size) (compEnvC scope (yN X.env scope.names []) G.objs.size X.env)) (RR (.ref s2.heap.objs.size) G.objs.size) s₃ := by
   rintro s₃ rfl
   refine uC (fun n s' => ∃ i ys its σ1 H', Inv B [(s2.heap.objs.size, LCg.lst its)] σ1 H' s' /\ Vals ys its /\ tn i s'.heap /\ (∀ b ∈ fp, H' b = none) /\ ys.length <= sizeLine /\ W i n ys σ1 H') ?_ m0
     ⟨0, [], [], _, H2, I3, .nil, st₁, fun b hb => (f2 b hb).1, Nat.zero_le _, w0⟩
   rintro n s' ⟨i, ys', its, σ1, H', I', rv, st', fr', hz, w'⟩
   have rl := rv.length
   rcases turn i n ys' σ1 H' w' with ⟨stop, qn⟩ | ⟨go, hz', step⟩
   · have q := T.done B pB wB kB cB i _ s' σ1 H' (fun _ _ => False) I' (statB I' fr') st' stop
     rw [aB] at q
     refine thn q fun r s4 ⟨hr, I4⟩ => ?_
     subst hr
     have pD := (I4.pin (s2.heap.objs.size, LCg.lst its) (List.mem_append_right _ List.mem_cons_self))
     have hDn : H' s2.heap.objs.size = none := pD.2.1
     have ub := I4.base
     rw [fB, exB, hB, sB] at ub
     have neD : ∀ {b : Addr} {o : HO}, H' b = some o -> b ≠ s2.heap.objs.size := fun e z => by rw [z, hDn] at e; cases e
     have upk : ∀ {b : Addr} {o : HO}, H' b = some o -> upd H' s2.heap.objs.size (.lst ys') b = some o := fun e => by rw [zH (neD e)]; exact e
     have u : Un (frs X.stack) fp H2 (upd H' s2.heap.objs.size (.lst ys')) s2.heap s4.heap :=
       ⟨ub.keep, ub.slot, fun b o e n hx => by rw [zH (below b (Heap.lt_size e)).2]; exact ub.free b o e n hx, ub.there, fun b zs e => upk (ub.tups b zs e), fun b o zs e => upk (ub.frzs b o zs e), fun b ps e => let ⟨more, q⟩ := ub.tbls b ps e; ⟨more, upk q⟩⟩
     have hok4 : HOk X.prog X.w H' s4.heap := by have := I4.hok; rw [pB, wB] at this; exact this
     have hok : HOk X.prog X.w (upd H' s2.heap.objs.size (.lst ys')) s4.heap := fun b o e => by
       by_cases hb : b = s2.heap.objs.size
       · subst hb
         rw [zB] at e
         cases e
         exact ⟨hz, its, its.length, rv, pD.1⟩
       · rw [zH hb] at e
         exact (hok4 b o e).stay (fun _ _ _ q => q) (fun _ q => upk q) fun _ _ q => upk q
     have I5 : Inv X pins σ (upd H' s2.heap.objs.size (.lst ys')) s4 := I2.call' (ch := fp) (by rw [I4.os, sB]) u hok I4.bare fun b hb => let f := f2 b hb; ⟨f.2.2.2.1, f.2.1, f.2.2.2.2.1, f.2.2.2.2.2⟩
     refine fin s2.heap.objs.size G.objs.size _ s4 ⟨I5, ?_, ?_, ?_, Nat.le_trans I2.sz hCle, fun x c e z => ?_, fun p hp z => ?_⟩ (qn _ hDn)
     · obtain ⟨m, hn, _⟩ := I4.loc
       rw [eB] at hn
       exact ⟨m, hn⟩
     · have fr := I4.free
       rw [eB] at fr
       rw [zH (Ne.symm hDC)]
       exact fr
     · exact Ne.symm (below _ I2.lt).1
     · obtain ⟨_, o, ho, _⟩ := I2.cell x c e
       exact (below c (Heap.lt_size ho)).1 z
     · exact (below p.1 (Heap.lt_size (I2.pin p hp).1)).1 z
   · have q := T.item B pB wB kB cB i _ s' σ1 H' (fun _ _ => False) I' (statB I' fr') st' go
     rw [aB] at q
     refine thn q fun r s4 ⟨u, hr, h4⟩ => ?_
     subst hr
     refine thn h4 fun _ s5 ⟨x, H5, I5, r5, y5, st5, fr5⟩ => ?_
     have I5' := I5.pinned (statB I5 fr5) (T.obj _ _ st5)
     have q5 := gB _ s5 σ1 H5 x u _ I5' r5 (step x H5 y5)
     rw [pB, wB, aB, eB, xB] at q5
     refine thn q5 fun _ s6 ⟨σ6, H6, I6, q6⟩ => ?_
     have last : ∀ {s7 : Shared} {H7 : Hp}, Inv B ([(s2.heap.objs.size, LCg.lst its)] ++ yS fp s5.heap) σ6 H7 s7 -> (te σ6 H7 fun y H8 => ∃ m', m' < n /\ W (i + 1) m' (ys' ++ [y]) σ6 H8) ->
         wpAny (model X.prog X.w) X.A (eval elt (compEnvC scope (yN X.env scope.names []) G.objs.size X.env)) (fun x s₄ =>
             wpAny (model X.prog X.w) X.A (call (.builtin "list.append") [.ref s2.heap.objs.size, x]) (fun _ s₅ => ∃ m, m < n /\
               ∃ i ys its σ1 H', Inv B [(s2.heap.objs.size, LCg.lst its)] σ1 H' s₅ /\ Vals ys its /\ tn i s₅.heap /\ (∀ b ∈ fp, H' b = none) /\ ys.length <= sizeLine /\ W i m ys σ1 H') (fun _ _ => False) s₄) (fun _ _ => False) s7 := fun {s7 H7} I7 q7 => by
       have q8 := elB _ s7 σ6 H7 _ I7 q7
       rw [pB, wB, aB, eB, xB] at q8
       refine thn q8 fun uy s8 ⟨y, H8, I8, r8, m', hm', w8⟩ => ?_
       have pD := (I8.pin (s2.heap.objs.size, LCg.lst its) (List.mem_append_right _ (List.mem_append_left _ List.mem_cons_self)))
       refine append_at (its := its.toArray) (n := its.length) pD.1 (fun h9 hs9 hd9 => ?_) (by rw [List.size_toArray, ← rl]; exact hz)
       have dropped : Inv B (yS fp s5.heap) σ6 H8 s8 := I8.pins_of fun p hp => I8.pin p (List.mem_append_right _ (List.mem_append_right _ hp))
       have apart : ∀ p ∈ B.pn ++ yS fp s5.heap, p.1 ≠ s2.heap.objs.size := fun p hp => by
         rw [pnB] at hp
         exact Nat.ne_of_lt (fo _ (qB (show p ∈ yS fp s5.heap from hp)).1)
       have I9 : Inv B (yS fp s5.heap) σ6 H8 { s8 with heap := h9 } := dropped.turned (t' := s8.toks) (fun b o hb e => hs9.extBut b o hb e) pD.2.1 pD.2.2.1 (.inr (by rw [sB]; exact Nat.le_refl _)) (fun x c e => by
         intro z
         obtain ⟨v, o, ho, hd⟩ := I8.cell x c e
         rw [z, pD.1] at ho
         cases ho
         cases hd) apart
       have I9' : Inv B [(s2.heap.objs.size, LCg.lst (its ++ [uy]))] σ6 H8 { s8 with heap := h9 } := I9.pins_of fun p hp => by
         have e := List.mem_singleton.mp hp
         subst e
         exact ⟨hd9.trans (congrArg some (LCg.lst_snoc its uy)), pD.2.1, pD.2.2.1, pD.2.2.2.1, by intro v hv; cases hv⟩
       refine ⟨m', hm', i + 1, ys' ++ [y], its ++ [uy], σ6, H8, I9', Vals.append rv (.cons r8 .nil), T.keep _ _ _ st5 fun b hb o e => ?_, fun b hb => ?_, by rw [List.length_append]; exact hz', w8⟩
       · exact (I9.pin (b, o) (List.mem_append_right _ (yO hb e))).1
       · obtain ⟨o, e, d⟩ := T.obj _ _ st5 b hb
         exact (I9.pin (b, o) (List.mem_append_right _ (yO hb e))).2.1
     have again : ∀ {s7 : Shared} {H7 : Hp}, Inv B ([(s2.heap.objs.size, LCg.lst its)] ++ yS fp s5.heap) σ6 H7 s7 -> (∃ m', m' < n /\ W (i + 1) m' ys' σ6 H7) -> ∃ m, m < n /\
         ∃ i ys its σ1 H', Inv B [(s2.heap.objs.size, LCg.lst its)] σ1 H' s7 /\ Vals ys its /\ tn i s7.heap /\ (∀ b ∈ fp, H' b = none) /\ ys.length <= sizeLine /\ W i m ys σ1 H' := fun {s7 H7} I7 ⟨m', hm', w7⟩ => by
       refine ⟨m', hm', i + 1, ys', its, σ6, H7, I7.unpinned, rv, T.keep _ _ _ st5 fun b hb o e => (I7.pin (b, o) (List.mem_append_right _ (List.mem_append_right _ (yO hb e)))).1, fun b hb => ?_, hz, w7⟩
       obtain ⟨o, e, d⟩ := T.obj _ _ st5 b hb
       exact (I7.pin (b, o) (List.mem_append_right _ (List.mem_append_right _ (yO hb e)))).2.1
     match ifs, tc, iB, q6 with
     | [], none, _, q6 =>
       refine wpAny_tests_nil ?_
       rw [if_pos rfl]
       exact last I6 q6
     | [c], some t, iB, q6 =>
       have iB : PT B c t := iB
       have q7 := iB _ s6 σ6 H6 _ I6 q6
       rw [pB, wB, aB, eB, xB] at q7
       refine wpAny_tests_one (thn q7 fun b s7 ⟨H7, I7, q7⟩ => ?_)
       cases b with
       | true => rw [if_pos rfl] at q7 ⊢; exact last I7 q7
       | false => rw [if_neg Bool.false_ne_true] at q7 ⊢; exact again I7 q7
 exact codeAny_compStart_list (loop _ rfl) (T.self _ 0 _ _ _ st₁ (loop _ rfl))
theorem pe_lc (hc : X.calm = true) (S : LcScope xs ys scope X.env.scope) (hj : Caps X ys js) (hi : PI X tg iter wi)
   (hg : ∀ C s₀ H₀ fp, PG (zX X xs ys scope C s₀ H₀ fp) tg g) (hif : ∀ C s₀ H₀ fp, PIf (zX X xs ys scope C s₀ H₀ fp) ifs tc) (he : ∀ C s₀ H₀ fp, PE (zX X xs ys scope C s₀ H₀ fp) elt te)
   (hs : ∀ x, foldedSetIterable iter X.env x = pure x := by intro _; rfl) : PE X (.ListComp elt [⟨tg, iter, ifs, 0⟩] scope pos) (tLC xs js wi g tc te) := by
 intro pins s σ H Q I h
 rw [eval_ListComp]
 refine wpAny_comprehension_free (use := none) rfl hs (xE (uD I S)) S.kind S.names ?_
 refine lc_core (RR := fun acc C => compPost (model X.prog X.w) X.A X.xe none (EP X pins σ Q) acc C) hc S hj hi hg hif he I h fun D C H' s' L q => ?_
 obtain ⟨m, hn⟩ := L.ns
 exact ⟨m, hn, fun h'' hs'' => ⟨.ref D, H', L.gone hs'', rfl, q⟩⟩
theorem ps_setLC {i : Nat} {x : Str} {p' p : Pos} (hN : X.N.Nodup) (hx : X.N[i]? = some x) (hl : X.env.scope.names.lookup x = some .local) (hc : X.calm = true) (S : LcScope xs ys scope X.env.scope) (hj : Caps X ys js) (hi : PI X tg iter wi)
   (hg : ∀ C s₀ H₀ fp, PG (zX X xs ys scope C s₀ H₀ fp) tg g) (hif : ∀ C s₀ H₀ fp, PIf (zX X xs ys scope C s₀ H₀ fp) ifs tc) (he : ∀ C s₀ H₀ fp, PE (zX X xs ys scope C s₀ H₀ fp) elt te)
   (hsw : swapsWith (.ListComp elt [⟨tg, iter, ifs, 0⟩] scope pos) (some (.Name x p')) p.line X.env = pure true := by rfl)
   (hs : ∀ x, foldedSetIterable iter X.env x = pure x := by intro _; rfl) : PS X (.Assign [.Name x p'] (.ListComp elt [⟨tg, iter, ifs, 0⟩] scope pos) p) (tAsg (tLC xs js wi g tc te) (gName i)) := by
 intro pins s σ H D I h
 rw [exec_Assign_Name_used _ _ _ _ hsw]
 refine wpAny_bind (wpAny_standAt (wpAny_bind ?_))
 show wpAny _ X.A (do let _ ← comprehension (.ListComp elt [⟨tg, iter, ifs, 0⟩] scope pos) scope X.env _ (newList []) false (eval iter X.env) (some (assign (.Name x p') X.env))) _ _ s
 refine wpAny_bind (wpAny_mono (wpAny_comprehension_free (use := some (assign (.Name x p') X.env)) (Q := fun _ s' => SP X pins D .next s') rfl hs (xE (uD I S)) S.kind S.names ?_) (fun _ s' hq => wpAny_pure (wpAny_pure hq)) fun _ _ e => e)
 refine lc_core (Q := fun v H' => gName i v σ H' D.nx) (RR := fun acc C => compPost (model X.prog X.w) X.A X.xe (some (assign (.Name x p') X.env)) (fun _ s' => SP X pins D .next s') acc C) hc S hj hi hg hif he I h fun A C H' s' L q => ?_
 show wpAny _ X.A (assign (.Name x p') X.env (.ref A)) _ _ _
 refine wpAny_assign_Name (jW (v := .ref A) L.inv hN hx (.inl hl) rfl (fun s'' I'' ⟨a, sb, ha⟩ => ?_) (.inr hl))
 have cne : ∀ {b : Addr}, (b = X.env.locals \/ X.env.cells.lookup x = some b) -> C ≠ b := fun z e => by
   rcases z with z | z
   · exact L.ne (e.trans z)
   · exact L.cells x _ z e.symm
 obtain ⟨m, hn⟩ := L.ns
 refine ⟨m, hn.sameBut sb (cne ha), fun h'' hs'' => ⟨_, _, ?_, q⟩⟩
 exact LcEnd.gone ⟨I'', ⟨m, hn.sameBut sb (cne ha)⟩, L.free, L.ne, L.up, L.cells, L.pin⟩ hs''
end
def Its (x : Str) : It := ⟨fun i _ => i < x.cps.size, fun i H v H' => H' = H /\ ∃ c, x.cps[i]? = some c /\ v = .str ⟨#[c]⟩, fun i _ => x.cps.size <= i⟩
section
variable {X : Cx} {tg : Expr}
def iStr (tl : TE) : TI := fun σ H R => tl σ H fun x H1 => ∃ z, x = .str z /\ R (Its z) H1
end
def rSlS : V -> Option Int -> Option Int -> Hp -> VK -> Prop := fun x lo hi H Q => ∃ z, x = .str z /\ z.length <= sizeLine /\ Q (.str (Txt.slice z lo hi)) H
section
variable {X : Cx}
theorem ints_pair : ∀ {ns : List Int} {its : List Value}, Vals (ns.map V.int) its -> ∃ xs : Array (Int × Tok), its.toArray = intItems xs /\ xs.toList.map (·.1) = ns
 | [], its, r => by
   rw [List.map_nil] at r
   cases r
   exact ⟨#[], by simp [intItems], rfl⟩
 | n :: ns, its, r => by
   rw [List.map_cons] at r
   cases r with
   | @cons a b as bs h t =>
     obtain ⟨xs, e, q⟩ := ints_pair t
     obtain ⟨tk, hb⟩ := (show ∃ tk, b = Value.int n tk from h)
     refine ⟨((n, tk) :: xs.toList).toArray, ?_, by simp [q]⟩
     have e2 : bs = (intItems xs).toList := by rw [← e]
     rw [hb, e2]
     simp [intItems]
theorem best_max (f : Nat -> Int) : ∀ k, (∀ i, i <= k -> f i <= f (argBest (fun i j => decide (f i > f j)) k)) /\ argBest (fun i j => decide (f i > f j)) k <= k
 | 0 => ⟨fun i hi => by have : i = 0 := by omega
                        subst this; exact Int.le_refl _, Nat.le_refl _⟩
 | k + 1 => by
   obtain ⟨h1, h2⟩ := best_max f k
   unfold argBest
   by_cases hc : f (k + 1) > f (argBest (fun i j => decide (f i > f j)) k)
   · rw [if_pos (decide_eq_true hc)]
     refine ⟨fun i hi => ?_, Nat.le_refl _⟩
     by_cases e : i = k + 1
     · subst e; exact Int.le_refl _
     · have := h1 i (by omega); omega
   · rw [if_neg (by simpa using hc)]
     refine ⟨fun i hi => ?_, by omega⟩
     by_cases e : i = k + 1
     · subst e; omega
     · exact h1 i (by omega)
def maxI : List Int -> Int
 | [] => 0
 | [n] => n
 | n :: m :: r => max n (maxI (m :: r))
theorem maxI_ge : ∀ {ns : List Int} {n : Int}, n ∈ ns -> n <= maxI ns
 | [a], n, h => by simp at h; subst h; exact Int.le_refl _
 | a :: b :: r, n, h => by
   rw [maxI]
   rcases List.mem_cons.mp h with h | h
   · subst h; omega
   · have := maxI_ge h; omega
theorem maxI_mem : ∀ {ns : List Int}, ns ≠ [] -> maxI ns ∈ ns
 | [a], _ => by simp [maxI]
 | a :: b :: r, _ => by
   rw [maxI]
   have := maxI_mem (ns := b :: r) (by simp)
   by_cases h : a <= maxI (b :: r)
   · rw [Int.max_eq_right h]; exact List.mem_cons_of_mem _ this
   · rw [Int.max_eq_left (by omega)]; exact List.mem_cons_self
theorem maxI_is {ns : List Int} {v : Int} (h1 : v ∈ ns) (h2 : ∀ n ∈ ns, n <= v) : v = maxI ns :=
 Int.le_antisymm (maxI_ge h1) (h2 _ (maxI_mem (List.ne_nil_of_mem h1)))
theorem call_maxI : xN X (.builtin "max") (fun xs H Q => X.calm = true /\ ∃ (p : Addr) (ns : List Int), xs = [.ref p] /\ SqL X.K H p (ns.map V.int) /\ ns ≠ [] /\ Q (.int (maxI ns)) H) := by
 intro pins s σ H xs us Q I r h
 obtain ⟨hc, p, ns, rfl, hp, hne, q⟩ := h
 obtain ⟨u, rfl, ru⟩ := jC r
 cases ru
 obtain ⟨its, rv, hl, hz⟩ := I.list hp
 obtain ⟨xs, e1, e2⟩ := ints_pair rv
 have hn : xs.size = ns.length := by rw [← e2]; simp
 have h0 : 0 < xs.size := by rw [hn]; exact List.length_pos_iff.mpr hne
 rw [e1] at hl
 refine max_intList (I.ok.hd hc) hl.isList h0 fun v h' tk hv k => ?_
 obtain ⟨tk', rfl⟩ := intItems_at hv
 refine ⟨.int (maxI ns), H, I.kept k, ⟨tk', ?_⟩, q⟩
 have b := best_max (numAt xs) (xs.size - 1)
 have at_mem : ∀ i, i < xs.size -> numAt xs i ∈ ns := fun i hi => by
   rw [← e2]
   simp only [numAt, Array.getElem?_eq_getElem hi, Option.map_some, Option.getD_some, List.mem_map]
   exact ⟨xs[i], by simp, rfl⟩
 have e3 : numAt xs (argBest (fun i j => decide (numAt xs i > numAt xs j)) (xs.size - 1)) = maxI ns := by
   refine maxI_is (at_mem _ (by omega)) fun n hn' => ?_
   rw [← e2] at hn'
   obtain ⟨y, hy, rfl⟩ := List.mem_map.mp hn'
   obtain ⟨i, hi, rfl⟩ := List.getElem_of_mem hy
   have hi' : i < xs.size := by simpa using hi
   have := b.1 i (by omega)
   simpa [numAt, hi'] using this
 rw [e3]
theorem call_isi {T : String} : xN X (.builtin "isinstance") (fun xs H Q => ∃ x t b, xs = [x, .ty T] /\ TyOf X.K H x t /\ PySem.W.kitOne X.K t (.type T) = some b /\ Q (.bl b) H) := by
 intro pins s σ H xs us Q I r h
 obtain ⟨x, t, b, rfl, ty, e, q⟩ := h
 obtain ⟨u, w', rfl, ru, rw'⟩ := vals2 r
 cases rw'
 exact isinst_ok I ru ty e fun tk => ⟨.bl b, H, I.tok tk, rfl, q⟩
end
structure Has (P : Program) (w : World) (K : PySem.W.Frag) (mg : Str -> Option Value) (base : Heap) (k : Nat) (x : Str) (ps : List Str) (sp : Sp) : Prop where
 ex : ∃ f fd, FnOk P w K mg base CX0 k f fd ps sp /\ Binds K fd ps [] /\ PySem.W.keepIn K (.ref f) = true /\ mg x = some (.ref f)
def Gc (mg : Str -> Option Value) (x : Str) (v : V) : Prop := ∃ u, mg x = some u /\ RelV v u
section
variable {X : Cx} {k : Nat} {x : Str} {ps : List Str} {sp : Sp} {p pos : Pos} {e : Expr} {es : List Expr} {t : TA} {v : V}
theorem Has.mono {P : Program} {w : World} {K : PySem.W.Frag} {mg : Str -> Option Value} {base : Heap} {j k : Nat} (h : Has P w K mg base j x ps sp) (hk : j <= k) : Has P w K mg base k x ps sp := by
 obtain ⟨f, fd, F, r⟩ := h.ex
 exact ⟨f, fd, F.mono hk, r⟩
theorem zJ (h : Has X.prog X.w X.K X.mg X.base k x ps sp) (hr : Room k X.A) (hg : Gl X x) (ha : PA X (e :: es) t) (hdb : (x == ("__debug__" : Str)) = false := by decide)
   (he : starEach (e :: es) X.env = (false, eval e X.env) :: starEach es X.env := by rfl) (hpl : (backTo pos (starEach es X.env)).any (·.1) = false := by rfl) : PE X (.Call (.Name x p) (e :: es) [] pos) (tCall sp [] E0 t) := by
 obtain ⟨f, fd, F, b, kp, m⟩ := h.ex
 exact pe_call F hr hg m kp b .nil pass0 ha hdb he hpl
theorem pe_ty {T : String} (hm : X.mg x = none) (hv : bootBuiltins x = some (.type T)) (hg : Gl X x) (hn : x ≠ "__name__" := by decide) (hd : (x == ("__debug__" : Str)) = false := by decide) : PE X (.Name x pos) (tC (.ty T)) :=
 pe_bltn hg hm hv rfl hn hd
end
theorem qT {X : Cx} : PIf X [] none := trivial
def lcOk (xs ys : List Str) (scope around : Scope) : Bool :=
 (scope.kind == .function) && decide (xs ++ ys).Nodup && xs.all (fun x => scope.names.lookup x == some .local) &&
 ys.all (fun y => (scope.names.lookup y == some .free) && ((around.names.lookup y == some .cell) || (around.names.lookup y == some .free))) &&
 scope.names.all (fun y => (y.2 != .cell) && ((y.2 != .local) || (scope.names.lookup y.1 == some .local)) && ((y.2 != .free) || ys.contains y.1))
theorem lcOk.scope {xs ys : List Str} {scope around : Scope} (h : lcOk xs ys scope around = true) : LcScope xs ys scope around := by
 unfold lcOk at h
 simp only [Bool.and_eq_true, beq_iff_eq, decide_eq_true_eq, List.all_eq_true, Bool.or_eq_true, bne_iff_ne, List.contains_iff_mem] at h
 obtain ⟨⟨⟨⟨h1, h2⟩, h3⟩, h4⟩, h5⟩ := h
 exact ⟨h1, h2, h3, h4, fun y hy => (h5 y hy).1.1, fun y hy hl => (h5 y hy).1.2.resolve_left (fun z => z hl), fun y hy hf => (h5 y hy).2.resolve_left (fun z => z hf)⟩
def capOk (N ys : List Str) (js : List Nat) : Bool := (js.length == ys.length) && (ys.zip js).all fun p => N[p.2]? == some p.1
theorem capOk.caps {X : Cx} {ys : List Str} {js : List Nat} (h : capOk X.N ys js = true) : Caps X ys js := by
 unfold capOk at h
 simp only [Bool.and_eq_true, beq_iff_eq, List.all_eq_true] at h
 refine ⟨h.1, fun i y j hy hj => ?_⟩
 refine h.2 (y, j) (List.mem_of_getElem? (i := i) ?_)
 rw [List.getElem?_zip_eq_some]
 exact ⟨hy, hj⟩
section
variable {X : Cx} {xs ys : List Str} {scope : Scope} {js : List Nat} {tg iter elt : Expr} {ifs : List Expr} {pos : Pos} {wi : TI} {g : TG} {tc : Option TT} {te : TE}
theorem pe_comp (xs ys : List Str) (js : List Nat) (hi : PI X tg iter wi)
   (hg : ∀ C s₀ H₀ fp, (xs ++ ys).Nodup -> PG (zX X xs ys scope C s₀ H₀ fp) tg g) (hif : ∀ C s₀ H₀ fp, PIf (zX X xs ys scope C s₀ H₀ fp) ifs tc) (he : ∀ C s₀ H₀ fp, PE (zX X xs ys scope C s₀ H₀ fp) elt te)
   (hc : X.calm = true := by rfl) (S : lcOk xs ys scope X.env.scope = true := by rfl) (hj : capOk X.N ys js = true := by rfl)
   (hs : ∀ x, foldedSetIterable iter X.env x = pure x := by intro _; rfl) : PE X (.ListComp elt [⟨tg, iter, ifs, 0⟩] scope pos) (tLC xs js wi g tc te) :=
 pe_lc hc (lcOk.scope S) (capOk.caps hj) hi (fun C s₀ H₀ fp => hg C s₀ H₀ fp (lcOk.scope S).nd) hif he hs
theorem ps_comp {i : Nat} {x : Str} {p' p : Pos} (xs ys : List Str) (js : List Nat) (hN : X.N.Nodup) (hx : X.N[i]? = some x) (hi : PI X tg iter wi)
   (hg : ∀ C s₀ H₀ fp, (xs ++ ys).Nodup -> PG (zX X xs ys scope C s₀ H₀ fp) tg g) (hif : ∀ C s₀ H₀ fp, PIf (zX X xs ys scope C s₀ H₀ fp) ifs tc) (he : ∀ C s₀ H₀ fp, PE (zX X xs ys scope C s₀ H₀ fp) elt te)
   (hl : X.env.scope.names.lookup x = some .local := by rfl) (hc : X.calm = true := by rfl) (S : lcOk xs ys scope X.env.scope = true := by rfl) (hj : capOk X.N ys js = true := by rfl)
   (hsw : swapsWith (.ListComp elt [⟨tg, iter, ifs, 0⟩] scope pos) (some (.Name x p')) p.line X.env = pure true := by rfl)
   (hs : ∀ x, foldedSetIterable iter X.env x = pure x := by intro _; rfl) : PS X (.Assign [.Name x p'] (.ListComp elt [⟨tg, iter, ifs, 0⟩] scope pos) p) (tAsg (tLC xs js wi g tc te) (gName i)) :=
 ps_setLC hN hx hl hc (lcOk.scope S) (capOk.caps hj) hi (fun C s₀ H₀ fp => hg C s₀ H₀ fp (lcOk.scope S).nd) hif he hsw hs
end
theorem bt_len : bootBuiltins "len" = some (.builtin "len") := by decide +kernel
theorem bt_isinstance : bootBuiltins "isinstance" = some (.builtin "isinstance") := by decide +kernel
theorem bt_max : bootBuiltins "max" = some (.builtin "max") := by decide +kernel
theorem bt_tuple : bootBuiltins "tuple" = some (.type "tuple") := by decide +kernel
theorem bt_list : bootBuiltins "list" = some (.type "list") := by decide +kernel
theorem bt_int : bootBuiltins "int" = some (.type "int") := by decide +kernel
theorem bt_bool : bootBuiltins "bool" = some (.type "bool") := by decide +kernel
theorem bt_dict : bootBuiltins "dict" = some (.type "dict") := by decide +kernel
theorem cx_K {CX : CXT} {P : Program} {w : World} {K : PySem.W.Frag} {mg : Str -> Option Value} {base : Heap} {N : List Str} {qual : Str} {scope : Scope} {f : Addr} {cd : Value} {A : Around} {outer : List Env} {s : Shared} {H : Hp} {E : XK} : (jR CX P w K mg base N qual scope f cd A outer s H E).K = K := rfl
theorem cx_calm {CX : CXT} {P : Program} {w : World} {K : PySem.W.Frag} {mg : Str -> Option Value} {base : Heap} {N : List Str} {qual : Str} {scope : Scope} {f : Addr} {cd : Value} {A : Around} {outer : List Env} {s : Shared} {H : Hp} {E : XK} : (jR CX P w K mg base N qual scope f cd A outer s H E).calm = true := rfl
theorem bk_calm {X : Cx} {xs ys : List Str} {scope : Scope} {C : Addr} {s₀ : Shared} {H₀ : Hp} {fp : List Addr} : (zX X xs ys scope C s₀ H₀ fp).calm = X.calm := rfl
theorem lenV_str {K : PySem.W.Frag} {y : Str} {H : Hp} {n : Nat} : LenV K (.str y) H n ↔ (y.length <= sizeLine /\ n = y.length) := Iff.rfl
theorem bk_K {X : Cx} {xs ys : List Str} {scope : Scope} {C : Addr} {s₀ : Shared} {H₀ : Hp} {fp : List Addr} : (zX X xs ys scope C s₀ H₀ fp).K = X.K := rfl
theorem ix_nat {ns : List Int} {k : Nat} (h : (k : Int) < ns.length) : atI (ns.map V.int) (k : Int) = some (.int (ns.getD k 0)) := by
 refine yI ?_
 have h' : k < ns.length := by omega
 rw [List.getElem?_map, List.getElem?_eq_getElem h', List.getD_eq_getElem?_getD, List.getElem?_eq_getElem h']
 rfl
theorem lc_by {J : It} {n : Nat} {ns : List Str} {js : List Nat} {g : TG} {te : TE} {σ : St} {H : Hp} {Q : VK} (Pv : Nat -> List V -> St -> Hp -> Prop) (h0 : Pv 0 [] (lcSt ns js σ) H) (hn : n <= sizeLine) (hl : ∀ i ys σ H, Pv i ys σ H -> ys.length <= i)
   (hgo : ∀ i ys σ H, i < n -> Pv i ys σ H -> J.go i H) (hst : ∀ ys σ H, Pv n ys σ H -> J.stop n H)
   (hs : ∀ i ys σ H x H' (C : V -> St -> Hp -> Prop), i < n -> Pv i ys σ H -> J.yld i H x H' -> (∀ y σ2 H3, Pv (i + 1) (ys ++ [y]) σ2 H3 -> C y σ2 H3) -> g x σ H' fun σ2 H2 => te σ2 H2 fun y H3 => C y σ2 H3)
   (hd : ∀ ys σ H, Pv n ys σ H -> ∀ p, H p = none -> Q (.ref p) (upd H p (.lst ys))) :
   LcW J ns js g none te σ H Q := by
 refine ⟨fun i m ys σ H => i + m = n /\ Pv i ys σ H, ⟨n, by omega, h0⟩, fun i m ys σ H ⟨e, w⟩ => ?_⟩
 by_cases hi : i < n
 · refine .inr ⟨hgo i ys σ H hi w, Nat.lt_of_le_of_lt (hl _ _ _ _ w) (by omega), fun x H' hy => ?_⟩
   exact hs i ys σ H x H' (fun y σ2 H3 => ∃ m', m' < m /\ i + 1 + m' = n /\ Pv (i + 1) (ys ++ [y]) σ2 H3) hi w hy fun y σ2 H3 q => ⟨m - 1, by omega, by omega, q⟩
 · have : i = n := by omega
   subst this
   exact .inl ⟨hst ys σ H w, hd ys σ H w⟩
theorem lc_tup {K : PySem.W.Frag} {a : Addr} {xs : List V} {ns : List Str} {js : List Nat} {g : TG} {te : TE} {σ : St} {H : Hp} {Q : VK} (Pv : Nat -> List V -> St -> Hp -> Prop) (h0 : Pv 0 [] (lcSt ns js σ) H) (hz : xs.length <= sizeLine) (hl : ∀ i ys σ H, Pv i ys σ H -> ys.length <= i)
   (hK : ∀ i ys σ H, Pv i ys σ H -> SqT K H a xs)
   (hs : ∀ (i : Nat) x ys σ H (C : V -> St -> Hp -> Prop), xs[i]? = some x -> Pv i ys σ H -> (∀ y σ2 H3, Pv (i + 1) (ys ++ [y]) σ2 H3 -> C y σ2 H3) -> g x σ H fun σ2 H2 => te σ2 H2 fun y H3 => C y σ2 H3)
   (hd : ∀ ys σ H, Pv xs.length ys σ H -> ∀ p, H p = none -> Q (.ref p) (upd H p (.lst ys))) :
   LcW (Itt K a) ns js g none te σ H Q :=
 lc_by (n := xs.length) Pv h0 hz hl (fun i ys σ H hi w => ⟨xs, xs[i], hK i ys σ H w, List.getElem?_eq_getElem hi⟩) (fun ys σ H w => ⟨xs, hK _ ys σ H w, Nat.le_refl _⟩)
   (fun i ys σ H x H' C hi w ⟨e, hx⟩ hC => by subst e; exact hs i x ys σ _ C (hx xs (hK i ys σ _ w)) w hC) hd
theorem lc_list {K : PySem.W.Frag} {a : Addr} {xs : List V} {ns : List Str} {js : List Nat} {g : TG} {te : TE} {σ : St} {H : Hp} {Q : VK} (Pv : Nat -> List V -> St -> Hp -> Prop) (h0 : Pv 0 [] (lcSt ns js σ) H) (hz : xs.length <= sizeLine) (hl : ∀ i ys σ H, Pv i ys σ H -> ys.length <= i)
   (hK : ∀ i ys σ H, Pv i ys σ H -> SqL K H a xs)
   (hs : ∀ (i : Nat) x ys σ H (C : V -> St -> Hp -> Prop), xs[i]? = some x -> Pv i ys σ H -> (∀ y σ2 H3, Pv (i + 1) (ys ++ [y]) σ2 H3 -> C y σ2 H3) -> g x σ H fun σ2 H2 => te σ2 H2 fun y H3 => C y σ2 H3)
   (hd : ∀ ys σ H, Pv xs.length ys σ H -> ∀ p, H p = none -> Q (.ref p) (upd H p (.lst ys))) :
   LcW (Itl K a) ns js g none te σ H Q :=
 lc_by (n := xs.length) Pv h0 hz hl (fun i ys σ H hi w => ⟨xs, xs[i], hK i ys σ H w, List.getElem?_eq_getElem hi⟩) (fun ys σ H w => ⟨xs, hK _ ys σ H w, Nat.le_refl _⟩)
   (fun i ys σ H x H' C hi w ⟨e, hx⟩ hC => by subst e; exact hs i x ys σ _ C (hx xs (hK i ys σ _ w)) w hC) hd
def ForW (J : It) (g : TG) (tb : TS) (D : Ends) (σ : St) (H : Hp) : Prop := ∃ W : Nat -> Nat -> St -> Hp -> Prop, (∃ m, W 0 m σ H) /\ ∀ i m σ H, W i m σ H ->
 (J.stop i H /\ D.nx σ H) \/ (J.go i H /\ ∃ N : St -> Hp -> Prop, (∀ σ' H', N σ' H' -> ∃ m', m' < m /\ W (i + 1) m' σ' H') /\ ∀ x H', J.yld i H x H' -> g x σ H' fun σ2 H2 => tb { D with nx := N, ct := N, bk := D.nx } σ2 H2)
theorem tFor_eq {wi : TI} {g : TG} {tb : TS} {D : Ends} {σ : St} {H : Hp} : tFor wi g tb D σ H = wi σ H fun J H1 => ForW J g tb D σ H1 := rfl
theorem tLC_eq {n : List Str} {js : List Nat} {wi : TI} {g : TG} {tc : Option TT} {te : TE} {σ : St} {H : Hp} {Q : VK} : tLC n js wi g tc te σ H Q = wi σ H fun J H1 => LcW J n js g tc te σ H1 Q := rfl
theorem uA {K : PySem.W.Frag} {a : Addr} {xs : List V} {g : TG} {tb : TS} {D : Ends} {σ : St} {H : Hp} (Pv : Nat -> St -> Hp -> Prop) (h0 : Pv 0 σ H) (hl : ∀ i σ H, i <= xs.length -> Pv i σ H -> SqL K H a xs)
   (hs : ∀ i x σ H, xs[i]? = some x -> Pv i σ H -> g x σ H fun σ2 H2 => tb { D with nx := Pv (i + 1), ct := Pv (i + 1), bk := D.nx } σ2 H2) (hd : ∀ σ H, Pv xs.length σ H -> D.nx σ H) : ForW (Itl K a) g tb D σ H := for_list Pv h0 hl hs hd
theorem qZ {K : PySem.W.Frag} {a : Addr} {xs : List V} {g : TG} {tb : TS} {D : Ends} {σ : St} {H : Hp} (Pv : Nat -> St -> Hp -> Prop) (h0 : Pv 0 σ H) (hl : ∀ i σ H, i <= xs.length -> Pv i σ H -> SqT K H a xs)
   (hs : ∀ i x σ H, xs[i]? = some x -> Pv i σ H -> g x σ H fun σ2 H2 => tb { D with nx := Pv (i + 1), ct := Pv (i + 1), bk := D.nx } σ2 H2) (hd : ∀ σ H, Pv xs.length σ H -> D.nx σ H) : ForW (Itt K a) g tb D σ H := for_tup Pv h0 hl hs hd
theorem fw_range {lo : Int} {n : Nat} {g : TG} {tb : TS} {D : Ends} {σ : St} {H : Hp} (Pv : Nat -> St -> Hp -> Prop) (h0 : Pv 0 σ H)
   (hs : ∀ i σ H, i < n -> Pv i σ H -> g (.int (lo + i)) σ H fun σ2 H2 => tb { D with nx := Pv (i + 1), ct := Pv (i + 1), bk := D.nx } σ2 H2) (hd : ∀ σ H, Pv n σ H -> D.nx σ H) : ForW (Itr lo n) g tb D σ H := for_range Pv h0 hs hd
theorem zG {t u : TS} {D : Ends} {σ : St} {H : Hp} (h : ∀ N : St -> Hp -> Prop, (∀ σ H, u D σ H -> N σ H) -> t { D with nx := N } σ H) : tSeq t u D σ H := h (u D) fun _ _ z => z
theorem if_abs {c : TT} {t u : TS} {D : Ends} {σ : St} {H : Hp} (h : ∀ T U : Hp -> Prop, (∀ H1, t D σ H1 -> T H1) -> (∀ H1, u D σ H1 -> U H1) -> c σ H fun b H1 => if b = true then T H1 else U H1) : tIfS c t u D σ H := h (t D σ) (u D σ) (fun _ z => z) fun _ z => z
theorem yA {t u : TS} {D : Ends} {σ : St} {H : Hp} (J : St -> Hp -> Prop) (h1 : ∀ N : St -> Hp -> Prop, (∀ σ H, J σ H -> N σ H) -> t { D with nx := N } σ H) (h2 : ∀ σ H, J σ H -> u D σ H) : tSeq t u D σ H := h1 (u D) h2
structure Bi (mg : Str -> Option Value) : Prop where
 len : mg "len" = none
 range : mg "range" = none
 isinstance : mg "isinstance" = none
 max : mg "max" = none
 sum : mg "sum" = none
 all : mg "all" = none
 tuple : mg "tuple" = none
 list : mg "list" = none
 sorted : mg "sorted" = none
 set : mg "set" = none
 int : mg "int" = none
 bool : mg "bool" = none
 str : mg "str" = none
 dict : mg "dict" = none
theorem yG {P : Program} {w : World} {K : PySem.W.Frag} {mg : Str -> Option Value} {base : Heap} {k : Nat} {x : Str} {ps : List Str} {sp : Sp} {st : Stmt} {f : Addr} {fd : FuncData} (F : Fun K x x st f fd) (ok : FnOk P w K mg base CX0 k f fd ps sp) (b : Binds K fd ps [])
   (m : mg x = some (.ref f)) : Has P w K mg base k x ps sp := ⟨f, fd, ok, b, F.kp, m⟩
inductive Dt where
 | non | bl (b : Bool) | int (i : Int) | str (x : Str) | tup (ds : List Dt) | lst (ds : List Dt)
mutual
def DAt (H : Hp) : Dt -> V -> Prop
 | .non, v => v = .non
 | .bl b, v => v = .bl b
 | .int i, v => v = .int i
 | .str x, v => v = .str x
 | .tup ds, v => ∃ a vs, v = .ref a /\ H a = some (.tup vs) /\ DAts H ds vs
 | .lst ds, v => ∃ a vs, v = .ref a /\ H a = some (.lst vs) /\ DAts H ds vs
def DAts (H : Hp) : List Dt -> List V -> Prop
 | [], vs => vs = []
 | d :: ds, vs => ∃ v r, vs = v :: r /\ DAt H d v /\ DAts H ds r
end
mutual
theorem DAt.same {H H' : Hp} (e : Same H H') : ∀ {d : Dt} {v : V}, DAt H d v -> DAt H' d v
 | .non, _, h => h
 | .bl _, _, h => h
 | .int _, _, h => h
 | .str _, _, h => h
 | .tup ds, v, h => by
   obtain ⟨a, vs, e1, e2, e3⟩ := h
   exact ⟨a, vs, e1, e _ _ e2, DAts.same e e3⟩
 | .lst ds, v, h => by
   obtain ⟨a, vs, e1, e2, e3⟩ := h
   exact ⟨a, vs, e1, e _ _ e2, DAts.same e e3⟩
theorem DAts.same {H H' : Hp} (e : Same H H') : ∀ {ds : List Dt} {vs : List V}, DAts H ds vs -> DAts H' ds vs
 | [], _, h => h
 | d :: ds, vs, h => by
   obtain ⟨v, r, e1, e2, e3⟩ := h
   exact ⟨v, r, e1, DAt.same e e2, DAts.same e e3⟩
end
theorem DAts.length {H : Hp} : ∀ {ds : List Dt} {vs : List V}, DAts H ds vs -> vs.length = ds.length
 | [], vs, h => by
   have h : vs = [] := h
   rw [h]
   rfl
 | d :: ds, vs, h => by
   obtain ⟨v, r, e1, e2, e3⟩ := h
   rw [e1, List.length_cons, List.length_cons, DAts.length e3]
theorem DAts.get {H : Hp} : ∀ {ds : List Dt} {vs : List V} {i : Nat} {d : Dt}, DAts H ds vs -> ds[i]? = some d -> ∃ v, vs[i]? = some v /\ DAt H d v
 | [], vs, i, d, _, e => by simp at e
 | d :: ds, vs, 0, d', h, e => by
   obtain ⟨v, r, e1, e2, e3⟩ := h
   simp at e
   subst e; subst e1
   exact ⟨v, rfl, e2⟩
 | d :: ds, vs, i + 1, d', h, e => by
   obtain ⟨v, r, e1, e2, e3⟩ := h
   subst e1
   simp at e
   obtain ⟨u, h1, h2⟩ := DAts.get e3 e
   exact ⟨u, by simpa using h1, h2⟩
theorem DAts.append {H : Hp} : ∀ {ds es : List Dt} {vs us : List V}, DAts H ds vs -> DAts H es us -> DAts H (ds ++ es) (vs ++ us)
 | [], es, vs, us, h, h' => by
   have h : vs = [] := h
   subst h
   exact h'
 | d :: ds, es, vs, us, h, h' => by
   obtain ⟨v, r, e1, e2, e3⟩ := h
   subst e1
   exact ⟨v, r ++ us, rfl, e2, DAts.append e3 h'⟩
theorem DAts.take {H : Hp} : ∀ {ds : List Dt} {vs : List V} (n : Nat), DAts H ds vs -> DAts H (ds.take n) (vs.take n)
 | ds, vs, 0, _ => rfl
 | [], vs, n + 1, h => by
   have h : vs = [] := h
   subst h
   rfl
 | d :: ds, vs, n + 1, h => by
   obtain ⟨v, r, e1, e2, e3⟩ := h
   subst e1
   exact ⟨v, r.take n, rfl, e2, DAts.take n e3⟩
theorem DAts.drop {H : Hp} : ∀ {ds : List Dt} {vs : List V} (n : Nat), DAts H ds vs -> DAts H (ds.drop n) (vs.drop n)
 | ds, vs, 0, h => by simpa using h
 | [], vs, n + 1, h => by
   have h : vs = [] := h
   subst h
   rfl
 | d :: ds, vs, n + 1, h => by
   obtain ⟨v, r, e1, e2, e3⟩ := h
   subst e1
   simpa using DAts.drop n e3
theorem DAts.one {H : Hp} {d : Dt} {v : V} (h : DAt H d v) : DAts H [d] [v] := ⟨v, [], rfl, h, rfl⟩
def DFit : Nat -> Dt -> Prop
 | n + 1, .tup ds => ds.length <= 1000 /\ ∀ d ∈ ds, DFit n d
 | n + 1, .lst ds => ds.length <= 1000 /\ ∀ d ∈ ds, DFit n d
 | 0, .tup _ => False
 | 0, .lst _ => False
 | _, _ => True
inductive Tm where
 | name (x : Str)
 | node (w : Str) (ts : List Tm)
mutual
def toD : Tm -> Dt
 | .name x => .tup [.str "name", .str x]
 | .node w ts => .tup (.str w :: toDs ts)
def toDs : List Tm -> List Dt
 | [] => []
 | t :: ts => toD t :: toDs ts
end
theorem toDs_map : ∀ ts : List Tm, toDs ts = ts.map toD
 | [] => rfl
 | t :: ts => by rw [toDs, toDs_map ts, List.map_cons]
theorem toD_node (w : Str) (ts : List Tm) : toD (.node w ts) = .tup (.str w :: ts.map toD) := by rw [toD, toDs_map]
abbrev TAt (H : Hp) (t : Tm) (v : V) : Prop := DAt H (toD t) v
abbrev TAts (H : Hp) (ts : List Tm) (vs : List V) : Prop := DAts H (ts.map toD) vs
theorem TAt.name {H : Hp} {x : Str} {v : V} (h : TAt H (.name x) v) : ∃ a, v = .ref a /\ H a = some (.tup [.str "name", .str x]) := by
 obtain ⟨a, vs, e1, e2, u, r, e3, e4, e5⟩ := h
 obtain ⟨u2, r2, e6, e7, e8⟩ := e5
 have e4 : u = .str "name" := e4
 have e7 : u2 = .str x := e7
 have e8 : r2 = [] := e8
 subst e3; subst e4; subst e6; subst e7; subst e8
 exact ⟨a, e1, e2⟩
theorem TAt.mkName {H : Hp} {x : Str} {a : Addr} (h : H a = some (.tup [.str "name", .str x])) : TAt H (.name x) (.ref a) :=
 ⟨a, _, rfl, h, _, _, rfl, rfl, _, _, rfl, rfl, rfl⟩
theorem TAt.node {H : Hp} {w : Str} {ts : List Tm} {v : V} (h : TAt H (.node w ts) v) : ∃ a vs, v = .ref a /\ H a = some (.tup (.str w :: vs)) /\ TAts H ts vs := by
 unfold TAt at h
 rw [toD_node] at h
 obtain ⟨a, vs, e1, e2, u, r, e3, e4, e5⟩ := h
 have e4 : u = .str w := e4
 subst e3; subst e4
 exact ⟨a, r, e1, e2, e5⟩
theorem TAt.mkNode {H : Hp} {w : Str} {ts : List Tm} {a : Addr} {vs : List V} (h : H a = some (.tup (.str w :: vs))) (hs : TAts H ts vs) : TAt H (.node w ts) (.ref a) := by
 unfold TAt
 rw [toD_node]
 exact ⟨a, _, rfl, h, _, _, rfl, rfl, hs⟩
def Sh (w : Str) (n : Nat) : Prop := (w = "none" /\ n = 0) \/ (w = "all" /\ n = 0) \/ (w = "not" /\ n = 1) \/ (w = "both" /\ 2 <= n) \/ (w = "either" /\ 2 <= n)
structure Nm (x : Str) : Prop where
 pos : 1 <= x.length
 most : x.length <= 8
 low : ∀ c ∈ x.cps.toList, 97 <= c /\ c <= 122
 nn : x ≠ "none"
 na : x ≠ "all"
def Fit : Nat -> Tm -> Prop
 | _, .name x => Nm x
 | 0, .node w ts => Sh w ts.length /\ ts = []
 | n + 1, .node w ts => Sh w ts.length /\ ∀ t ∈ ts, Fit n t
theorem Fit.up : ∀ {n : Nat} {t : Tm}, Fit n t -> Fit (n + 1) t
 | n, .name _, h => by unfold Fit at h ⊢; exact h
 | 0, .node w ts, h => by
   unfold Fit at h
   obtain ⟨h1, h2⟩ := h
   subst h2
   exact ⟨h1, fun _ z => nomatch z⟩
 | n + 1, .node w ts, h => by
   unfold Fit at h ⊢
   exact ⟨h.1, fun t ht => Fit.up (h.2 t ht)⟩
theorem Fit.mono {n m : Nat} {t : Tm} (h : Fit n t) (hm : n <= m) : Fit m t := by
 obtain ⟨k, rfl⟩ := Nat.le.dest hm
 induction k with
 | zero => exact h
 | succ k ih => exact Fit.up (ih (by omega))
mutual
def wt : Tm -> Nat
 | .name _ => 1
 | .node _ ts => 1 + wts ts
def wts : List Tm -> Nat
 | [] => 0
 | t :: ts => wt t + wts ts
end
theorem wt_pos : ∀ t : Tm, 1 <= wt t
 | .name _ => by rw [wt]; omega
 | .node _ _ => by rw [wt]; omega
theorem wts_len : ∀ ts : List Tm, ts.length <= wts ts
 | [] => by simp
 | t :: ts => by
   have := wts_len ts
   have := wt_pos t
   rw [wts, List.length_cons]
   omega
theorem wts_append : ∀ ts us : List Tm, wts (ts ++ us) = wts ts + wts us
 | [], us => by simp [wts]
 | t :: ts, us => by rw [List.cons_append, wts, wts, wts_append ts us]; omega
theorem zE {H : Hp} {p : Addr} (h : H p = none) (o : HO) : Same H (upd H p o) := fun b u q => by rw [zH (zU q h)]; exact q
theorem len_app (p q : Str) : (p ++ q).length = p.length + q.length := by
 show (p.cps ++ q.cps).size = p.cps.size + q.cps.size
 rw [Array.size_append]
theorem cps_app (p q : Str) : (p ++ q).cps.toList = p.cps.toList ++ q.cps.toList := by
 show (p.cps ++ q.cps).toList = _
 rw [Array.toList_append]
theorem small {n : Nat} (h : n <= 1000) : n <= sizeLine := Nat.le_of_lt (zR h)
theorem TAts.one {H : Hp} {t : Tm} {v : V} (h : TAt H t v) : TAts H [t] [v] := DAts.one h
theorem TAts.append {H : Hp} {ts us : List Tm} {vs ws : List V} (h : TAts H ts vs) (h' : TAts H us ws) : TAts H (ts ++ us) (vs ++ ws) := by
 unfold TAts
 rw [List.map_append]
 exact DAts.append h h'
theorem TAts.take {H : Hp} {ts : List Tm} {vs : List V} (n : Nat) (h : TAts H ts vs) : TAts H (ts.take n) (vs.take n) := by
 unfold TAts
 rw [List.map_take]
 exact DAts.take n h
theorem TAts.drop {H : Hp} {ts : List Tm} {vs : List V} (n : Nat) (h : TAts H ts vs) : TAts H (ts.drop n) (vs.drop n) := by
 unfold TAts
 rw [List.map_drop]
 exact DAts.drop n h
theorem TAts.length {H : Hp} {ts : List Tm} {vs : List V} (h : TAts H ts vs) : vs.length = ts.length := by
 have := DAts.length h
 rw [List.length_map] at this
 exact this
def TupSame (H H' : Hp) : Prop := ∀ b xs, H b = some (.tup xs) -> H' b = some (.tup xs)
theorem TupSame.refl (H : Hp) : TupSame H H := fun _ _ h => h
theorem TupSame.trans {H H1 H2 : Hp} (a : TupSame H H1) (b : TupSame H1 H2) : TupSame H H2 := fun c o h => b c o (a c o h)
theorem Same.tups {H H' : Hp} (e : Same H H') : TupSame H H' := fun b xs h => e b _ h
theorem TupSame.upd_lst {H H' : Hp} {a : Addr} {o : HO} {xs : List V} (e : TupSame H H') (h : H' a = some (.lst xs)) : TupSame H (upd H' a o) := fun b ys hb => by
 rw [zH (ne_of (e _ _ hb) h (by intro z; cases z))]
 exact e _ _ hb
theorem TupSame.upd_new {H H' : Hp} {a : Addr} {o : HO} (e : TupSame H H') (h : H' a = none) : TupSame H (upd H' a o) := fun b ys hb => by
 rw [zH (zU (e _ _ hb) h)]
 exact e _ _ hb
theorem Same.upd {H H1 : Hp} {a : Addr} {o : HO} (e : Same H H1) (h : H a = none) : Same H (upd H1 a o) := fun b u hb => by
 rw [zH (zU hb h)]
 exact e _ _ hb
mutual
theorem TAt.tups {H H' : Hp} (e : TupSame H H') : ∀ {t : Tm} {v : V}, TAt H t v -> TAt H' t v
 | .name x, v, h => by
   obtain ⟨a, e1, h2⟩ := TAt.name h
   subst e1
   exact TAt.mkName (e _ _ h2)
 | .node w ts, v, h => by
   obtain ⟨a, vs, e1, h2, hs⟩ := TAt.node h
   subst e1
   exact TAt.mkNode (e _ _ h2) (TAts.tups e hs)
theorem TAts.tups {H H' : Hp} (e : TupSame H H') : ∀ {ts : List Tm} {vs : List V}, TAts H ts vs -> TAts H' ts vs
 | [], vs, h => h
 | t :: ts, vs, h => by
   obtain ⟨v, r, e1, e2, e3⟩ := h
   exact ⟨v, r, e1, TAt.tups e e2, TAts.tups e e3⟩
end
structure KD (w : World) (K : PySem.W.Frag) (a : Addr) (kvs : List (Key × V)) : Prop where
 dict : ∀ (P : Program) (h : Heap), K.In h -> ∃ vs, KV kvs vs /\ h.DictOf (zQ P w) a vs
def tKGet (w : World) (K : PySem.W.Frag) (td ty : TE) : TE := fun σ H Q => td σ H fun x H1 => ty σ H1 fun y H2 => ∃ a kvs k v, x = .ref a /\ y = kV k /\ KD w K a kvs /\ yV kvs k = some v /\ Q v H2
def entOk (w : World) : List DictEntry -> List (Str × Str) -> Prop
 | [], r => r = []
 | e :: es, r => ∃ x y t u r', r = (x, y) :: r' /\ e.hash = hashStr w x /\ e.key = .str x t /\ e.val = .str y u /\ entOk w es r'
theorem entOk.keys {w : World} {P : Program} : ∀ {es : List DictEntry} {r : List (Str × Str)}, entOk w es r -> ∀ e ∈ es, ∃ k, (zQ P w).is k e.key = true /\ e.hash = (zQ P w).hash k
 | [], _, _, e, he => nomatch he
 | e :: es, r, h, e', he => by
   obtain ⟨x, y, t, u, r', _, h1, h2, _, h4⟩ := h
   rcases List.mem_cons.mp he with rfl | he
   · exact ⟨.inr x, by rw [h2]; exact xT P w x t, h1⟩
   · exact entOk.keys h4 e' he
theorem cx_w {CX : CXT} {P : Program} {w : World} {K : PySem.W.Frag} {mg : Str -> Option Value} {base : Heap} {N : List Str} {qual : Str} {scope : Scope} {f : Addr} {cd : Value} {A : Around} {outer : List Env} {s : Shared} {H : Hp} {E : XK} : (jR CX P w K mg base N qual scope f cd A outer s H E).w = w := rfl
theorem bk_w {X : Cx} {xs ys : List Str} {scope : Scope} {C : Addr} {s₀ : Shared} {H₀ : Hp} {fp : List Addr} : (zX X xs ys scope C s₀ H₀ fp).w = X.w := rfl
theorem kit_same {K : PySem.W.Frag} {T : String} : PySem.W.kitOne K (.type T) (.type T) = some true := by
 unfold PySem.W.kitOne
 rw [if_pos (by simp)]
def kitF (S T : String) : Bool := !(Value.type S == Value.type T) && PySem.W.kitMeta T && ((PySem.fastBuiltinMro S).map (·.contains (.type T)) == some false)
theorem kit_f {K : PySem.W.Frag} {S T : String} (h : kitF S T = true) : PySem.W.kitOne K (.type S) (.type T) = some false := by
 unfold kitF at h
 simp only [Bool.and_eq_true, Bool.not_eq_true', beq_iff_eq] at h
 unfold PySem.W.kitOne
 rw [if_neg (by rw [h.1.1]; decide)]
 show (if PySem.W.kitMeta T = true then PySem.W.subIn K (.type S) (.type T) else none) = _
 rw [if_pos h.1.2]
 exact h.2
theorem kit_ib {K : PySem.W.Frag} : PySem.W.kitOne K (.type "int") (.type "bool") = some false := kit_f (by decide +kernel)
theorem rec_ok {P : Program} {w : World} {K : PySem.W.Frag} {mg : Str -> Option Value} {base : Heap} {x : Str} {ps : List Str} {st : Stmt} {f : Addr} {fd : FuncData} {sp : Nat -> Sp} (F : Fun K x x st f fd) (b : Binds K fd ps []) (m : mg x = some (.ref f))
   (h0 : ∀ vs H Q E, ¬ sp 0 vs H Q E) (step : ∀ n, Has P w K mg base n x ps (sp n) -> FnOk P w K mg base CX0 (n + 1) f fd ps (sp (n + 1))) : ∀ n, FnOk P w K mg base CX0 n f fd ps (sp n)
 | 0 => ⟨fun vs H Q E h => (h0 vs H Q E h).elim, fun A outer s H args us vs Q E _ _ _ _ h => (h0 vs H Q E h).elim⟩
 | n + 1 => step n (yG F (rec_ok F b m h0 step n) b m)
theorem xL (x : V) (xs : List V) : yM (x :: xs) (some 1) none = xs := by
 unfold yM
 have e : HT.sIx (x :: xs).length 0 (some ((1 : Nat) : Int)) = 1 := by rw [HT.sIx_nat, List.length_cons]; omega
 have e : HT.sIx (x :: xs).length 0 (some 1) = 1 := e
 rw [e, HT.sIx_none, List.drop_one, List.tail_cons, List.take_of_length_le (by rw [List.length_cons]; omega)]
theorem Same.tup {K : PySem.W.Frag} {H H' : Hp} {a : Addr} {xs : List V} (e : Same H H') (h : SqT K H a xs) : SqT K H' a xs := by
 rcases h with (h | ⟨o, h⟩) | h
 · exact .inl (.inl (e _ _ h))
 · exact .inl (.inr ⟨o, e _ _ h⟩)
 · exact .inr h
theorem at0 {α : Type} {x : α} {xs : List α} : atI (x :: xs) 0 = some x := yI (j := 0) (xs := x :: xs) rfl
theorem at1 {α : Type} {x y : α} {xs : List α} : atI (x :: y :: xs) 1 = some y := yI (j := 1) (xs := x :: y :: xs) rfl
def dSay (p : Tm × Tm) : Dt := .tup [toD p.1, toD p.2]
abbrev SAts (H : Hp) (ps : List (Tm × Tm)) (vs : List V) : Prop := DAts H (ps.map dSay) vs
theorem SAts.length {H : Hp} {ps : List (Tm × Tm)} {vs : List V} (h : SAts H ps vs) : vs.length = ps.length := by
 have := DAts.length h
 rw [List.length_map] at this
 exact this
def cutI (ns : List Int) (lo hi : Option Int) : List Int := (ns.drop (HT.sIx ns.length 0 lo)).take (HT.sIx ns.length ns.length hi - HT.sIx ns.length 0 lo)
theorem cut_ints (ns : List Int) (lo hi : Option Int) : yM (ns.map V.int) lo hi = (cutI ns lo hi).map V.int := by
 unfold yM cutI
 rw [List.length_map, List.map_take, List.map_drop]
theorem cutI_len2 (ns : List Int) (i j : Nat) : (cutI ns (some (i : Int)) (some (j : Int))).length <= j - i := by
 unfold cutI
 rw [List.length_take, List.length_drop, HT.sIx_nat, HT.sIx_nat]
 omega
section
variable {X : Cx} (K : PySem.W.Frag)
end
end L2
namespace L2
open PySem
abbrev Cs := List Nat
def glue (j : Cs) : List Cs -> Cs
 | [] => []
 | [s] => s
 | s :: r :: q => s ++ j ++ glue j (r :: q)
def jAnd : Cs := [32, 38, 32]
def jOr : Cs := [32, 124, 32]
def jOf (w : Str) : Cs := if w = "both" then jAnd else jOr
def wrN (w : Str) (ss : List Cs) : Cs := if w = "not" then 33 :: ss.headD [] else if ss = [] then w.cps.toList else 40 :: (glue (jOf w) ss ++ [41])
mutual
def wr : Tm -> Cs
 | .name x => x.cps.toList
 | .node w ts => wrN w (wrs ts)
def wrs : List Tm -> List Cs
 | [] => []
 | t :: ts => wr t :: wrs ts
end
end L2
namespace L2
open PySem
def toS (s : Cs) : Str := ⟨s.toArray⟩
end L2
namespace L2
open PySem PySem.Builtin PySem.Builtin.Str PySem.StrLaws
structure Mark (y : Cs) (k m : Nat) : Prop where
 at_ : y[k]? = some m
 once : ∀ j, y[j]? = some m -> j = k
def FitP (n : Nat) (p : Tm × Tm) : Prop := Fit n p.1 /\ Fit n p.2
end L2
namespace L2
open PySem PySem.Spec PyProof.Rows PySem.Builtin PySem.Builtin.Str
section
variable {X : Cx}
end
structure HasM (P : Program) (w : World) (K : PySem.W.Frag) (mg : Str -> Option Value) (base : Heap) (k : Nat) (C : Addr) (m : Str) (ps : List Str) (sp : Sp) : Prop where
 ex : ∃ f fd, FnOk P w K mg base CX0 k f fd ps sp /\ Binds K fd ps [] /\ Meth K C m f
structure HasI (P : Program) (w : World) (K : PySem.W.Frag) (mg : Str -> Option Value) (base : Heap) (k : Nat) (C : Addr) (x : Str) (ps : List Str) (sp : Sp) : Prop where
 ex : ∃ f fd, FnOk P w K mg base CX0 k f fd ps sp /\ Binds K fd ps [] /\ Mk K C f /\ mg x = some (.ref C)
section
variable {X : Cx} {k : Nat} {C : Addr} {x m : Str} {ps : List Str} {sp : Sp} {p pos apos : Pos} {e o : Expr} {es : List Expr} {ta : TE} {t : TA}
end
def rdF (x : Cs) (k : Nat) : List (Str × V) := [("text", .str (toS x)), ("at", .int k)]
def RdAt (C : Addr) (H : Hp) (r : Addr) (x : Cs) (k : Nat) : Prop := ∃ dx, H r = some (.ins C dx (rdF x k))
def SameX (r : Addr) (H H' : Hp) : Prop := ∀ b o, H b = some o -> b ≠ r -> H' b = some o
theorem SameX.trans {r : Addr} {H H1 H2 : Hp} (a : SameX r H H1) (b : SameX r H1 H2) : SameX r H H2 := fun c o h n => b c o (a c o h n) n
theorem Same.x {r : Addr} {H H' : Hp} (a : Same H H') : SameX r H H' := fun c o h _ => a c o h
theorem SameX.upd {r : Addr} {H H1 : Hp} {o : HO} (a : SameX r H H1) : SameX r H (L2.upd H1 r o) := fun c o' h n => by
 rw [zH n]
 exact a c o' h n
theorem SameX.tups {r : Addr} {H H' : Hp} {C : Addr} {x : Cs} {k : Nat} (a : SameX r H H') (h : RdAt C H r x k) : TupSame H H' := fun b xs e => by
 obtain ⟨dx, h⟩ := h
 exact a b _ e (ne_of e h (by intro z; cases z))
theorem F.lk_list_keys : typeLookup (.type "list") "keys" = pure none := by rw [typeLookup_type, PySem.builtinLookup_eq_fast]; kernel_rfl
theorem F.lk_list_ga : typeLookup (.type "list") "__getattr__" = pure none := by rw [typeLookup_type, PySem.builtinLookup_eq_fast]; kernel_rfl
theorem F.sub_ae : isSubtype (.type "AttributeError") (.type "AttributeError") = pure true := by rw [isSubtype_type]; kernel_rfl
def AeAt (h h' : Heap) (e : Addr) : Prop := (∀ b u, h.get? b = some u -> h'.get? b = some u) /\ ∃ o, h'.get? e = some o /\ o.cls = .type "AttributeError"
section
variable {prog : Program} {w : World} {A : Around} {E : Value -> Shared -> Prop} {s : Shared} {a : Addr} {its : Array Value} {n : Nat} {sl : Array (Option Value)}
theorem raiseAttr {α : Type} {o : Value} {name msg : Str} {Q : α -> Shared -> Prop} (hA : A.handled = none) (hm : msg.length <= sizeLine)
   (hq : ∀ h' t' e, AeAt s.heap h' e -> E (.ref e) { s with heap := h', toks := t' }) : wpAny (model prog w) A (raiseAttrError o name msg : Sem α) Q E s := by
 unfold raiseAttrError
 refine wpAny_bind (wpAny_mkStr (wpAny_bind ?_) hm)
 unfold newExc newTuple
 refine wpAny_bind (wpAny_newObj_type ?_ (by size_fits))
 refine wpAny_bind (m := firstArgMember _ _) (wpAny_of_eq (a := Value.none) (by
   simp only [firstArgMember]
   rw [show ((Manifest.find? "AttributeError").elim false fun t => t.mro.contains "StopIteration" || t.mro.contains "SystemExit") = false by decide +kernel]
   rfl) ?_)
 refine wpAny_newObj_type ?_ (by size_fits)
 refine wpAny_bind (wpAny_mkText ?_)
 refine wpAny_bind ?_
 obtain ⟨h, g, d, t, os⟩ := s
 dsimp only at hq ⊢
 have hk1 : ∀ b u, h.get? b = some u -> (h.push { cls := Value.type "tuple", data := Data.seq #[Value.str msg t] }).get? b = some u := fun b u e => Heap.get?_push_of_some _ e
 generalize h.push { cls := Value.type "tuple", data := Data.seq #[Value.str msg t] } = h1 at hk1 ⊢
 have hE := Heap.get?_push_size h1 (o := { cls := Value.type "AttributeError", data := Data.fields (#[Value.ref h.objs.size, Value.none, Value.none, Value.none, Value.bool false, Value.none] ++ ownMembersOf (Value.type "AttributeError") [Value.str msg t]) }) rfl
 have hk2 : ∀ b u, h1.get? b = some u -> (h1.push { cls := Value.type "AttributeError", data := Data.fields (#[Value.ref h.objs.size, Value.none, Value.none, Value.none, Value.bool false, Value.none] ++ ownMembersOf (Value.type "AttributeError") [Value.str msg t]) }).get? b = some u := fun b u e => Heap.get?_push_of_some _ e
 have hne : ∀ b u, h1.get? b = some u -> b ≠ h1.objs.size := fun b u e => Nat.ne_of_lt (Heap.lt_size e)
 generalize h1.push { cls := Value.type "AttributeError", data := Data.fields (#[Value.ref h.objs.size, Value.none, Value.none, Value.none, Value.bool false, Value.none] ++ ownMembersOf (Value.type "AttributeError") [Value.str msg t]) } = h2 at hE hk2 ⊢
 generalize h1.objs.size = e at hE hne ⊢
 have hT : (⟨h2, g, d, t + 1 + 1, os⟩ : Shared).TypeIs (.ref e) "AttributeError" := ⟨_, hE, rfl⟩
 have f1 := F.sub_ae
 unfold noteAttr
 dsimp only
 refine wpAny_bind ?_
 unfold lacksNameAndObj
 dsimp only
 refine wpAny_bind (wpAny_isInstance hT f1 ?_)
 rw [if_neg (by decide)]
 refine wpAny_bind (wpAny_load hE ?_)
 dsimp only
 rw [if_neg (by simp [ownMembersOf, unsetMember, rawInt]), if_neg (by simp [ownMembersOf, unsetMember, doubtfulMember, rawInt])]
 refine wpAny_pure ?_
 rw [if_pos rfl]
 refine wpAny_bind (wpAny_rule ?_)
 refine wpAny_bind (wpAny_typeOf hT ?_)
 dsimp only
 unfold layMembers
 refine wpAny_bind (wpAny_load hE ?_)
 dsimp only
 refine wpAny_update hE ?_
 refine wpAny_raiseNew_none hA (hq _ _ _ ⟨fun b u hb => ?_, ⟨_, Heap.get?_update_self _ hE (Obj.isFreed_of_fields (Obj.data_mapFields rfl _)), Obj.cls_mapFields _ _⟩⟩)
 exact (Heap.get?_update_other _ _ (Ne.symm (hne b u (hk1 b u hb)))).trans (hk2 b u (hk1 b u hb))
end
section
variable {prog : Program} {w : World} {A : Around} {E : Value -> Shared -> Prop} {h : Heap} {g : Array GenState} {d : Drawn} {t : Nat} {os : OsState} {a : Addr} {its : Array Value} {n : Nat} {sl : Array (Option Value)}
theorem qW {tk : Tok} {Q : PySem.Fin -> Shared -> Prop} (hA : A.handled = none) (hx : h.get? a = some ⟨.type "list", none, .seq its n, sl⟩)
   (hq : ∀ h' t' e, AeAt h h' e -> E (.ref e) ⟨h', g, d, t', os⟩) :
   wpAny (model prog w) A (Builtin.«object.__getattribute__» ⟨[.ref a, .str "keys" tk], []⟩) Q E ⟨h, g, d, t, os⟩ := by
 have hT : (⟨h, g, d, t, os⟩ : Shared).TypeIs (.ref a) "list" := ⟨_, hx, rfl⟩
 have f4 := F.lk_list_keys
 repeat (any_goals (first | assumption | wp_step))
 exact raiseAttr hA (by decide +kernel) hq
theorem nokeys_call {tk : Tok} {R : Result -> Shared -> Prop} (hA : A.handled = none) (hx : h.get? a = some ⟨.type "list", none, .seq its n, sl⟩)
   (hq : ∀ h' t' e, AeAt h h' e -> R (.error (.ref e)) ⟨h', g, d, t', os⟩) :
   codeAny (model prog w) A (.call (.builtin "list.__getattribute__") ⟨[.ref a, .str "keys" tk], []⟩) R ⟨h, g, d, t, os⟩ :=
 codeAny_call_builtin PySem.F.slot_list_getattribute.plain PySem.F.entry_list_ga (PySem.F.slot_list_getattribute.check _ _ _ _ _ _ _ _ (show (⟨h, g, d, t, os⟩ : Shared).TypeIs (.ref a) "list" from ⟨_, hx, rfl⟩) (PySem.F.args_list_getattribute_2 _ _) (qW hA hx hq))
theorem nokeys_by {tk : Tok} {Q : Value -> Shared -> Prop} (hA : A.handled = none) (hx : h.get? a = some ⟨.type "list", none, .seq its n, sl⟩)
   (hq : ∀ h' t' e, AeAt h h' e -> E (.ref e) ⟨h', g, d, t', os⟩) : wpAny (model prog w) A (getAttrBy (.ref a) (.str "keys" tk) false) Q E ⟨h, g, d, t, os⟩ := by
 have hT : (⟨h, g, d, t, os⟩ : Shared).TypeIs (.ref a) "list" := ⟨_, hx, rfl⟩
 have f2 := PySem.F.slot_list_getattribute.lookup
 have f3 := PySem.F.slot_list_getattribute.bind (.ref a)
 have f5 := F.lk_list_ga
 have f6 := F.sub_ae
 repeat (any_goals (first | assumption | wp_step))
 refine nokeys_call hA hx fun h' t' e ae => ?_
 have hT2 : (⟨h', g, d, t', os⟩ : Shared).TypeIs (.ref e) "AttributeError" := ae.2
 repeat (any_goals (first | assumption | exact hq _ _ _ ae | wp_step))
theorem nokeys {Q : Option Value -> Shared -> Prop} (hA : A.handled = none) (hx : h.get? a = some ⟨.type "list", none, .seq its n, sl⟩)
   (hq : ∀ h' t', (∀ b u, h.get? b = some u -> h'.get? b = some u) -> Q none ⟨h', g, d, t', os⟩) : wpAny (model prog w) A (getAttr? (.ref a) "keys") Q E ⟨h, g, d, t, os⟩ := by
 unfold getAttr? getAttrBy?
 refine wpAny_bind (wpAny_mkText (wpAny_bind (wpAny_attempt (nokeys_by hA hx fun h' t' e ae => ?_))))
 dsimp only
 have hT2 : (⟨h', g, d, t', os⟩ : Shared).TypeIs (.ref e) "AttributeError" := ae.2
 refine wpAny_bind (wpAny_isInstance hT2 F.sub_ae ?_)
 rw [if_pos rfl]
 exact wpAny_pure (hq _ _ ae.1)
end
theorem F.plain_dul : plainId "dict.update.loop" = true := by decide +kernel
theorem F.entry_dul : entryFor table "dict.update.loop" = some Builtin.«dict.update.loop» := entryFor_of_tree (by kernel_rfl)
section
variable {prog : Program} {w : World} {Kt : Type} [DecidableEq Kt] {knd : KeyKind prog w Kt} {A : Around} {E : Value -> Shared -> Prop} {s : Shared}
end
section
variable {X : Cx}
end
end L2
namespace L2
open PySem PySem.Spec PyProof.Rows PySem.W
section
variable {prog : Program} {w : World} {A : Around} {E : Value -> Shared -> Prop} {s : Shared} {T : String} {r d : Addr} {n : Nat} {P : Nat -> Value -> Prop} {OK : Heap -> Prop}
end
section
variable {X : Cx}
end
section
variable {X : Cx}
end
end L2
namespace L2
open PySem PyProof.Rows
section
variable {prog : Program} {w : World} {A : Around} {E : Value -> Shared -> Prop} {s : Shared}
end
end L2
namespace L2
open PySem PyProof.Rows
section
variable {prog : Program} {w : World} {A : Around} {E : Value -> Shared -> Prop} {s : Shared}
end
end L2
namespace L2
open PySem PyProof.Rows
section
variable {prog : Program} {w : World} {A : Around} {E : Value -> Shared -> Prop} {s : Shared}
end
end L2
namespace L2
open PySem PyProof.Rows
section
variable {prog : Program} {w : World} {A : Around} {R : Result -> Shared -> Prop} {I : Addr} {fp wr : List Addr} {G : Array GenState -> Array GenState -> Prop} {n : Nat} {P : Nat -> Value -> Prop} {St : Nat -> Shared -> Prop}
end
section
variable {prog : Program} {w : World} {A : Around} {E : Value -> Shared -> Prop} {s : Shared}
end
end L2
namespace L2
open PySem PyProof.Rows
section
variable {prog : Program} {w : World} {A : Around} {E : Value -> Shared -> Prop} {s : Shared}
end
end L2
namespace L2
open PySem PySem.Spec PyProof.Rows PySem.SeqAt
mutual
def deq : Dt -> Dt -> Bool
 | .non, .non => true
 | .bl a, .bl b => a == b
 | .int a, .int b => a == b
 | .bl a, .int b => (if a then 1 else 0) == b
 | .int a, .bl b => a == (if b then 1 else 0)
 | .str a, .str b => a == b
 | .tup xs, .tup ys => deqs xs ys
 | .lst xs, .lst ys => deqs xs ys
 | _, _ => false
def deqs : List Dt -> List Dt -> Bool
 | [], [] => true
 | x :: xs, y :: ys => deq x y && deqs xs ys
 | _, _ => false
end
mutual
theorem deq_refl : ∀ d : Dt, deq d d = true
 | .non => rfl
 | .bl a => by simp [deq]
 | .int a => by simp [deq]
 | .str a => by simp [deq]
 | .tup ds => by rw [deq]; exact deqs_refl ds
 | .lst ds => by rw [deq]; exact deqs_refl ds
theorem deqs_refl : ∀ ds : List Dt, deqs ds ds = true
 | [] => rfl
 | d :: ds => by rw [deqs, deq_refl d, deqs_refl ds]; rfl
end
def eat (xs ys : List Dt) (j : Nat) : Bool :=
 match xs[j]?, ys[j]? with
 | some x, some y => deq x y
 | _, _ => false
theorem deqs_all : ∀ xs ys : List Dt, ((List.range (min xs.length ys.length)).all (eat xs ys) && xs.length == ys.length) = deqs xs ys
 | [], [] => rfl
 | [], y :: ys => by simp [deqs]
 | x :: xs, [] => by simp [deqs]
 | x :: xs, y :: ys => by
   rw [deqs, ← deqs_all xs ys, List.length_cons, List.length_cons, Nat.succ_min_succ, List.range_succ_eq_map, List.all_cons, List.all_map]
   have e1 : eat (x :: xs) (y :: ys) 0 = deq x y := rfl
   have e2 : eat (x :: xs) (y :: ys) ∘ Nat.succ = eat xs ys := by funext j; simp [eat]
   rw [e1, e2, Bool.and_assoc]
   congr 2
   rw [Bool.eq_iff_iff]
   simp
mutual
theorem DAt.one_of {H : Hp} : ∀ {d d' : Dt} {v : V}, DAt H d v -> DAt H d' v -> d = d'
 | d, .non, v, h, h' => by have h' : v = .non := h'; subst h'; cases d <;> simp_all [DAt]
 | d, .bl b, v, h, h' => by have h' : v = .bl b := h'; subst h'; cases d <;> simp_all [DAt]
 | d, .int b, v, h, h' => by have h' : v = .int b := h'; subst h'; cases d <;> simp_all [DAt]
 | d, .str b, v, h, h' => by have h' : v = .str b := h'; subst h'; cases d <;> simp_all [DAt]
 | d, .tup ds', v, h, h' => by
   obtain ⟨a, vs, rfl, e2, e3⟩ := h'
   cases d with
   | tup ds =>
     obtain ⟨a', vs', e1', e2', e3'⟩ := h
     cases e1'
     rw [e2] at e2'
     cases e2'
     rw [DAts.one_of e3' e3]
   | lst ds =>
     obtain ⟨a', vs', e1', e2', e3'⟩ := h
     cases e1'
     rw [e2] at e2'
     cases e2'
   | _ => cases h
 | d, .lst ds', v, h, h' => by
   obtain ⟨a, vs, rfl, e2, e3⟩ := h'
   cases d with
   | lst ds =>
     obtain ⟨a', vs', e1', e2', e3'⟩ := h
     cases e1'
     rw [e2] at e2'
     cases e2'
     rw [DAts.one_of e3' e3]
   | tup ds =>
     obtain ⟨a', vs', e1', e2', e3'⟩ := h
     cases e1'
     rw [e2] at e2'
     cases e2'
   | _ => cases h
theorem DAts.one_of {H : Hp} : ∀ {ds ds' : List Dt} {vs : List V}, DAts H ds vs -> DAts H ds' vs -> ds = ds'
 | ds, [], vs, h, h' => by
   have h' : vs = [] := h'
   subst h'
   cases ds with
   | nil => rfl
   | cons d ds => obtain ⟨v, r, e, _⟩ := h; cases e
 | ds, d' :: ds', vs, h, h' => by
   obtain ⟨v, r, rfl, e2, e3⟩ := h'
   cases ds with
   | nil => cases h
   | cons d ds =>
     obtain ⟨v', r', e, e2', e3'⟩ := h
     cases e
     rw [DAt.one_of e2' e2, DAts.one_of e3' e3]
end
section
variable {P : Program} {w : World} {H : Hp} {s : Shared}
theorem DAts.tup_of (ok : HOk P w H s.heap) {a : Addr} {vs : List V} (h : H a = some (.tup vs)) : ∃ its : List Value, Vals vs its /\ s.heap.IsTuple a its.toArray := by
 obtain ⟨z, its, r, p⟩ := ok a _ h
 exact ⟨its, r, p⟩
theorem DAts.lst_of (ok : HOk P w H s.heap) {a : Addr} {vs : List V} (h : H a = some (.lst vs)) : ∃ its : List Value, Vals vs its /\ s.heap.IsList a its.toArray := by
 obtain ⟨z, its, n, r, p⟩ := ok a _ h
 exact ⟨its, r, _, p, rfl, n, rfl⟩
theorem vals_at : ∀ {xs : List V} {us : List Value} {i : Nat} {x : V} {u : Value}, Vals xs us -> xs[i]? = some x -> us[i]? = some u -> RelV x u
 | _, _, _, _, _, .nil, h, _ => by simp at h
 | _, _, 0, _, _, .cons r q, h, h' => by
   simp at h h'
   subst h
   subst h'
   exact r
 | _, _, i + 1, _, _, .cons r q, h, h' => vals_at q (by simpa using h) (by simpa using h')
theorem rc_lists (ok : HOk P w H s.heap) {n : Nat} {A : Around} (ih : ∀ {A : Around} {d d' : Dt} {v v' : V} {u u' : Value}, DAt H d v -> DAt H d' v' -> RelV v u -> RelV v' u' -> DFit n d -> A.units + n < cLine -> EqAt A s u u' (deq d d'))
   {l l' : Addr} {ds ds' : List Dt} {vs vs' : List V} {its its' : List Value} (hs : DAts H ds vs) (hs' : DAts H ds' vs') (rv : Vals vs its) (rv' : Vals vs' its') (hl : s.heap.IsList l its.toArray) (hl' : s.heap.IsList l' its'.toArray)
   (f : ∀ d ∈ ds, DFit n d) (hu : A.units + (n + 1) < cLine) : RcAt A s (.ref l) (.ref l') (deqs ds ds') := by
 have k1 := hs.length
 have k2 := hs'.length
 have k3 := rv.length
 have k4 := rv'.length
 by_cases hz : ds.length = ds'.length
 · have key := RcAt.lists (A := A) (e := eat ds ds') hl hl' (by rw [List.size_toArray, List.size_toArray]; omega) (by omega) fun j h1 h2 => ?_
   · rw [← deqs_all, hz, Nat.min_self, beq_self_eq_true, Bool.and_true]
     rw [List.size_toArray] at key
     rw [show ds'.length = its.length by omega]
     exact key
   · rw [List.size_toArray] at h1 h2
     have hj : j < ds.length := by omega
     have hj' : j < ds'.length := by omega
     obtain ⟨x, x1, x2⟩ := hs.get (List.getElem?_eq_getElem hj)
     obtain ⟨y, y1, y2⟩ := hs'.get (List.getElem?_eq_getElem hj')
     have e1 : eat ds ds' j = deq ds[j] ds'[j] := by unfold eat; rw [List.getElem?_eq_getElem hj, List.getElem?_eq_getElem hj']
     rw [e1]
     refine ih x2 y2 ?_ ?_ (f _ (List.getElem_mem hj)) (by show A.units + 1 + n < cLine; omega)
     · exact vals_at rv x1 (by rw [List.getElem_toArray]; exact List.getElem?_eq_getElem h1)
     · exact vals_at rv' y1 (by rw [List.getElem_toArray]; exact List.getElem?_eq_getElem h2)
 · have hf : deqs ds ds' = false := by rw [← deqs_all, show (ds.length == ds'.length) = false by simpa using hz, Bool.and_false]
   rw [hf]
   exact RcAt.lists_lengths hl hl' (by rw [List.size_toArray, List.size_toArray]; simp; omega) (by omega)
theorem deq_same (ok : HOk P w H s.heap) {A : Around} {d : Dt} {v : V} {u u' : Value} (h : DAt H d v) (r : RelV v u) (r' : RelV v u') : EqAt A s u u' true := by
 cases d with
 | non => have h : v = .non := h; subst h; cases r; cases r'; exact EqAt.same _
 | bl a => have h : v = .bl a := h; subst h; cases r; cases r'; exact EqAt.same _
 | int a =>
   have h : v = .int a := h
   subst h
   obtain ⟨t, rfl⟩ := r
   obtain ⟨t', rfl⟩ := r'
   have := EqAt.int_int (A := A) (s := s) a t a t'
   rwa [beq_self_eq_true] at this
 | str a =>
   have h : v = .str a := h
   subst h
   obtain ⟨t, rfl⟩ := r
   obtain ⟨t', rfl⟩ := r'
   have := EqAt.str_str (A := A) (s := s) a t a t'
   rwa [beq_self_eq_true] at this
 | tup ds => obtain ⟨l, vs, rfl, _⟩ := h; cases r; cases r'; exact EqAt.same _
 | lst ds => obtain ⟨l, vs, rfl, _⟩ := h; cases r; cases r'; exact EqAt.same _
theorem uB (ok : HOk P w H s.heap) {A : Around} {d d' : Dt} {v v' : V} {u u' : Value} (h : DAt H d v) (h' : DAt H d' v') (r : RelV v u) (r' : RelV v' u') (hu : A.units < cLine) (hk : ∀ ds ds', ¬ (d = .tup ds /\ d' = .tup ds') /\ ¬ (d = .lst ds /\ d' = .lst ds')) : EqAt A s u u' (deq d d') := by
 cases d with
 | non =>
   have h : v = .non := h
   subst h
   cases r
   cases d' with
   | non =>
     have h' : v' = .non := h'
     subst h'
     cases r'
     simp only [deq]
     exact EqAt.same _
   | bl b =>
     have h' : v' = .bl b := h'
     subst h'
     cases r'
     simp only [deq]
     exact EqAt.none_bool _
   | int b =>
     have h' : v' = .int b := h'
     subst h'
     obtain ⟨t', rfl⟩ := r'
     simp only [deq]
     exact EqAt.none_int _ _
   | str b =>
     have h' : v' = .str b := h'
     subst h'
     obtain ⟨t', rfl⟩ := r'
     simp only [deq]
     exact EqAt.none_str _ _
   | tup ds' =>
     obtain ⟨l', vs', rfl, e', hs'⟩ := h'
     cases r'
     obtain ⟨its', rv', hl'⟩ := DAts.tup_of ok e'
     simp only [deq]
     exact EqAt.none_tuple hl' hu
   | lst ds' =>
     obtain ⟨l', vs', rfl, e', hs'⟩ := h'
     cases r'
     obtain ⟨its', rv', hl'⟩ := DAts.lst_of ok e'
     simp only [deq]
     exact EqAt.none_list hl' hu
 | bl a =>
   have h : v = .bl a := h
   subst h
   cases r
   cases d' with
   | non =>
     have h' : v' = .non := h'
     subst h'
     cases r'
     simp only [deq]
     exact EqAt.bool_none _
   | bl b =>
     have h' : v' = .bl b := h'
     subst h'
     cases r'
     simp only [deq]
     exact EqAt.bool_bool _ _
   | int b =>
     have h' : v' = .int b := h'
     subst h'
     obtain ⟨t', rfl⟩ := r'
     simp only [deq]
     exact EqAt.bool_int _ _ _
   | str b =>
     have h' : v' = .str b := h'
     subst h'
     obtain ⟨t', rfl⟩ := r'
     simp only [deq]
     exact EqAt.bool_str _ _ _
   | tup ds' =>
     obtain ⟨l', vs', rfl, e', hs'⟩ := h'
     cases r'
     obtain ⟨its', rv', hl'⟩ := DAts.tup_of ok e'
     simp only [deq]
     exact EqAt.bool_tuple _ hl' hu
   | lst ds' =>
     obtain ⟨l', vs', rfl, e', hs'⟩ := h'
     cases r'
     obtain ⟨its', rv', hl'⟩ := DAts.lst_of ok e'
     simp only [deq]
     exact EqAt.bool_list _ hl' hu
 | int a =>
   have h : v = .int a := h
   subst h
   obtain ⟨t, rfl⟩ := r
   cases d' with
   | non =>
     have h' : v' = .non := h'
     subst h'
     cases r'
     simp only [deq]
     exact EqAt.int_none _ _
   | bl b =>
     have h' : v' = .bl b := h'
     subst h'
     cases r'
     simp only [deq]
     exact EqAt.int_bool _ _ _
   | int b =>
     have h' : v' = .int b := h'
     subst h'
     obtain ⟨t', rfl⟩ := r'
     simp only [deq]
     exact EqAt.int_int _ _ _ _
   | str b =>
     have h' : v' = .str b := h'
     subst h'
     obtain ⟨t', rfl⟩ := r'
     simp only [deq]
     exact EqAt.int_str _ _ _ _
   | tup ds' =>
     obtain ⟨l', vs', rfl, e', hs'⟩ := h'
     cases r'
     obtain ⟨its', rv', hl'⟩ := DAts.tup_of ok e'
     simp only [deq]
     exact EqAt.int_tuple _ _ hl' hu
   | lst ds' =>
     obtain ⟨l', vs', rfl, e', hs'⟩ := h'
     cases r'
     obtain ⟨its', rv', hl'⟩ := DAts.lst_of ok e'
     simp only [deq]
     exact EqAt.int_list _ _ hl' hu
 | str a =>
   have h : v = .str a := h
   subst h
   obtain ⟨t, rfl⟩ := r
   cases d' with
   | non =>
     have h' : v' = .non := h'
     subst h'
     cases r'
     simp only [deq]
     exact EqAt.str_none _ _
   | bl b =>
     have h' : v' = .bl b := h'
     subst h'
     cases r'
     simp only [deq]
     exact EqAt.str_bool _ _ _
   | int b =>
     have h' : v' = .int b := h'
     subst h'
     obtain ⟨t', rfl⟩ := r'
     simp only [deq]
     exact EqAt.str_int _ _ _ _
   | str b =>
     have h' : v' = .str b := h'
     subst h'
     obtain ⟨t', rfl⟩ := r'
     simp only [deq]
     exact EqAt.str_str _ _ _ _
   | tup ds' =>
     obtain ⟨l', vs', rfl, e', hs'⟩ := h'
     cases r'
     obtain ⟨its', rv', hl'⟩ := DAts.tup_of ok e'
     simp only [deq]
     exact EqAt.str_tuple _ _ hl' hu
   | lst ds' =>
     obtain ⟨l', vs', rfl, e', hs'⟩ := h'
     cases r'
     obtain ⟨its', rv', hl'⟩ := DAts.lst_of ok e'
     simp only [deq]
     exact EqAt.str_list _ _ hl' hu
 | tup ds =>
   obtain ⟨l, vs, rfl, e, hs⟩ := h
   cases r
   obtain ⟨its, rv, hl⟩ := DAts.tup_of ok e
   cases d' with
   | non =>
     have h' : v' = .non := h'
     subst h'
     cases r'
     simp only [deq]
     exact EqAt.tuple_none hl hu
   | bl b =>
     have h' : v' = .bl b := h'
     subst h'
     cases r'
     simp only [deq]
     exact EqAt.tuple_bool _ hl hu
   | int b =>
     have h' : v' = .int b := h'
     subst h'
     obtain ⟨t', rfl⟩ := r'
     simp only [deq]
     exact EqAt.tuple_int _ _ hl hu
   | str b =>
     have h' : v' = .str b := h'
     subst h'
     obtain ⟨t', rfl⟩ := r'
     simp only [deq]
     exact EqAt.tuple_str _ _ hl hu
   | tup ds' => exact absurd ⟨rfl, rfl⟩ (hk _ _).1
   | lst ds' =>
     obtain ⟨l', vs', rfl, e', hs'⟩ := h'
     cases r'
     obtain ⟨its', rv', hl'⟩ := DAts.lst_of ok e'
     simp only [deq]
     exact EqAt.tuple_list hl hl' hu
 | lst ds =>
   obtain ⟨l, vs, rfl, e, hs⟩ := h
   cases r
   obtain ⟨its, rv, hl⟩ := DAts.lst_of ok e
   cases d' with
   | non =>
     have h' : v' = .non := h'
     subst h'
     cases r'
     simp only [deq]
     exact EqAt.list_none hl hu
   | bl b =>
     have h' : v' = .bl b := h'
     subst h'
     cases r'
     simp only [deq]
     exact EqAt.list_bool _ hl hu
   | int b =>
     have h' : v' = .int b := h'
     subst h'
     obtain ⟨t', rfl⟩ := r'
     simp only [deq]
     exact EqAt.list_int _ _ hl hu
   | str b =>
     have h' : v' = .str b := h'
     subst h'
     obtain ⟨t', rfl⟩ := r'
     simp only [deq]
     exact EqAt.list_str _ _ hl hu
   | tup ds' =>
     obtain ⟨l', vs', rfl, e', hs'⟩ := h'
     cases r'
     obtain ⟨its', rv', hl'⟩ := DAts.tup_of ok e'
     simp only [deq]
     exact EqAt.list_tuple hl hl' hu
   | lst ds' => exact absurd ⟨rfl, rfl⟩ (hk _ _).2
theorem jN (ok : HOk P w H s.heap) : ∀ (n : Nat) {A : Around} {d d' : Dt} {v v' : V} {u u' : Value}, DAt H d v -> DAt H d' v' -> RelV v u -> RelV v' u' -> DFit n d -> A.units + n < cLine -> EqAt A s u u' (deq d d') := by
 intro n
 induction n with
 | zero =>
   intro A d d' v v' u u' h h' r r' f hu
   exact uB ok h h' r r' hu fun ds ds' => ⟨fun e => by rw [e.1] at f; exact f, fun e => by rw [e.1] at f; exact f⟩
 | succ n ih =>
   intro A d d' v v' u u' h h' r r' f hu
   by_cases hvv : v = v'
   · subst hvv
     rw [DAt.one_of h h', deq_refl]
     have hd : d = d' := DAt.one_of h h'
     subst hd
     have hx := deq_same ok (A := A) h r r'
     exact hx
   cases d with
   | tup ds =>
     cases d' with
     | tup ds' =>
       obtain ⟨l, vs, rfl, e, hs⟩ := h
       obtain ⟨l', vs', rfl, e', hs'⟩ := h'
       cases r
       cases r'
       obtain ⟨its, rv, hl⟩ := DAts.tup_of ok e
       obtain ⟨its', rv', hl'⟩ := DAts.tup_of ok e'
       have k1 := hs.length
       have k2 := hs'.length
       have k3 := rv.length
       have k4 := rv'.length
       have key := RcAt.tuples (A := A) (e := eat ds ds') hl hl' (by omega) fun j h1 h2 => ?_
       · simp only [deq]
         rw [← deqs_all]
         refine EqAt.of_refs (fun z => hvv (by rw [z])) ?_
         rw [List.size_toArray, List.size_toArray] at key
         rw [← k1, ← k2, k3, k4]
         exact key
       · rw [List.size_toArray] at h1 h2
         have hj : j < ds.length := by omega
         have hj' : j < ds'.length := by omega
         obtain ⟨x, x1, x2⟩ := hs.get (List.getElem?_eq_getElem hj)
         obtain ⟨y, y1, y2⟩ := hs'.get (List.getElem?_eq_getElem hj')
         have e1 : eat ds ds' j = deq ds[j] ds'[j] := by unfold eat; rw [List.getElem?_eq_getElem hj, List.getElem?_eq_getElem hj']
         rw [e1]
         refine ih x2 y2 ?_ ?_ (f.2 _ (List.getElem_mem hj)) (by show A.units + 1 + n < cLine; omega)
         · exact vals_at rv x1 (by rw [List.getElem_toArray]; exact List.getElem?_eq_getElem h1)
         · exact vals_at rv' y1 (by rw [List.getElem_toArray]; exact List.getElem?_eq_getElem h2)
     | _ => exact uB ok h h' r r' (by omega) fun ds ds' => ⟨fun e => (by cases e.2), fun e => (by cases e.1)⟩
   | lst ds =>
     cases d' with
     | lst ds' =>
       obtain ⟨l, vs, rfl, e, hs⟩ := h
       obtain ⟨l', vs', rfl, e', hs'⟩ := h'
       cases r
       cases r'
       obtain ⟨its, rv, hl⟩ := DAts.lst_of ok e
       obtain ⟨its', rv', hl'⟩ := DAts.lst_of ok e'
       simp only [deq]
       exact EqAt.of_refs (fun z => hvv (by rw [z])) (rc_lists ok ih hs hs' rv rv' hl hl' f.2 hu)
     | _ => exact uB ok h h' r r' (by omega) fun ds ds' => ⟨fun e => (by cases e.1), fun e => (by cases e.2)⟩
   | _ => exact uB ok h h' r r' (by omega) fun ds ds' => ⟨fun e => (by cases e.1), fun e => (by cases e.1)⟩
end
section
variable {X : Cx}
end
end L2
namespace L2
open PySem PySem.Spec PyProof.Rows PySem.SeqAt
section
variable {X : Cx}
end
theorem cx_P {CX : CXT} {P : Program} {w : World} {K : PySem.W.Frag} {mg : Str -> Option Value} {base : Heap} {N : List Str} {qual : Str} {scope : Scope} {f : Addr} {cd : Value} {A : Around} {outer : List Env} {s : Shared} {H : Hp} {E : XK} : (jR CX P w K mg base N qual scope f cd A outer s H E).prog = P := rfl
end L2
local macro_rules | `(tactic| simp! [$ts,*]) => `(tactic| simp only [L2.tSeq, L2.tFor_eq, L2.tLC_eq, L2.iRng1, L2.iRng2, L2.iList, L2.iTup, L2.iStr, L2.tIfS, L2.tRet, L2.tRetN, L2.tNext, L2.tAsg, L2.gName, L2.tVar, L2.tC, L2.tOp, L2.rI0, L2.rI, L2.tTest, L2.tB, L2.rEq, L2.rNe, L2.tCall, L2.tCons, L2.tNil, L2.tCB, L2.tLst, L2.tTup, L2.tAnd, L2.tOr, L2.tNot, L2.tAndV, L2.tOrV, L2.tNotV, L2.tIf, L2.tDrop, L2.tSl, L2.tPart, L2.tNoPart, L2.tChain, L2.tUn, L2.rU, L2.start, L2.cx_K, L2.bk_K, L2.cx_calm, L2.bk_calm, L2.lenV_str, and_assoc, Option.join, List.length_map, List.length_append, decide_eq_true_eq, Bool.false_eq_true, if_false, if_true, Bool.not_true, Bool.not_false, Bool.not_eq_true', decide_eq_false_iff_not, Bool.true_eq_false, List.length_cons, List.length_nil, List.map_cons, List.map_nil, List.replicate, List.cons_append, List.nil_append, List.append_nil, List.getElem?_cons_zero, List.getElem?_cons_succ, List.set_cons_zero, List.set_cons_succ, Nat.reduceSub, Nat.reduceAdd, Option.some.injEq, L2.V.int.injEq, L2.V.str.injEq, L2.V.bl.injEq, L2.V.ref.injEq, List.cons.injEq, and_true, true_and, exists_eq_left', exists_eq_left, exists_and_left, exists_eq_right, exists_const, L2.tBM, L2.tBM0, L2.rAppend, L2.rPop, L2.rIxL, L2.rIxT, L2.rIxS, L2.rSlL, L2.rSlT, L2.rSlS, L2.rCat, L2.rCatT, L2.tKGet, L2.cx_w, L2.bk_w, L2.tDGet, L2.tDisp, L2.tPairs, L2.tDNewK, L2.cx_P, $ts,*])
namespace L2
open PySem PySem.Spec PyProof.Rows PySem.SeqAt
section
variable {P : Program} {w : World} {H : Hp} {s : Shared}
theorem rc_tups (ok : HOk P w H s.heap) {n : Nat} {A : Around} (ih : ∀ {A : Around} {d d' : Dt} {v v' : V} {u u' : Value}, DAt H d v -> DAt H d' v' -> RelV v u -> RelV v' u' -> DFit n d -> A.units + n < cLine -> EqAt A s u u' (deq d d'))
   {l l' : Addr} {ds ds' : List Dt} {vs vs' : List V} {its its' : List Value} (hs : DAts H ds vs) (hs' : DAts H ds' vs') (rv : Vals vs its) (rv' : Vals vs' its') (hl : s.heap.IsTuple l its.toArray) (hl' : s.heap.IsTuple l' its'.toArray)
   (f : ∀ d ∈ ds, DFit n d) (hu : A.units + (n + 1) < cLine) : RcAt A s (.ref l) (.ref l') (deqs ds ds') := by
 have k1 := hs.length
 have k2 := hs'.length
 have k3 := rv.length
 have k4 := rv'.length
 have at_ : ∀ j (h1 : j < its.toArray.size) (h2 : j < its'.toArray.size), EqAt A.in1 s its.toArray[j] its'.toArray[j] (eat ds ds' j) := fun j h1 h2 => by
   rw [List.size_toArray] at h1 h2
   have hj : j < ds.length := by omega
   have hj' : j < ds'.length := by omega
   obtain ⟨x, x1, x2⟩ := hs.get (List.getElem?_eq_getElem hj)
   obtain ⟨y, y1, y2⟩ := hs'.get (List.getElem?_eq_getElem hj')
   have e1 : eat ds ds' j = deq ds[j] ds'[j] := by unfold eat; rw [List.getElem?_eq_getElem hj, List.getElem?_eq_getElem hj']
   rw [e1]
   refine ih x2 y2 ?_ ?_ (f _ (List.getElem_mem hj)) (by show A.units + 1 + n < cLine; omega)
   · exact vals_at rv x1 (by rw [List.getElem_toArray]; exact List.getElem?_eq_getElem h1)
   · exact vals_at rv' y1 (by rw [List.getElem_toArray]; exact List.getElem?_eq_getElem h2)
 have key := RcAt.tuples (A := A) (e := eat ds ds') hl hl' (by omega) at_
 rw [List.size_toArray, List.size_toArray] at key
 rw [← deqs_all, ← k1, ← k2, k3, k4]
 exact key
theorem rn_tups (ok : HOk P w H s.heap) {n : Nat} {A : Around} (ih : ∀ {A : Around} {d d' : Dt} {v v' : V} {u u' : Value}, DAt H d v -> DAt H d' v' -> RelV v u -> RelV v' u' -> DFit n d -> A.units + n < cLine -> EqAt A s u u' (deq d d'))
   {l l' : Addr} {ds ds' : List Dt} {vs vs' : List V} {its its' : List Value} (hs : DAts H ds vs) (hs' : DAts H ds' vs') (rv : Vals vs its) (rv' : Vals vs' its') (hl : s.heap.IsTuple l its.toArray) (hl' : s.heap.IsTuple l' its'.toArray)
   (f : ∀ d ∈ ds, DFit n d) (hu : A.units + (n + 1) < cLine) : RcNeAt A s (.ref l) (.ref l') (!deqs ds ds') := by
 have k1 := hs.length
 have k2 := hs'.length
 have k3 := rv.length
 have k4 := rv'.length
 have at_ : ∀ j (h1 : j < its.toArray.size) (h2 : j < its'.toArray.size), EqAt A.in1 s its.toArray[j] its'.toArray[j] (eat ds ds' j) := fun j h1 h2 => by
   rw [List.size_toArray] at h1 h2
   have hj : j < ds.length := by omega
   have hj' : j < ds'.length := by omega
   obtain ⟨x, x1, x2⟩ := hs.get (List.getElem?_eq_getElem hj)
   obtain ⟨y, y1, y2⟩ := hs'.get (List.getElem?_eq_getElem hj')
   have e1 : eat ds ds' j = deq ds[j] ds'[j] := by unfold eat; rw [List.getElem?_eq_getElem hj, List.getElem?_eq_getElem hj']
   rw [e1]
   refine ih x2 y2 ?_ ?_ (f _ (List.getElem_mem hj)) (by show A.units + 1 + n < cLine; omega)
   · exact vals_at rv x1 (by rw [List.getElem_toArray]; exact List.getElem?_eq_getElem h1)
   · exact vals_at rv' y1 (by rw [List.getElem_toArray]; exact List.getElem?_eq_getElem h2)
 have key := RcNeAt.tuples (A := A) (e := eat ds ds') hl hl' (by omega) at_
 rw [List.size_toArray, List.size_toArray] at key
 rw [← deqs_all, ← k1, ← k2, k3, k4]
 exact key
theorem rn_lists (ok : HOk P w H s.heap) {n : Nat} {A : Around} (ih : ∀ {A : Around} {d d' : Dt} {v v' : V} {u u' : Value}, DAt H d v -> DAt H d' v' -> RelV v u -> RelV v' u' -> DFit n d -> A.units + n < cLine -> EqAt A s u u' (deq d d'))
   {l l' : Addr} {ds ds' : List Dt} {vs vs' : List V} {its its' : List Value} (hs : DAts H ds vs) (hs' : DAts H ds' vs') (rv : Vals vs its) (rv' : Vals vs' its') (hl : s.heap.IsList l its.toArray) (hl' : s.heap.IsList l' its'.toArray)
   (f : ∀ d ∈ ds, DFit n d) (hu : A.units + (n + 1) < cLine) : RcNeAt A s (.ref l) (.ref l') (!deqs ds ds') := by
 have k1 := hs.length
 have k2 := hs'.length
 have k3 := rv.length
 have k4 := rv'.length
 have at_ : ∀ j (h1 : j < its.toArray.size) (h2 : j < its'.toArray.size), EqAt A.in1 s its.toArray[j] its'.toArray[j] (eat ds ds' j) := fun j h1 h2 => by
   rw [List.size_toArray] at h1 h2
   have hj : j < ds.length := by omega
   have hj' : j < ds'.length := by omega
   obtain ⟨x, x1, x2⟩ := hs.get (List.getElem?_eq_getElem hj)
   obtain ⟨y, y1, y2⟩ := hs'.get (List.getElem?_eq_getElem hj')
   have e1 : eat ds ds' j = deq ds[j] ds'[j] := by unfold eat; rw [List.getElem?_eq_getElem hj, List.getElem?_eq_getElem hj']
   rw [e1]
   refine ih x2 y2 ?_ ?_ (f _ (List.getElem_mem hj)) (by show A.units + 1 + n < cLine; omega)
   · exact vals_at rv x1 (by rw [List.getElem_toArray]; exact List.getElem?_eq_getElem h1)
   · exact vals_at rv' y1 (by rw [List.getElem_toArray]; exact List.getElem?_eq_getElem h2)
 by_cases hz : ds.length = ds'.length
 · have key := RcNeAt.lists (A := A) (e := eat ds ds') hl hl' (by rw [List.size_toArray, List.size_toArray]; omega) (by omega) at_
   rw [← deqs_all, hz, Nat.min_self, beq_self_eq_true, Bool.and_true]
   rw [List.size_toArray] at key
   rw [show ds'.length = its.length by omega]
   exact key
 · have hf : deqs ds ds' = false := by rw [← deqs_all, show (ds.length == ds'.length) = false by simpa using hz, Bool.and_false]
   rw [hf]
   exact RcNeAt.lists_lengths hl hl' (by rw [List.size_toArray, List.size_toArray]; simp; omega) (by omega)
theorem rc_at (ok : HOk P w H s.heap) {n : Nat} {A : Around} {d d' : Dt} {v v' : V} {u u' : Value} (h : DAt H d v) (h' : DAt H d' v') (r : RelV v u) (r' : RelV v' u') (f : DFit (n + 1) d) (hu : A.units + (n + 1) < cLine) : RcAt A s u u' (deq d d') := by
 have hu0 : A.units < cLine := by omega
 cases d with
 | non =>
   have h : v = .non := h
   subst h
   cases r
   cases d' with
   | non =>
     have h' : v' = .non := h'
     subst h'
     cases r'
     simp only [deq, Bool.not_false, Bool.not_true]
     exact RcAt.none_none
   | bl b =>
     have h' : v' = .bl b := h'
     subst h'
     cases r'
     simp only [deq, Bool.not_false, Bool.not_true]
     exact RcAt.none_bool _
   | int b =>
     have h' : v' = .int b := h'
     subst h'
     obtain ⟨t', rfl⟩ := r'
     simp only [deq, Bool.not_false, Bool.not_true]
     exact RcAt.none_int _ _
   | str b =>
     have h' : v' = .str b := h'
     subst h'
     obtain ⟨t', rfl⟩ := r'
     simp only [deq, Bool.not_false, Bool.not_true]
     exact RcAt.none_str _ _
   | tup ds' =>
     obtain ⟨l', vs', rfl, e', hs'⟩ := h'
     cases r'
     obtain ⟨its', rv', hl'⟩ := DAts.tup_of ok e'
     simp only [deq, Bool.not_false, Bool.not_true]
     exact RcAt.none_tuple hl' hu0
   | lst ds' =>
     obtain ⟨l', vs', rfl, e', hs'⟩ := h'
     cases r'
     obtain ⟨its', rv', hl'⟩ := DAts.lst_of ok e'
     simp only [deq, Bool.not_false, Bool.not_true]
     exact RcAt.none_list hl' hu0
 | bl a =>
   have h : v = .bl a := h
   subst h
   cases r
   cases d' with
   | non =>
     have h' : v' = .non := h'
     subst h'
     cases r'
     simp only [deq, Bool.not_false, Bool.not_true]
     exact RcAt.bool_none _
   | bl b =>
     have h' : v' = .bl b := h'
     subst h'
     cases r'
     simp only [deq, Bool.not_false, Bool.not_true]
     exact RcAt.bool_bool _ _
   | int b =>
     have h' : v' = .int b := h'
     subst h'
     obtain ⟨t', rfl⟩ := r'
     simp only [deq, Bool.not_false, Bool.not_true]
     exact RcAt.bool_int _ _ _
   | str b =>
     have h' : v' = .str b := h'
     subst h'
     obtain ⟨t', rfl⟩ := r'
     simp only [deq, Bool.not_false, Bool.not_true]
     exact RcAt.bool_str _ _ _
   | tup ds' =>
     obtain ⟨l', vs', rfl, e', hs'⟩ := h'
     cases r'
     obtain ⟨its', rv', hl'⟩ := DAts.tup_of ok e'
     simp only [deq, Bool.not_false, Bool.not_true]
     exact RcAt.bool_tuple _ hl' hu0
   | lst ds' =>
     obtain ⟨l', vs', rfl, e', hs'⟩ := h'
     cases r'
     obtain ⟨its', rv', hl'⟩ := DAts.lst_of ok e'
     simp only [deq, Bool.not_false, Bool.not_true]
     exact RcAt.bool_list _ hl' hu0
 | int a =>
   have h : v = .int a := h
   subst h
   obtain ⟨t, rfl⟩ := r
   cases d' with
   | non =>
     have h' : v' = .non := h'
     subst h'
     cases r'
     simp only [deq, Bool.not_false, Bool.not_true]
     exact RcAt.int_none _ _
   | bl b =>
     have h' : v' = .bl b := h'
     subst h'
     cases r'
     simp only [deq, Bool.not_false, Bool.not_true]
     exact RcAt.int_bool _ _ _
   | int b =>
     have h' : v' = .int b := h'
     subst h'
     obtain ⟨t', rfl⟩ := r'
     simp only [deq, Bool.not_false, Bool.not_true]
     exact RcAt.int_int _ _ _ _
   | str b =>
     have h' : v' = .str b := h'
     subst h'
     obtain ⟨t', rfl⟩ := r'
     simp only [deq, Bool.not_false, Bool.not_true]
     exact RcAt.int_str _ _ _ _
   | tup ds' =>
     obtain ⟨l', vs', rfl, e', hs'⟩ := h'
     cases r'
     obtain ⟨its', rv', hl'⟩ := DAts.tup_of ok e'
     simp only [deq, Bool.not_false, Bool.not_true]
     exact RcAt.int_tuple _ _ hl' hu0
   | lst ds' =>
     obtain ⟨l', vs', rfl, e', hs'⟩ := h'
     cases r'
     obtain ⟨its', rv', hl'⟩ := DAts.lst_of ok e'
     simp only [deq, Bool.not_false, Bool.not_true]
     exact RcAt.int_list _ _ hl' hu0
 | str a =>
   have h : v = .str a := h
   subst h
   obtain ⟨t, rfl⟩ := r
   cases d' with
   | non =>
     have h' : v' = .non := h'
     subst h'
     cases r'
     simp only [deq, Bool.not_false, Bool.not_true]
     exact RcAt.str_none _ _
   | bl b =>
     have h' : v' = .bl b := h'
     subst h'
     cases r'
     simp only [deq, Bool.not_false, Bool.not_true]
     exact RcAt.str_bool _ _ _
   | int b =>
     have h' : v' = .int b := h'
     subst h'
     obtain ⟨t', rfl⟩ := r'
     simp only [deq, Bool.not_false, Bool.not_true]
     exact RcAt.str_int _ _ _ _
   | str b =>
     have h' : v' = .str b := h'
     subst h'
     obtain ⟨t', rfl⟩ := r'
     simp only [deq, Bool.not_false, Bool.not_true]
     exact RcAt.str_str _ _ _ _
   | tup ds' =>
     obtain ⟨l', vs', rfl, e', hs'⟩ := h'
     cases r'
     obtain ⟨its', rv', hl'⟩ := DAts.tup_of ok e'
     simp only [deq, Bool.not_false, Bool.not_true]
     exact RcAt.str_tuple _ _ hl' hu0
   | lst ds' =>
     obtain ⟨l', vs', rfl, e', hs'⟩ := h'
     cases r'
     obtain ⟨its', rv', hl'⟩ := DAts.lst_of ok e'
     simp only [deq, Bool.not_false, Bool.not_true]
     exact RcAt.str_list _ _ hl' hu0
 | tup ds =>
   obtain ⟨l, vs, rfl, e, hs⟩ := h
   cases r
   obtain ⟨its, rv, hl⟩ := DAts.tup_of ok e
   cases d' with
   | non =>
     have h' : v' = .non := h'
     subst h'
     cases r'
     simp only [deq, Bool.not_false, Bool.not_true]
     exact RcAt.tuple_none hl hu0
   | bl b =>
     have h' : v' = .bl b := h'
     subst h'
     cases r'
     simp only [deq, Bool.not_false, Bool.not_true]
     exact RcAt.tuple_bool _ hl hu0
   | int b =>
     have h' : v' = .int b := h'
     subst h'
     obtain ⟨t', rfl⟩ := r'
     simp only [deq, Bool.not_false, Bool.not_true]
     exact RcAt.tuple_int _ _ hl hu0
   | str b =>
     have h' : v' = .str b := h'
     subst h'
     obtain ⟨t', rfl⟩ := r'
     simp only [deq, Bool.not_false, Bool.not_true]
     exact RcAt.tuple_str _ _ hl hu0
   | tup ds' =>
     obtain ⟨l', vs', rfl, e', hs'⟩ := h'
     cases r'
     obtain ⟨its', rv', hl'⟩ := DAts.tup_of ok e'
     simp only [deq, Bool.not_false, Bool.not_true]
     exact rc_tups ok (jN ok n) hs hs' rv rv' hl hl' f.2 hu
   | lst ds' =>
     obtain ⟨l', vs', rfl, e', hs'⟩ := h'
     cases r'
     obtain ⟨its', rv', hl'⟩ := DAts.lst_of ok e'
     simp only [deq, Bool.not_false, Bool.not_true]
     exact RcAt.tuple_list hl hl' hu0
 | lst ds =>
   obtain ⟨l, vs, rfl, e, hs⟩ := h
   cases r
   obtain ⟨its, rv, hl⟩ := DAts.lst_of ok e
   cases d' with
   | non =>
     have h' : v' = .non := h'
     subst h'
     cases r'
     simp only [deq, Bool.not_false, Bool.not_true]
     exact RcAt.list_none hl hu0
   | bl b =>
     have h' : v' = .bl b := h'
     subst h'
     cases r'
     simp only [deq, Bool.not_false, Bool.not_true]
     exact RcAt.list_bool _ hl hu0
   | int b =>
     have h' : v' = .int b := h'
     subst h'
     obtain ⟨t', rfl⟩ := r'
     simp only [deq, Bool.not_false, Bool.not_true]
     exact RcAt.list_int _ _ hl hu0
   | str b =>
     have h' : v' = .str b := h'
     subst h'
     obtain ⟨t', rfl⟩ := r'
     simp only [deq, Bool.not_false, Bool.not_true]
     exact RcAt.list_str _ _ hl hu0
   | tup ds' =>
     obtain ⟨l', vs', rfl, e', hs'⟩ := h'
     cases r'
     obtain ⟨its', rv', hl'⟩ := DAts.tup_of ok e'
     simp only [deq, Bool.not_false, Bool.not_true]
     exact RcAt.list_tuple hl hl' hu0
   | lst ds' =>
     obtain ⟨l', vs', rfl, e', hs'⟩ := h'
     cases r'
     obtain ⟨its', rv', hl'⟩ := DAts.lst_of ok e'
     simp only [deq, Bool.not_false, Bool.not_true]
     exact rc_lists ok (jN ok n) hs hs' rv rv' hl hl' f.2 hu
theorem rn_at (ok : HOk P w H s.heap) {n : Nat} {A : Around} {d d' : Dt} {v v' : V} {u u' : Value} (h : DAt H d v) (h' : DAt H d' v') (r : RelV v u) (r' : RelV v' u') (f : DFit (n + 1) d) (hu : A.units + (n + 1) < cLine) : RcNeAt A s u u' (!deq d d') := by
 have hu0 : A.units < cLine := by omega
 cases d with
 | non =>
   have h : v = .non := h
   subst h
   cases r
   cases d' with
   | non =>
     have h' : v' = .non := h'
     subst h'
     cases r'
     simp only [deq, Bool.not_false, Bool.not_true]
     exact RcNeAt.none_none
   | bl b =>
     have h' : v' = .bl b := h'
     subst h'
     cases r'
     simp only [deq, Bool.not_false, Bool.not_true]
     exact RcNeAt.none_bool _
   | int b =>
     have h' : v' = .int b := h'
     subst h'
     obtain ⟨t', rfl⟩ := r'
     simp only [deq, Bool.not_false, Bool.not_true]
     exact RcNeAt.none_int _ _
   | str b =>
     have h' : v' = .str b := h'
     subst h'
     obtain ⟨t', rfl⟩ := r'
     simp only [deq, Bool.not_false, Bool.not_true]
     exact RcNeAt.none_str _ _
   | tup ds' =>
     obtain ⟨l', vs', rfl, e', hs'⟩ := h'
     cases r'
     obtain ⟨its', rv', hl'⟩ := DAts.tup_of ok e'
     simp only [deq, Bool.not_false, Bool.not_true]
     exact RcNeAt.none_tuple hl' hu0
   | lst ds' =>
     obtain ⟨l', vs', rfl, e', hs'⟩ := h'
     cases r'
     obtain ⟨its', rv', hl'⟩ := DAts.lst_of ok e'
     simp only [deq, Bool.not_false, Bool.not_true]
     exact RcNeAt.none_list hl' hu0
 | bl a =>
   have h : v = .bl a := h
   subst h
   cases r
   cases d' with
   | non =>
     have h' : v' = .non := h'
     subst h'
     cases r'
     simp only [deq, Bool.not_false, Bool.not_true]
     exact RcNeAt.bool_none _
   | bl b =>
     have h' : v' = .bl b := h'
     subst h'
     cases r'
     simp only [deq, Bool.not_false, Bool.not_true]
     exact RcNeAt.bool_bool _ _
   | int b =>
     have h' : v' = .int b := h'
     subst h'
     obtain ⟨t', rfl⟩ := r'
     simp only [deq, Bool.not_false, Bool.not_true]
     exact RcNeAt.bool_int _ _ _
   | str b =>
     have h' : v' = .str b := h'
     subst h'
     obtain ⟨t', rfl⟩ := r'
     simp only [deq, Bool.not_false, Bool.not_true]
     exact RcNeAt.bool_str _ _ _
   | tup ds' =>
     obtain ⟨l', vs', rfl, e', hs'⟩ := h'
     cases r'
     obtain ⟨its', rv', hl'⟩ := DAts.tup_of ok e'
     simp only [deq, Bool.not_false, Bool.not_true]
     exact RcNeAt.bool_tuple _ hl' hu0
   | lst ds' =>
     obtain ⟨l', vs', rfl, e', hs'⟩ := h'
     cases r'
     obtain ⟨its', rv', hl'⟩ := DAts.lst_of ok e'
     simp only [deq, Bool.not_false, Bool.not_true]
     exact RcNeAt.bool_list _ hl' hu0
 | int a =>
   have h : v = .int a := h
   subst h
   obtain ⟨t, rfl⟩ := r
   cases d' with
   | non =>
     have h' : v' = .non := h'
     subst h'
     cases r'
     simp only [deq, Bool.not_false, Bool.not_true]
     exact RcNeAt.int_none _ _
   | bl b =>
     have h' : v' = .bl b := h'
     subst h'
     cases r'
     simp only [deq, Bool.not_false, Bool.not_true]
     exact RcNeAt.int_bool _ _ _
   | int b =>
     have h' : v' = .int b := h'
     subst h'
     obtain ⟨t', rfl⟩ := r'
     simp only [deq, Bool.not_false, Bool.not_true]
     exact RcNeAt.int_int _ _ _ _
   | str b =>
     have h' : v' = .str b := h'
     subst h'
     obtain ⟨t', rfl⟩ := r'
     simp only [deq, Bool.not_false, Bool.not_true]
     exact RcNeAt.int_str _ _ _ _
   | tup ds' =>
     obtain ⟨l', vs', rfl, e', hs'⟩ := h'
     cases r'
     obtain ⟨its', rv', hl'⟩ := DAts.tup_of ok e'
     simp only [deq, Bool.not_false, Bool.not_true]
     exact RcNeAt.int_tuple _ _ hl' hu0
   | lst ds' =>
     obtain ⟨l', vs', rfl, e', hs'⟩ := h'
     cases r'
     obtain ⟨its', rv', hl'⟩ := DAts.lst_of ok e'
     simp only [deq, Bool.not_false, Bool.not_true]
     exact RcNeAt.int_list _ _ hl' hu0
 | str a =>
   have h : v = .str a := h
   subst h
   obtain ⟨t, rfl⟩ := r
   cases d' with
   | non =>
     have h' : v' = .non := h'
     subst h'
     cases r'
     simp only [deq, Bool.not_false, Bool.not_true]
     exact RcNeAt.str_none _ _
   | bl b =>
     have h' : v' = .bl b := h'
     subst h'
     cases r'
     simp only [deq, Bool.not_false, Bool.not_true]
     exact RcNeAt.str_bool _ _ _
   | int b =>
     have h' : v' = .int b := h'
     subst h'
     obtain ⟨t', rfl⟩ := r'
     simp only [deq, Bool.not_false, Bool.not_true]
     exact RcNeAt.str_int _ _ _ _
   | str b =>
     have h' : v' = .str b := h'
     subst h'
     obtain ⟨t', rfl⟩ := r'
     simp only [deq, Bool.not_false, Bool.not_true]
     exact RcNeAt.str_str _ _ _ _
   | tup ds' =>
     obtain ⟨l', vs', rfl, e', hs'⟩ := h'
     cases r'
     obtain ⟨its', rv', hl'⟩ := DAts.tup_of ok e'
     simp only [deq, Bool.not_false, Bool.not_true]
     exact RcNeAt.str_tuple _ _ hl' hu0
   | lst ds' =>
     obtain ⟨l', vs', rfl, e', hs'⟩ := h'
     cases r'
     obtain ⟨its', rv', hl'⟩ := DAts.lst_of ok e'
     simp only [deq, Bool.not_false, Bool.not_true]
     exact RcNeAt.str_list _ _ hl' hu0
 | tup ds =>
   obtain ⟨l, vs, rfl, e, hs⟩ := h
   cases r
   obtain ⟨its, rv, hl⟩ := DAts.tup_of ok e
   cases d' with
   | non =>
     have h' : v' = .non := h'
     subst h'
     cases r'
     simp only [deq, Bool.not_false, Bool.not_true]
     exact RcNeAt.tuple_none hl hu0
   | bl b =>
     have h' : v' = .bl b := h'
     subst h'
     cases r'
     simp only [deq, Bool.not_false, Bool.not_true]
     exact RcNeAt.tuple_bool _ hl hu0
   | int b =>
     have h' : v' = .int b := h'
     subst h'
     obtain ⟨t', rfl⟩ := r'
     simp only [deq, Bool.not_false, Bool.not_true]
     exact RcNeAt.tuple_int _ _ hl hu0
   | str b =>
     have h' : v' = .str b := h'
     subst h'
     obtain ⟨t', rfl⟩ := r'
     simp only [deq, Bool.not_false, Bool.not_true]
     exact RcNeAt.tuple_str _ _ hl hu0
   | tup ds' =>
     obtain ⟨l', vs', rfl, e', hs'⟩ := h'
     cases r'
     obtain ⟨its', rv', hl'⟩ := DAts.tup_of ok e'
     simp only [deq, Bool.not_false, Bool.not_true]
     exact rn_tups ok (jN ok n) hs hs' rv rv' hl hl' f.2 hu
   | lst ds' =>
     obtain ⟨l', vs', rfl, e', hs'⟩ := h'
     cases r'
     obtain ⟨its', rv', hl'⟩ := DAts.lst_of ok e'
     simp only [deq, Bool.not_false, Bool.not_true]
     exact RcNeAt.tuple_list hl hl' hu0
 | lst ds =>
   obtain ⟨l, vs, rfl, e, hs⟩ := h
   cases r
   obtain ⟨its, rv, hl⟩ := DAts.lst_of ok e
   cases d' with
   | non =>
     have h' : v' = .non := h'
     subst h'
     cases r'
     simp only [deq, Bool.not_false, Bool.not_true]
     exact RcNeAt.list_none hl hu0
   | bl b =>
     have h' : v' = .bl b := h'
     subst h'
     cases r'
     simp only [deq, Bool.not_false, Bool.not_true]
     exact RcNeAt.list_bool _ hl hu0
   | int b =>
     have h' : v' = .int b := h'
     subst h'
     obtain ⟨t', rfl⟩ := r'
     simp only [deq, Bool.not_false, Bool.not_true]
     exact RcNeAt.list_int _ _ hl hu0
   | str b =>
     have h' : v' = .str b := h'
     subst h'
     obtain ⟨t', rfl⟩ := r'
     simp only [deq, Bool.not_false, Bool.not_true]
     exact RcNeAt.list_str _ _ hl hu0
   | tup ds' =>
     obtain ⟨l', vs', rfl, e', hs'⟩ := h'
     cases r'
     obtain ⟨its', rv', hl'⟩ := DAts.tup_of ok e'
     simp only [deq, Bool.not_false, Bool.not_true]
     exact RcNeAt.list_tuple hl hl' hu0
   | lst ds' =>
     obtain ⟨l', vs', rfl, e', hs'⟩ := h'
     cases r'
     obtain ⟨its', rv', hl'⟩ := DAts.lst_of ok e'
     simp only [deq, Bool.not_false, Bool.not_true]
     exact rn_lists ok (jN ok n) hs hs' rv rv' hl hl' f.2 hu
end
section
variable {X : Cx}
def rEqG : R2 := fun x y H Q => ∃ n d d', DAt H d x /\ DAt H d' y /\ DFit (n + 1) d /\ n <= 60 /\ Q (.bl (deq d d')) H
def rNeG : R2 := fun x y H Q => ∃ n d d', DAt H d x /\ DAt H d' y /\ DFit (n + 1) d /\ n <= 60 /\ Q (.bl (!deq d d')) H
theorem yF (hu : X.A.units + 64 < cLine) : OpR X (compareOp .Eq) rEqG := by
 intro pins s σ H x y v u Q I rx ry h
 obtain ⟨n, d, d', h1, h2, f, hn, q⟩ := h
 exact rc_at I.hok h1 h2 rx ry f (by omega) X.prog X.w _ _ (yD I q rfl)
theorem op_neG (hu : X.A.units + 64 < cLine) : OpR X (compareOp .NotEq) rNeG := by
 intro pins s σ H x y v u Q I rx ry h
 obtain ⟨n, d, d', h1, h2, f, hn, q⟩ := h
 exact rn_at I.hok h1 h2 rx ry f (by omega) X.prog X.w _ _ (yD I q rfl)
def rInG (neg : Bool) : R2 := fun x y H Q => ∃ n d ds, DAt H d x /\ (DAt H (.lst ds) y \/ DAt H (.tup ds) y) /\ (∀ e ∈ ds, DFit n e) /\ n <= 60 /\ Q (.bl (neg ^^ ds.any fun e => deq e d)) H
open Classical in
theorem qX {H : Hp} {its : List Value} {vs : List V} {ds : List Dt} {d : Dt} (hs : DAts H ds vs) (rv : Vals vs its) (e : Value -> Bool) (he : ∀ y, e y = decide (∃ d' v', DAt H d' v' /\ RelV v' y /\ deq d' d = true)) : its.toArray.any e = ds.any fun e => deq e d := by
 rw [List.any_toArray]
 induction ds generalizing vs its with
 | nil =>
   have hs : vs = [] := hs
   subst hs
   cases rv
   rfl
 | cons d0 ds ih =>
   obtain ⟨v, r, rfl, e1, e2⟩ := hs
   cases rv with
   | cons rr rt =>
     rename_i u us
     rw [List.any_cons, List.any_cons, ih e2 rt, he]
     congr 1
     rw [Bool.eq_iff_iff, decide_eq_true_eq]
     constructor
     · rintro ⟨d', v', q1, q2, q3⟩
       have := RelV.inj q2 rr
       subst this
       rw [DAt.one_of e1 q1]
       exact q3
     · intro q
       exact ⟨d0, v, e1, rr, q⟩
open Classical in
theorem in_eq {P : Program} {w : World} {H : Hp} {s : Shared} {A : Around} (ok : HOk P w H s.heap) {its : List Value} {vs : List V} {ds : List Dt} {d : Dt} {x : V} {u : Value} {n : Nat} (hs : DAts H ds vs) (rv : Vals vs its) (hx : DAt H d x) (ru : RelV x u) (f : ∀ e ∈ ds, DFit n e) (hu : A.units + (n + 1) < cLine)
   (y : Value) (hy : y ∈ its.toArray) : EqAt A.in1 s y u (decide (∃ d' v', DAt H d' v' /\ RelV v' y /\ deq d' d = true)) := by
 obtain ⟨j, hj, e⟩ := List.getElem_of_mem (show y ∈ its by simpa using hy)
 have k1 := hs.length
 have k2 := rv.length
 have hjd : j < ds.length := by omega
 obtain ⟨v, v1, v2⟩ := hs.get (List.getElem?_eq_getElem hjd)
 have rr : RelV v y := vals_at rv v1 (by rw [List.getElem?_eq_getElem hj, e])
 have : decide (∃ d' v', DAt H d' v' /\ RelV v' y /\ deq d' d = true) = deq ds[j] d := by
   rw [Bool.eq_iff_iff, decide_eq_true_eq]
   constructor
   · rintro ⟨d', v', q1, q2, q3⟩
     have := RelV.inj q2 rr
     subst this
     rw [DAt.one_of v2 q1]
     exact q3
   · intro q
     exact ⟨_, v, v2, rr, q⟩
 rw [this]
 exact jN ok n v2 hx rr ru (f _ (List.getElem_mem hjd)) (by show A.units + 1 + n < cLine; omega)
theorem op_inG (hu : X.A.units + 64 < cLine) : OpR X (compareOp .In) (rInG false) := by
 intro pins s σ H x y v u Q I rx ry h
 obtain ⟨n, d, ds, hx, hy, f, hn, q⟩ := h
 rw [Bool.false_xor] at q
 rcases hy with ⟨l, vs, rfl, e, hs⟩ | ⟨l, vs, rfl, e, hs⟩
 · cases ry
   obtain ⟨its, rv, hl⟩ := DAts.lst_of I.hok e
   refine in_listAt _ hl (in_eq I.hok hs rv hx rx f (by omega)) (yD I q ?_)
   exact (qX hs rv _ fun _ => rfl).symm
 · cases ry
   obtain ⟨its, rv, hl⟩ := DAts.tup_of I.hok e
   refine in_tupleAt _ hl (in_eq I.hok hs rv hx rx f (by omega)) (yD I q ?_)
   exact (qX hs rv _ fun _ => rfl).symm
theorem xQ (hu : X.A.units + 64 < cLine) : OpR X (compareOp .NotIn) (rInG true) := by
 intro pins s σ H x y v u Q I rx ry h
 obtain ⟨n, d, ds, hx, hy, f, hn, q⟩ := h
 rw [Bool.true_xor] at q
 rcases hy with ⟨l, vs, rfl, e, hs⟩ | ⟨l, vs, rfl, e, hs⟩
 · cases ry
   obtain ⟨its, rv, hl⟩ := DAts.lst_of I.hok e
   refine notIn_listAt _ hl (in_eq I.hok hs rv hx rx f (by omega)) (yD I q ?_)
   rw [qX hs rv _ fun _ => rfl]
 · cases ry
   obtain ⟨its, rv, hl⟩ := DAts.tup_of I.hok e
   refine notIn_tupleAt _ hl (in_eq I.hok hs rv hx rx f (by omega)) (yD I q ?_)
   rw [qX hs rv _ fun _ => rfl]
end
end L2
namespace L2
open PySem PySem.Spec PyProof.Rows PySem.SeqAt
section
variable {prog : Program} {w : World} {A : Around} {E : Value -> Shared -> Prop} {s : Shared}
structure Apt (z TI TO i1 i2 l1 l2 : Addr) : Prop where
 nd : [z, TI, TO, i1, i2].Nodup
 a1 : l1 ≠ z /\ l1 ≠ TO /\ l1 ≠ i1 /\ l1 ≠ i2
 a2 : l2 ≠ z /\ l2 ≠ TO /\ l2 ≠ i1 /\ l2 ≠ i2
end
section
variable {X : Cx} {pins : List (Addr × Obj)} {σ : St} {H : Hp} {s : Shared} {h' : Heap}
theorem Inv.turnedL {t' : Nat} {ch : List Addr} (I : Inv X pins σ H s) (k : ∀ b o, b ∉ ch -> s.heap.get? b = some o -> h'.get? b = some o) (hf : ∀ b ∈ ch, jP X pins H b) : Inv X pins σ H { s with heap := h', toks := t' } := by
 have nit : ∀ b u, H b = some u -> b ∉ ch := fun b u e z => by rw [(hf b z).1] at e; cases e
 have hL : X.env.locals ∉ ch := fun z => (hf _ z).2.1 rfl
 refine I.step (g' := s.gens) (d' := s.drawn) (ch := ch) (fun b hb => ?_) (fun b o _ _ hc e _ => k b o hc e) (fun b o _ _ hc e _ => ⟨o.slots, k b o hc e⟩) (fun _ _ _ _ n => n) (fun b o hc e => ⟨o, k b o hc e⟩) (fun _ _ e => e) (fun _ _ _ e => e) (fun b ps e => ⟨#[], by rw [e]; simp⟩) (fun m hm => ?_) (fun b u e => ?_) I.bare
 · obtain ⟨f0, f1, f2, f3, f4, f5⟩ := hf b hb
   exact ⟨f3, f1, f4, f5⟩
 · obtain ⟨o, es, ep, ho, r⟩ := hm
   exact ⟨o, es, ep, k _ o hL ho, r⟩
 · refine (I.hok b u e).stay (fun c v hc q => k c v ?_ q) (fun _ q => q) fun _ _ q => q
   rcases hc with z | z
   · rw [z]; exact nit b u e
   · exact nit c _ z
theorem Inv.turnedN {t' : Nat} {ch : List Addr} {p : Addr} {o : HO} (I : Inv X pins σ H s) (k : ∀ b o, b ∉ ch -> s.heap.get? b = some o -> h'.get? b = some o) (hf : ∀ b ∈ ch, jP X pins H b) (hp : s.heap.objs.size <= p) (new : ObjOk X.prog X.w (upd H p o) h' p o) :
   Inv X pins σ (upd H p o) { s with heap := h', toks := t' } := by
 have nit : ∀ b u, H b = some u -> b ∉ ch := fun b u e z => by rw [(hf b z).1] at e; cases e
 have hL : X.env.locals ∉ ch := fun z => (hf _ z).2.1 rfl
 have hn := I.hok.fresh hp
 have nep : ∀ {b : Addr} {u : HO}, H b = some u -> b ≠ p := fun e z => by rw [z, hn] at e; cases e
 refine I.step (g' := s.gens) (d' := s.drawn) (ch := ch) (fun b hb => ?_) (fun b o _ _ hc e _ => k b o hc e) (fun b o _ _ hc e _ => ⟨o.slots, k b o hc e⟩) (fun b u _ e n => ?_) (fun b o hc e => ⟨o, k b o hc e⟩) (fun _ _ e => by rw [zH (nep e)]; exact e) (fun _ _ _ e => by rw [zH (nep e)]; exact e) (fun b ps e => ⟨#[], by rw [zH (nep e), e]; simp⟩) (fun m hm => ?_) (fun b u e => ?_) I.bare
 · obtain ⟨f0, f1, f2, f3, f4, f5⟩ := hf b hb
   exact ⟨f3, f1, f4, f5⟩
 · rw [zH (Nat.ne_of_lt (Nat.lt_of_lt_of_le (Heap.lt_size e) hp))]
   exact n
 · obtain ⟨o, es, ep, ho, r⟩ := hm
   exact ⟨o, es, ep, k _ o hL ho, r⟩
 · by_cases hb : b = p
   · subst hb
     rw [zB] at e
     cases e
     exact new
   · rw [zH hb] at e
     refine (I.hok b u e).stay (fun c v hc q => k c v ?_ q) (fun c q => by rw [zH (nep q)]; exact q) fun c _ q => by rw [zH (nep q)]; exact q
     rcases hc with z | z
     · rw [z]; exact nit b u e
     · exact nit c _ z
end
section
variable {X : Cx}
end
end L2
namespace L2
open PySem PySem.Spec PyProof.Rows PySem.SeqAt
end L2
namespace L2
open PySem PySem.Spec PyProof.Rows PySem.SeqAt
inductive Rw where
 | no | nm (x : Str) | bo (i j : Int)
def dRw : Rw -> Dt
 | .no => .tup [.str "none"]
 | .nm x => .tup [.str "name", .str x]
 | .bo i j => .tup [.str "both", .int i, .int j]
inductive Wt where
 | n (i : Int) | ps (l : List Int)
structure Ln where
 i : Int
 j : Int
 w : Str
 as : List Wt
def parts (rows : List Rw) (n : Int) : List Int := if n % 2 = 0 then (match rows[(n / 2).toNat]? with | some (.bo i j) => [i, j] | _ => []) else []
def tn1 (n : Int) : Int := n + 1 - 2 * (n % 2)
theorem xor1 (n : Int) : Builtin.bitXor n 1 = tn1 n := by
 rw [bitXor_and]
 unfold tn1
 rw [bitAnd_m1]
end L2
namespace L2
open PySem PySem.Spec PyProof.Rows PySem.SeqAt
section
variable {prog : Program} {w : World} {A : Around} {E : Value -> Shared -> Prop} {s : Shared}
theorem tup_whole {t sl : Addr} {items : Array Value} {vl vu : Value} {lo hi : Option Int} {Q : Value -> Shared -> Prop} (ht : IsTup s.heap t items) (hs : s.heap.IsSliceOf sl vl vu .none) (pl : IsPart vl lo) (pu : IsPart vu hi)
   (hw : HT.sIx items.size 0 lo = 0 /\ HT.sIx items.size items.size hi = items.size) (h : Q (.ref t) s) : wpAny (model prog w) A (getItem (.ref t) (.ref sl)) Q E s := by
 obtain ⟨os, hos, hcs, hds⟩ := id hs
 have hTs : s.TypeIs (.ref sl) "slice" := ⟨os, hos, hcs⟩
 unfold getItem
 try with_reducible refine wpAny_holding ?_
 first | refine wpAny_bind (wpAny_pure ?_) | skip
 refine wpAny_bind (wpAny_sequenceKey ht.typeIs (by decide) (wpAny_bind (wpAny_callSpecial?_slot (name := Str.ofString "__getitem__") ht.typeIs PyProof.Rows.slot_tuple_getitem (wpAny_call_entry PyProof.Rows.slot_tuple_getitem ht.typeIs entry_tuple_getitem ?_ (args_tuple_getitem _ _)))))
 refine wpAny_bind (m := Builtin.Tuple.tupleItemsOf (.ref t)) (tupleItemsOf_ ht (wpAny_bind (wpAny_typeOf hTs ?_)))
 rw [if_pos (by decide)]
 refine wpAny_bind (HT.sliceApplied_gen hs pl pu ?_)
 have hyes : ((((HT.sIx items.size 0 lo : Nat) : Int) == 0 && (1 : Int) == 1 && (HT.sIx items.size items.size hi - HT.sIx items.size 0 lo) == items.size) = true) := by
   rw [hw.1, hw.2]
   simp
 show wpAny _ _ (if (((HT.sIx items.size 0 lo : Nat) : Int) == 0 && (1 : Int) == 1 && (HT.sIx items.size items.size hi - HT.sIx items.size 0 lo) == items.size) = true then _ else _) _ _ s
 rw [if_pos hyes]
 have hT := ht.typeIs
 wp_walk
 exact ⟨_, rfl, wpAny_pure h⟩
end
section
variable {X : Cx}
def rSlG : V -> Option Int -> Option Int -> Hp -> VK -> Prop := fun x lo hi H Q => ∃ a xs, x = .ref a /\ H a = some (.tup xs) /\ ∀ p H', Same H H' -> H' p = some (.tup (yM xs lo hi)) -> Q (.ref p) H'
theorem sl_tupG : SlR X rSlG := by
 intro pins s σ H x v vl vu lo hi sl Q I rx hs pl pu h
 obtain ⟨a, xs, rfl, hx, q⟩ := h
 by_cases hw : HT.sIx xs.length 0 lo = 0 /\ HT.sIx xs.length xs.length hi = xs.length
 · cases rx
   obtain ⟨its, r, ht, hz⟩ := I.tuple (SqT.of hx)
   have hlen : its.toArray.size = xs.length := by rw [List.size_toArray]; exact r.length.symm
   refine ⟨"tuple", _, PyProof.Rows.slot_tuple_getitem.lookup, ht.typeIs, ?_⟩
   refine tup_whole ht hs pl pu (by rw [hlen]; exact hw) ⟨.ref a, H, I, rfl, q a H (Same.refl H) ?_⟩
   have e : yM xs lo hi = xs := by
     unfold yM
     rw [hw.1, hw.2, List.drop_zero, Nat.sub_zero, List.take_of_length_le (Nat.le_refl _)]
   rw [e]
   exact hx
 · exact sl_tup pins s σ H _ v vl vu lo hi sl Q I rx hs pl pu ⟨a, xs, rfl, SqT.of hx, hw, fun p hp => q p _ (zE hp _) zB⟩
def rCatG : R2 := fun x y H Q => ∃ a b xs ys, x = .ref a /\ y = .ref b /\ H a = some (.tup xs) /\ H b = some (.tup ys) /\ xs.length + ys.length <= sizeLine /\ ∀ p H', Same H H' -> H' p = some (.tup (xs ++ ys)) -> Q (.ref p) H'
theorem op_catG : OpR X (binaryOp .Add) rCatG := by
 intro pins s σ H x y v u Q I rx ry h
 obtain ⟨a, b, xs, ys, rfl, rfl, ha, hb, hz, q⟩ := h
 by_cases hx : xs = []
 · subst hx
   cases rx
   cases ry
   obtain ⟨its, r1, p1, _⟩ := I.tuple (SqT.of ha)
   obtain ⟨its2, r2, p2, _⟩ := I.tuple (SqT.of hb)
   have hv : its = [] := r1.nil_iff.mpr rfl
   obtain ⟨⟨cls, dd, data, sl⟩, ho, hc, n, hd⟩ := id p1
   obtain ⟨⟨cls2, dd2, data2, sl2⟩, ho2, hc2, n2, hd2⟩ := id p2
   simp only at hc hd hc2 hd2
   subst hc hd hc2 hd2
   exact concat_meets ⟨_, ho, rfl⟩ ⟨_, ho2, rfl⟩ noFill_tuple_add seq_tuple_add PySem.F.slot_tuple_add PySem.F.entry_tuple_add (PySem.F.args_tuple_add_2 _ _) (tuple_addW0 a b its.toArray its2.toArray n n2 dd dd2 sl sl2 (by simp [hv])) ⟨ho, ho2, ⟨.ref b, H, I, rfl, q b H (Same.refl H) hb⟩⟩
 · refine op_catT pins s σ H _ _ v u Q I rx ry ⟨a, b, xs, ys, rfl, rfl, SqT.of ha, SqT.of hb, hx, hz, fun e => ?_, fun _ p hp => q p _ (zE hp _) zB⟩
   subst e
   exact q a H (Same.refl H) (by rw [List.append_nil]; exact ha)
end
end L2
namespace L2
open PySem PySem.Spec PyProof.Rows PySem.SeqAt
section
variable {X : Cx}
def rIndexG : V -> List V -> Hp -> VK -> Prop := fun x vs H Q => ∃ (l : Addr) (us : List V) (ds : List Dt) (v : V) (d : Dt) (n j : Nat), x = .ref l /\ vs = [v] /\ H l = some (.lst us) /\ DAts H ds us /\ DAt H d v /\ (∀ e ∈ ds, DFit n e) /\ n <= 60 /\ ds.length <= 1000000 /\ (∃ d', ds[j]? = some d' /\ deq d' d = true) /\ (∀ (m : Nat) (d' : Dt), m < j -> ds[m]? = some d' -> deq d' d = false) /\ Q (.int j) H
open Classical in
theorem yZ (hu : X.A.units + 64 < cLine) : MtM X "list.index" rIndexG := by
 intro pins s σ H x vs v us Q I rx rv h
 obtain ⟨l, ws, ds, y, d, n, j, rfl, rfl, hH, hds, hd, hf, hn, h6, ⟨d', hj, hj'⟩, hno, q⟩ := h
 cases rx
 obtain ⟨u, rfl, ru⟩ := rv.one
 obtain ⟨hz, its, m, r, hl, e⟩ := I.lstM hH
 have k1 := hds.length
 have k2 := r.length
 obtain ⟨jl, je⟩ := List.getElem?_eq_some_iff.mp hj
 have at_ : ∀ m (hm : m < its.length), decide (∃ d' v', DAt H d' v' /\ RelV v' its[m] /\ deq d' d = true) = deq (ds[m]'(by omega)) d := fun m hm => by
   have hmd : m < ds.length := by omega
   obtain ⟨v, v1, v2⟩ := hds.get (List.getElem?_eq_getElem hmd)
   have rr : RelV v its[m] := vals_at r v1 (List.getElem?_eq_getElem hm)
   rw [Bool.eq_iff_iff, decide_eq_true_eq]
   constructor
   · rintro ⟨d', v', q1, q2, q3⟩
     have := RelV.inj q2 rr
     subst this
     rw [DAt.one_of v2 q1]
     exact q3
   · intro q
     exact ⟨_, v, v2, rr, q⟩
 have hj2 : j < its.toArray.size := by rw [List.size_toArray]; omega
 have M := PySem.SeqAt.list_indexAt l its.toArray m none #[] u (fun y => decide (∃ d' v', DAt H d' v' /\ RelV v' y /\ deq d' d = true)) j hj2 (by omega) (by
     rw [List.getElem_toArray, at_ j (by omega), je]
     exact hj') (fun m hm hlt => by
     rw [List.getElem_toArray, at_ m (by simpa using hm)]
     exact hno m _ hlt (List.getElem?_eq_getElem (by have : m < its.length := (by simpa using hm); omega)))
 refine call_meets PySem.F.slot_list_index ⟨_, e, rfl⟩ PySem.F.entry_list_index (PySem.F.args_list_index_2 _ _) M ⟨e, fun y hy => ?_, ?_⟩
 · exact in_eq I.hok hds r hd ru hf (by omega) y hy
 · exact ⟨.int j, H, I.tok _, ⟨_, rfl⟩, q⟩
end
end L2
namespace L2
open PySem
end L2
namespace L2
open PySem PyProof.Rows
section
variable {prog : Program} {w : World} {A : Around} {E : Value -> Shared -> Prop} {s : Shared}
end
section
variable {prog : Program} {w : World} {A : Around} {R : Result -> Shared -> Prop} {I : Addr} {fp wr : List Addr} {G : Array GenState -> Array GenState -> Prop} {n : Nat} {P : Nat -> Value -> Prop} {St : Nat -> Shared -> Prop}
end
section
variable {prog : Program} {w : World} {A : Around} {E : Value -> Shared -> Prop} {s : Shared}
end
end L2
namespace L2
open PySem PySem.Spec PyProof.Rows PySem.SeqAt PySem.W
section
variable {prog : Program} {w : World} {A : Around} {E : Value -> Shared -> Prop} {s : Shared} {T : String} {r d : Addr} {n : Nat} {P : Nat -> Value -> Prop} {OK : Heap -> Prop}
end
section
variable {X : Cx}
end
end L2
namespace L2
open PySem PySem.Spec PyProof.Rows PySem.SeqAt
def Ite (a : Addr) : It :=
 ⟨fun i H => ∃ xs x, H a = some (.lst xs) /\ xs[i]? = some x,
  fun i H v H' => ∃ p x, v = .ref p /\ H p = none /\ H' = upd H p (.tup [.int i, x]) /\ ∀ xs, H a = some (.lst xs) -> xs[i]? = some x,
  fun i H => ∃ xs, H a = some (.lst xs) /\ xs.length <= i⟩
def Eat (e it l : Addr) (i : Nat) (h : Heap) : Prop := (∃ old, IsEnum h e it i old) /\ h.IsListIter it l i
theorem turn_enum {P : Program} {w : World} {K : PySem.W.Frag} {elts : List Expr} {cx : _} {tp : Pos} (e it l : Addr) (ne : e ≠ it) :
   Turn P w K (.Tuple elts cx tp) (Ite l) [e, it] e (Eat e it l) where
 mem := by simp
 obj := fun i h st b hb => by
   obtain ⟨⟨old, ge⟩, ⟨o2, r2, _, d2⟩⟩ := st
   simp only [List.mem_cons, List.not_mem_nil, or_false] at hb
   rcases hb with rfl | rfl
   · exact ⟨_, ge, fun v e => by cases e⟩
   · exact ⟨_, r2, fun v e => by rw [d2] at e; cases e⟩
 keep := fun i h h' st k => by
   obtain ⟨⟨old, ge⟩, ⟨o2, r2, q2⟩⟩ := st
   exact ⟨⟨old, k _ (by simp) _ ge⟩, ⟨o2, k _ (by simp) _ r2, q2⟩⟩
 item := by
   intro X hP hw hK hc i pins s σ H E I hf st hg
   subst hP hw hK
   obtain ⟨xs, x, ha, hx⟩ := hg
   obtain ⟨its, rv, t1⟩ := DAts.lst_of I.hok ha
   obtain ⟨u, hu, ru⟩ := rv.get hx
   obtain ⟨⟨old, ge⟩, r1⟩ := st
   refine wpAny_pyNext_enum_item ge r1 t1 (by simpa using hu) ne fun h1 b1 b2 b3 b4 b5 => ?_
   refine ⟨_, rfl, wpAny_letOwnedTupleGo_enum (s := { s with heap := h1, toks := s.toks + 1 }) b1 fun h2 g2 s2 => ?_⟩
   have be : e < s.heap.objs.size := Heap.lt_size ge
   have bi : it < s.heap.objs.size := by obtain ⟨_, z, _⟩ := r1; exact Heap.lt_size z
   have keep2 : ∀ b o, b ∉ [e, it] -> s.heap.get? b = some o -> h2.get? b = some o := fun b o hb q => by
     simp only [List.mem_cons, List.not_mem_nil, or_false, not_or] at hb
     exact s2.extBut b o hb.1 (b5 b o hb.1 hb.2 q)
   have hfr : H s.heap.objs.size = none := I.hok.fresh (Nat.le_refl _)
   have gT := s2.extBut _ _ (Nat.ne_of_gt be) b3
   refine ⟨.ref s.heap.objs.size, _, I.turnedN (t' := s.toks + 1) (p := s.heap.objs.size) (o := .tup [.int i, x]) keep2 hf (Nat.le_refl _) ⟨small (by simp), [.int i s.toks, u], .cons ⟨_, rfl⟩ (.cons ru .nil), ⟨_, gT, rfl, _, rfl⟩⟩, rfl, ⟨_, x, rfl, hfr, rfl, fun xs' e1 => ?_⟩, ?_, fun b hb => ?_⟩
   · rw [ha] at e1
     cases e1
     exact hx
   · obtain ⟨o2, b21, b22⟩ := b2
     exact ⟨⟨_, g2⟩, ⟨o2, s2.extBut _ _ (Ne.symm ne) b21, b22⟩⟩
   · have hb2 : b < s.heap.objs.size := by
       simp only [List.mem_cons, List.not_mem_nil, or_false] at hb
       rcases hb with rfl | rfl
       · exact be
       · exact bi
     rw [zH (Nat.ne_of_lt hb2)]
     exact (hf b hb).1
 done := by
   intro X hP hw hK hc i pins s σ H E I hf st hg
   subst hP hw hK
   obtain ⟨xs, ha, hl⟩ := hg
   obtain ⟨its, rv, t1⟩ := DAts.lst_of I.hok ha
   have k1 := rv.length
   obtain ⟨⟨old, ge⟩, r1⟩ := st
   refine wpAny_pyNext_enum_end (I.ok.hd hc) ge r1 t1 (by simp; omega) fun h1 kk => ⟨rfl, ?_⟩
   refine I.turnedL (ch := [it]) (t' := s.toks) (fun b o hb q => ?_) (fun b hb => hf b (by simp only [List.mem_cons, List.not_mem_nil, or_false] at hb ⊢; exact .inr hb))
   simp only [List.mem_cons, List.not_mem_nil, or_false] at hb
   exact kk b o hb q
 self := fun _ _ _ _ _ st h => by
   obtain ⟨⟨old, ge⟩, _⟩ := st
   exact wpAny_pyIter_enum ge h
section
variable {X : Cx}
def iEnum (ta : TA) : TI := fun σ H R => ta σ H fun vs H1 => ∃ a xs, vs = [.ref a] /\ H1 a = some (.lst xs) /\ R (Ite a) H1
theorem pi_enum {elts : List Expr} {cx : _} {tp : Pos} {a : Expr} {ta : TA} {p pos : Pos} (hg : Gl X "enumerate") (hm : X.mg "enumerate" = none) (ha : PA X [a] ta) (hs : starEach [a] X.env = [(false, eval a X.env)] := by rfl) :
   PI X (.Tuple elts cx tp) (.Call (.Name "enumerate" p) [a] [] pos) (iEnum ta) := by
 intro pins s σ H R I h
 refine Call_ (yX I hg hm boot_enumerate (PyProof.Rows.callWith_type1 (thn (ha pos pins s σ H _ I h) fun us s1 ⟨vs, H1, I1, r1, q1⟩ => ?_) (by rw [hs]; rfl) (by rfl)))
 obtain ⟨l1, xs, e, h1, q⟩ := q1
 subst e
 cases r1 with
 | cons r rr =>
   cases rr
   cases r
   obtain ⟨its1, rv1, t1⟩ := DAts.lst_of I1.hok h1
   refine call_enumerate_list t1 fun h' gz g1 _ kk => ?_
   refine wpAny_pyIter_enum (s := { s1 with heap := h' }) gz ?_
   have fr : ∀ b, s1.heap.objs.size <= b -> jP X pins H1 b := fun b hb => I1.fpOk hb (I1.hok.fresh hb)
   refine ⟨_, [s1.heap.objs.size + 1, s1.heap.objs.size], _, _, H1, rfl, I1.kept (t' := s1.toks) kk, turn_enum _ _ l1 (Nat.succ_ne_self _), ⟨⟨_, gz⟩, g1⟩, fun b hb => ?_, q⟩
   simp only [List.mem_cons, List.not_mem_nil, or_false] at hb
   rcases hb with rfl | rfl <;> exact fr _ (by omega)
end
theorem lc_enum {a : Addr} {xs : List V} {ns : List Str} {js : List Nat} {g : TG} {te : TE} {σ : St} {H : Hp} {Q : VK} (Pv : Nat -> List V -> St -> Hp -> Prop) (h0 : Pv 0 [] (lcSt ns js σ) H) (hz : xs.length <= sizeLine) (hl : ∀ i ys σ H, Pv i ys σ H -> ys.length <= i)
   (hK : ∀ i ys σ H, Pv i ys σ H -> H a = some (.lst xs))
   (hs : ∀ (i : Nat) x ys σ H p (C : V -> St -> Hp -> Prop), xs[i]? = some x -> Pv i ys σ H -> H p = none -> (∀ y σ2 H3, Pv (i + 1) (ys ++ [y]) σ2 H3 -> C y σ2 H3) -> g (.ref p) σ (upd H p (.tup [.int i, x])) fun σ2 H2 => te σ2 H2 fun y H3 => C y σ2 H3)
   (hd : ∀ ys σ H, Pv xs.length ys σ H -> ∀ p, H p = none -> Q (.ref p) (upd H p (.lst ys))) :
   LcW (Ite a) ns js g none te σ H Q :=
 lc_by (n := xs.length) Pv h0 hz hl (fun i ys σ H hi w => ⟨xs, xs[i], hK i ys σ H w, List.getElem?_eq_getElem hi⟩) (fun ys σ H w => ⟨xs, hK _ ys σ H w, Nat.le_refl _⟩)
   (fun i ys σ H x H' C hi w ⟨p, y, e1, e2, e3, e4⟩ hC => by subst e1; subst e3; exact hs i y ys σ H p C (e4 xs (hK i ys σ H w)) w e2 hC) hd
section
variable {X : Cx} {tg : Expr}
end
theorem pg_tupK {X : Cx} {K : PySem.W.Frag} {es : List Expr} {k : Nat} {t : TGs} {n : Nat} {pos : Pos} (hc : X.calm = true) (h : PGs X es t) (hK : X.K = K := by rfl)
   (hn : (assignEach es X.env).length = n := by rfl) (hst : (assignEach es X.env).findIdx? (·.1) = none := by rfl) : PG X (.Tuple es k pos) (gTup K n t) := by
 subst hK
 exact pg_tup hc h hn hst
end L2
namespace L2
theorem odd_part : ∀ n : Nat, 0 < n -> ∃ t m, n = 2 ^ t * (2 * m + 1) := by
 intro n
 induction n using Nat.strongRecOn with
 | _ n ih =>
   intro h
   by_cases ho : n % 2 = 1
   · exact ⟨0, n / 2, by omega⟩
   · obtain ⟨t, m, e⟩ := ih (n / 2) (by omega) (by omega)
     refine ⟨t + 1, m, ?_⟩
     rw [Nat.pow_succ, Nat.mul_assoc, Nat.mul_left_comm, ← e]
     omega
theorem low_bits {n : Nat} (h : 0 < n) : ∃ t, n.testBit t = true /\ (∀ i, i < t -> n.testBit i = false) /\ n - (n &&& (n - 1)) = 2 ^ t /\ ∀ i, (n &&& (n - 1)).testBit i = (n.testBit i && decide (i ≠ t)) := by
 obtain ⟨t, m, e⟩ := odd_part n h
 have e1 : n = 2 ^ t * (2 * m + 1) + 0 := by omega
 have hp : 0 < 2 ^ t := Nat.two_pow_pos t
 have e2 : n - 1 = 2 ^ t * (2 * m) + (2 ^ t - 1) := by
   rw [e, Nat.mul_add, Nat.mul_one]
   omega
 have b1 : ∀ i, n.testBit i = if i < t then false else (2 * m + 1).testBit (i - t) := fun i => by
   rw [e, Nat.testBit_two_pow_mul]
   by_cases hi : i < t
   · rw [if_pos hi, decide_eq_false (by omega), Bool.false_and]
   · rw [if_neg hi, decide_eq_true (by omega), Bool.true_and]
 have b2 : ∀ i, (n - 1).testBit i = if i < t then true else (2 * m).testBit (i - t) := fun i => by
   rw [e2, Nat.testBit_two_pow_mul_add _ (by omega)]
   by_cases hi : i < t
   · rw [if_pos hi, if_pos hi, Nat.testBit_two_pow_sub_one, decide_eq_true hi]
   · rw [if_neg hi, if_neg hi]
 have ev : ∀ j, (2 * m).testBit j = ((2 * m + 1).testBit j && decide (j ≠ 0)) := fun j => by
   cases j with
   | zero => simp
   | succ j =>
     rw [Nat.testBit_succ, Nat.testBit_succ]
     have : (2 * m + 1) / 2 = 2 * m / 2 := by omega
     rw [this]
     simp
 have b3 : ∀ i, (n &&& (n - 1)).testBit i = (n.testBit i && decide (i ≠ t)) := fun i => by
   rw [Nat.testBit_and, b1, b2]
   by_cases hi : i < t
   · rw [if_pos hi, Bool.false_and, Bool.false_and]
   · rw [if_neg hi, if_neg hi, ev]
     have : decide (i - t ≠ 0) = decide (i ≠ t) := by
       rw [decide_eq_decide]
       omega
     rw [this]
     cases (2 * m + 1).testBit (i - t) <;> simp
 have e3 : n &&& (n - 1) = 2 ^ t * (2 * m) := by
   apply Nat.eq_of_testBit_eq
   intro i
   rw [b3, b1, Nat.testBit_two_pow_mul]
   by_cases hi : i < t
   · rw [if_pos hi, show decide (i ≥ t) = false from decide_eq_false (by omega), Bool.false_and, Bool.false_and]
   · rw [if_neg hi, show decide (i ≥ t) = true from decide_eq_true (by omega), Bool.true_and, ev]
     have : decide (i - t ≠ 0) = decide (i ≠ t) := by
       rw [decide_eq_decide]
       omega
     rw [this]
 refine ⟨t, ?_, fun i hi => ?_, ?_, b3⟩
 · rw [b1, if_neg (by omega), Nat.sub_self]
   simp
 · rw [b1, if_pos hi]
 · rw [e3, e, Nat.mul_add, Nat.mul_one]
   omega
def Bits (n : Nat) (xs : List Nat) : Prop := xs.Pairwise (· < ·) /\ ∀ i, n.testBit i = decide (i ∈ xs)
theorem Bits.zero : Bits 0 [] := ⟨List.Pairwise.nil, fun i => by simp⟩
theorem Bits.nil {n : Nat} (h : Bits n []) : n = 0 := Nat.eq_of_testBit_eq fun i => by rw [h.2]; simp
theorem Bits.cons {n x : Nat} {xs : List Nat} (h : Bits n (x :: xs)) : 0 < n /\ n - (n &&& (n - 1)) = 2 ^ x /\ Bits (n &&& (n - 1)) xs := by
 have hx : n.testBit x = true := by rw [h.2]; simp
 have hn : 0 < n := Nat.pos_of_ne_zero fun z => by rw [z] at hx; simp at hx
 obtain ⟨t, t1, t2, t3, t4⟩ := low_bits hn
 have hp := List.pairwise_cons.mp h.1
 have e : t = x := by
   rw [h.2, decide_eq_true_eq] at t1
   rcases List.mem_cons.mp t1 with e | e
   · exact e
   · have := hp.1 t e
     rw [t2 x this] at hx
     cases hx
 subst e
 refine ⟨hn, t3, hp.2, fun i => ?_⟩
 rw [t4, h.2]
 by_cases hi : i = t
 · subst hi
   have : i ∉ xs := fun z => Nat.lt_irrefl _ (hp.1 i z)
   simp [this]
 · simp [hi]
end L2
namespace L2
open PySem PySem.Spec PyProof.Rows PySem.SeqAt
section
variable {X : Cx}
end
end L2
namespace L2
open PySem PySem.Spec PyProof.Rows PySem.W
section
variable {prog : Program} {w : World} {A : Around} {E : Value -> Shared -> Prop} {s : Shared}
end
theorem vals_of : ∀ {ys : List V} {us : List Value}, ys.length = us.length -> (∀ (i : Nat) (y : V) (u : Value), ys[i]? = some y -> us[i]? = some u -> RelV y u) -> Vals ys us
 | [], [], _, _ => .nil
 | [], _ :: _, h, _ => by simp at h
 | _ :: _, [], h, _ => by simp at h
 | y :: ys, u :: us, h, hh => .cons (hh 0 y u rfl rfl) (vals_of (by simpa using h) fun i y' u' h1 h2 => hh (i + 1) y' u' (by simpa using h1) (by simpa using h2))
theorem KT.at {H : Hp} : ∀ {kvs : List (List Key × V)} {xs : List (List Key × Addr × Value)}, KT H kvs xs -> ∀ {i : Nat} {p : List Key × V} {q : List Key × Addr × Value}, kvs[i]? = some p -> xs[i]? = some q -> RelV p.2 q.2.2
 | _, _, .nil, i, p, q, h, _ => by simp at h
 | _, _, .cons hq t, 0, p, q, h1, h2 => by
   simp only [List.getElem?_cons_zero, Option.some.injEq] at h1 h2
   subst h1 h2
   exact hq.2.2
 | _, _, .cons hq t, i + 1, p, q, h1, h2 => KT.at t (by simpa using h1) (by simpa using h2)
section
variable {X : Cx}
end
end L2
namespace L2
open PySem PySem.Spec PyProof.Rows PySem.W
theorem rev_mro : mroOf (.type "reversed") = pure [.type "reversed", .type "object"] := by rw [mroOf_type]; kernel_rfl
theorem rev_lookup : typeLookup (.type "reversed") "__new__" = pure (some (.builtin "reversed.__new__")) := by rw [typeLookup_type, builtinLookup_eq_fast]; kernel_rfl
theorem rev_new : entryFor table "reversed.__new__" = some Builtin.«reversed.__new__» := entryFor_of_tree (by kernel_rfl)
theorem rev_plain : plainId "reversed.__new__" = true := by decide +kernel
theorem rev_check (a : Value) : checkBuiltinCall "reversed.__new__" ⟨[.type "reversed", a], []⟩ = pure () := by kernel_rfl
theorem rev_tcheck (a : Value) : checkTypeCall "reversed" ⟨[a], []⟩ = pure () := by kernel_rfl
theorem rev_made : Bind.madeBy (.type "reversed") = pure (some "reversed.__new__") := madeBy_type rev_mro rev_lookup (by decide +kernel)
theorem rev_sub : isSubtype (.type "reversed") (.type "reversed") = pure true := by rw [isSubtype_type]; kernel_rfl
theorem rev_nosub : isSubtype (.type "list_reverseiterator") (.type "reversed") = pure false := by rw [isSubtype_type]; kernel_rfl
theorem rev_can : ((Manifest.find? "reversed").bind (·.mro.findSome? fun t => (Manifest.find? t).bind fun b => if b.noNew then some true else if b.attrs.any (·.1 == "__new__") then some false else none)).getD false = false := by decide +kernel
theorem rev_not : (Value.type "reversed" == Value.type "type") = false := by decide +kernel
section
variable {prog : Program} {w : World} {A : Around} {E : Value -> Shared -> Prop} {s : Shared}
theorem jS {l : Addr} {items : Array Value} {n : Nat} {Q : Value -> Shared -> Prop} (hl : s.heap.get? l = some { cls := .type "list", dict := none, data := .seq items n, slots := #[] })
   (h : Q (.ref s.heap.objs.size) { s with heap := s.heap.push { cls := Value.type "list_reverseiterator", data := Data.fields #[Value.ref l, rawInt (((items.size : Nat) : Int) - 1)] } }) :
   codeAny (model prog w) A (.call (.builtin "reversed.__new__") ⟨[.type "reversed", .ref l], []⟩) (wants Q E) s := by
 refine codeAny_of_tree ?_
 show wpAny _ A.in1 (do checkBuiltinCall "reversed.__new__" ⟨[.type "reversed", .ref l], []⟩; again (.builtin "reversed.__new__" ⟨[.type "reversed", .ref l], []⟩)) _ _ s
 refine wpAny_bind (wpAny_of_eq (rev_check _) (wpAny_pure ⟨plainId_quiet rev_plain _, codeAny_builtin rev_new ?_⟩))
 rw [Around.under_plainId rev_plain _]
 have hT : s.TypeIs (.ref l) "list" := ⟨_, hl, rfl⟩
 have hs := rev_sub
 have hlk := PySem.F.slot_list_reversed.lookup
 have hb := PySem.F.slot_list_reversed.bind (.ref l)
 unfold Builtin.«reversed.__new__»
 unfold Builtin.SmallTypes.newClass
 repeat (any_goals (first | assumption | wp_step))
 refine codeAny_mono (codeAny_call_builtin PySem.F.slot_list_reversed.plain PySem.F.entry_list_reversed (PySem.F.slot_list_reversed.check _ _ _ _ _ _ _ _ hT (PySem.F.args_list_reversed_1 _) (PySem.AutoListH.list___reversed___list_0 l items n prog w A.in1 (wants (fun v s1 => v = .ref s.heap.objs.size /\ s1 = { s with heap := s.heap.push { cls := Value.type "list_reverseiterator", data := Data.fields #[Value.ref l, rawInt (((items.size : Nat) : Int) - 1)] } }) (fun _ _ => False)) s ⟨hl, rfl, rfl⟩))) fun r s1 hr => ?_
 cases r with
 | error e => exact hr.elim
 | ok fl =>
   cases fl with
   | ret obj =>
     obtain ⟨rfl, rfl⟩ := hr
     exact wpAny_pure h
   | _ => exact hr.elim
theorem jT {l : Addr} {items : Array Value} {n : Nat} {Q : Value -> Shared -> Prop} (hl : s.heap.get? l = some { cls := .type "list", dict := none, data := .seq items n, slots := #[] })
   (h : Q (.ref s.heap.objs.size) { s with heap := s.heap.push { cls := Value.type "list_reverseiterator", data := Data.fields #[Value.ref l, rawInt (((items.size : Nat) : Int) - 1)] } }) :
   wpAny (model prog w) A (call (.type "reversed") [.ref l]) Q E s := by
 have hmro := rev_mro
 have hmade := rev_made
 have hsub := rev_sub
 refine wpAny_call (codeAny_of_tree ?_)
 show wpAny _ _ (callAny (.type "reversed") _) _ _ _
 refine wpAny_pure ⟨Code.quiet_builtin _ (by decide +kernel), codeAny_builtin F.entry_type_call ?_⟩
 rw [Around.under_plain (weight_type_call_type "reversed" [.ref l] []) rfl]
 have h1 := rev_not
 have h2 := rev_can
 have h3 := rev_tcheck (.ref l)
 repeat (any_goals (first | assumption | wp_step))
 refine codeAny_mono (jS (E := E) (Q := fun v s1 => v = .ref s.heap.objs.size /\ s1 = { s with heap := s.heap.push { cls := Value.type "list_reverseiterator", data := Data.fields #[Value.ref l, rawInt (((items.size : Nat) : Int) - 1)] } }) hl ⟨rfl, rfl⟩) fun r s₁ hr => ?_
 cases r with
 | error e => exact hr
 | ok fl =>
   cases fl with
   | ret obj =>
     obtain ⟨rfl, rfl⟩ := hr
     have hT : Shared.TypeIs { s with heap := s.heap.push { cls := Value.type "list_reverseiterator", data := Data.fields #[Value.ref l, rawInt (((items.size : Nat) : Int) - 1)] } } (.ref s.heap.objs.size) "list_reverseiterator" := ⟨_, Heap.get?_push_size _ rfl, rfl⟩
     have hno := rev_nosub
     repeat (any_goals (first | assumption | wp_step))
   | _ => exact hr.elim
end
theorem ri_owner : Manifest.owners.lookup (String.ofList ['r', 'o', 't', 'a', 'r', 'e', 't', 'i', 'e', 's', 'r', 'e', 'v', 'e', 'r', '_', 't', 's', 'i', 'l'].reverse) = some Manifest.sig_list_reverseiterator := by kernel_rfl
theorem ri_next : Slot "list_reverseiterator" "__next__" "list_reverseiterator.__next__" := .of (owner := "list_reverseiterator") (n := "__next__") (by rw [typeLookup_type, builtinLookup_eq_fast]; kernel_rfl) (by decide +kernel) (by decide +kernel) (by decide +kernel) (by first | exact .inl (by decide +kernel) | exact .inr (by decide +kernel)) (by rw [isSubtype_type]; kernel_rfl)
theorem ri_iter : Slot "list_reverseiterator" "__iter__" "list_reverseiterator.__iter__" := .of (owner := "list_reverseiterator") (n := "__iter__") (by rw [typeLookup_type, builtinLookup_eq_fast]; kernel_rfl) (by decide +kernel) (by decide +kernel) (by decide +kernel) (by first | exact .inl (by decide +kernel) | exact .inr (by decide +kernel)) (by rw [isSubtype_type]; kernel_rfl)
theorem ri_enext : entryFor table "list_reverseiterator.__next__" = some Builtin.«list_reverseiterator.__next__» := entryFor_of_tree (by kernel_rfl)
theorem ri_eiter : entryFor table "list_reverseiterator.__iter__" = some Builtin.«dict_keyiterator.__iter__» := entryFor_alias (id' := "dict_keyiterator.__iter__") (by kernel_rfl) rfl (by decide +kernel) (by kernel_rfl)
theorem ri_anext (a : Value) : argsOk "list_reverseiterator.__next__" ⟨[a], []⟩ := by unfold argsOk; rw [signature?_of (id := "list_reverseiterator.__next__") (n := ['_', '_', 't', 'x', 'e', 'n', '_', '_']) (o := ['r', 'o', 't', 'a', 'r', 'e', 't', 'i', 'e', 's', 'r', 'e', 'v', 'e', 'r', '_', 't', 's', 'i', 'l']) (by kernel_rfl) ri_owner]; kernel_rfl
theorem ri_aiter (a : Value) : argsOk "list_reverseiterator.__iter__" ⟨[a], []⟩ := by unfold argsOk; rw [signature?_of (id := "list_reverseiterator.__iter__") (n := ['_', '_', 'r', 'e', 't', 'i', '_', '_']) (o := ['r', 'o', 't', 'a', 'r', 'e', 't', 'i', 'e', 's', 'r', 'e', 'v', 'e', 'r', '_', 't', 's', 'i', 'l']) (by kernel_rfl) ri_owner]; kernel_rfl
theorem ri_nolen : typeLookup (.type "list_reverseiterator") "__len__" = pure none := by rw [typeLookup_type, builtinLookup_eq_fast]; kernel_rfl
theorem ri_hint : typeLookup (.type "list_reverseiterator") "__length_hint__" = pure (some (.builtin "list_reverseiterator.__length_hint__")) := by rw [typeLookup_type, builtinLookup_eq_fast]; kernel_rfl
def IsRev (h : Heap) (it l : Addr) (k n : Nat) : Prop := ∃ o, h.get? it = some o /\ o.cls = .type "list_reverseiterator" /\ o.data = .fields #[.ref l, rawInt ((n : Int) - 1 - k)]
section
variable {prog : Program} {w : World} {A : Around} {E : Value -> Shared -> Prop} {s : Shared}
theorem IsRev.typeIs {it l : Addr} {k n : Nat} (x : IsRev s.heap it l k n) : s.TypeIs (.ref it) "list_reverseiterator" := let ⟨o, ho, hc, _⟩ := x; ⟨o, ho, hc⟩
theorem rev_item {it l : Addr} {k : Nat} {items : Array Value} {x : Value} {Q : Option Value -> Shared -> Prop} (hit : IsRev s.heap it l k items.size) (hl : s.heap.IsList l items) (hk : k < items.size) (hx : items[items.size - 1 - k]? = some x)
   (hQ : ∀ h', IsRev h' it l (k + 1) items.size -> Heap.SameBut it s.heap h' -> Q (some x) { s with heap := h' }) : wpAny (model prog w) A (pyNext (.ref it)) Q E s := by
 obtain ⟨o, a1, a2, a3⟩ := id hit; obtain ⟨ol, b1, _, nl, b3⟩ := hl
 unfold pyNext
 refine wpAny_bind (wpAny_attempt (wpAny_callSpecial?_slot (name := Str.ofString "__next__") hit.typeIs ri_next (wpAny_call_entry ri_next hit.typeIs ri_enext ?_ (ri_anext _))))
 show wpAny _ _ (field (.ref it) 1 >>= _) _ _ s
 refine wpAny_bind (wpAny_field a1 a3 (x := rawInt ((items.size : Int) - 1 - k)) rfl ?_)
 show wpAny _ _ (if ((items.size : Int) - 1 - k) < 0 then _ else _) _ _ s
 rw [if_neg (by omega)]; show wpAny _ _ (field (.ref it) 0 >>= _) _ _ s
 refine wpAny_bind (wpAny_field a1 a3 (x := .ref l) rfl ?_); refine wpAny_bind (wpAny_seqItems b1 b3 ?_)
 have e : ((items.size : Int) - 1 - k).toNat = items.size - 1 - k := by omega
 simp only [e, hx]
 refine wpAny_bind (wpAny_setField a1 a3 (by simp) (wpAny_pure ⟨x, rfl, wpAny_pure (hQ _ ?_ (Heap.SameBut.update ..))⟩))
 refine ⟨_, Heap.get?_update_self _ a1 (Obj.isFreed_of_fields (Obj.data_mapFields a3 _)), (Obj.cls_mapFields ..).trans a2, ?_⟩
 rw [Obj.data_mapFields a3, show (items.size : Int) - 1 - ((k + 1 : Nat) : Int) = (items.size : Int) - 1 - k - 1 by omega]
 simp [rawInt]
theorem rev_end {it l : Addr} {n : Nat} {Q : Option Value -> Shared -> Prop} (hh : A.handled = none) (hit : IsRev s.heap it l n n)
   (hQ : ∀ h', Heap.ExtBut it s.heap h' -> Q none { s with heap := h' }) : wpAny (model prog w) A (pyNext (.ref it)) Q E s := by
 obtain ⟨o, a1, a2, a3⟩ := id hit
 unfold pyNext
 refine wpAny_bind (wpAny_attempt (wpAny_callSpecial?_slot (name := Str.ofString "__next__") hit.typeIs ri_next (wpAny_call_entry ri_next hit.typeIs ri_enext ?_ (ri_anext _))))
 show wpAny _ _ (field (.ref it) 1 >>= _) _ _ s
 refine wpAny_bind (wpAny_field a1 a3 (x := rawInt ((n : Int) - 1 - n)) rfl ?_)
 show wpAny _ _ (if ((n : Int) - 1 - n) < 0 then _ else _) _ _ s
 rw [if_pos (by omega)]; refine wpAny_bind (wpAny_rule ?_); refine wpAny_bind ?_
 show wpAny _ _ (newExc (.type "StopIteration") [] >>= _) _ _ _; refine wpAny_bind ?_
 simp only [newExc, newTuple]; refine wpAny_bind (wpAny_newObj_type ?_ (by size_fits))
 refine wpAny_bind (m := firstArgMember _ _) (wpAny_of_eq (a := Value.none) (by first | rfl | (simp only [firstArgMember]; rfl)) ?_); refine wpAny_newObj_type ?_ (by size_fits)
 simp only [raiseNew]; refine wpAny_bind (wpAny_handled ?_); rw [show A.in1.handled = none from hh]
 refine wpAny_bind (wpAny_pure (wpAny_throw ?_)); refine wpAny_bind (wpAny_isInstance (T := "StopIteration") (b := true) ⟨_, Heap.get?_push_size _ rfl, rfl⟩ isSubtype_stop ?_)
 exact wpAny_pure (hQ _ (((Heap.SameBut.refl it s.heap).extBut.push _).push _))
theorem rev_self {it l : Addr} {k n : Nat} {Q : Value -> Shared -> Prop} (hit : IsRev s.heap it l k n) (h : Q (.ref it) s) : wpAny (model prog w) A (pyIter (.ref it)) Q E s := by
 refine wpAny_pyIter_slot hit.typeIs ri_iter (wpAny_call_entry ri_iter hit.typeIs ri_eiter ?_ (ri_aiter _))
 show wpAny _ _ (ret (.ref it)) _ _ s; exact wpAny_pure ⟨_, rfl, "list_reverseiterator", _, hit.typeIs, ri_next.lookup, h⟩
theorem rev_walks (hh : A.handled = none) (I l : Addr) (hne : l ≠ I) (items : Array Value) : Walks prog w A I [I, l] [I] items.size (fun i v => items[items.size - 1 - i]? = some v) (fun i h => IsRev h I l i items.size /\ h.IsList l items) where
 sub := fun b hb => by simp at hb; simp [hb]
 frame := fun _ _ _ st hk => ⟨let ⟨o, ho, r⟩ := st.1; ⟨o, hk I (by simp) o ho, r⟩, let ⟨o, ho, r⟩ := st.2; ⟨o, hk l (by simp) o ho, r⟩⟩
 item := fun i s Q E hi st hQ => by
   have hx : items[items.size - 1 - i]? = some items[items.size - 1 - i] := Array.getElem?_eq_getElem (by omega)
   refine rev_item st.1 st.2 hi hx fun h' it' hs' => ?_
   exact hQ _ h' s.toks hx ⟨it', let ⟨o, ho, r⟩ := st.2; ⟨o, hs'.extBut l o hne ho, r⟩⟩ fun b o hb e => hs'.extBut b o (fun h => hb (by simp [h])) e
 done := fun s Q E st hQ => rev_end hh st.1 fun h' he' => hQ h' s.toks fun b o hb e => he' b o (fun h => hb (by simp [h])) e
 self := fun _ _ _ _ st hQ => rev_self st.1 hQ
theorem rev_hint {r l : Addr} {k n : Nat} {Q : Bool -> Shared -> Prop} (hT : IsRev s.heap r l k n) (h : Q false s) : wpAny (model prog w) A (Builtin.List.listLengthHint (.ref r)) Q E s := by
 unfold Builtin.List.listLengthHint
 refine wpAny_bind (wpAny_specialOf hT.typeIs ri_nolen ?_)
 refine wpAny_ite_split (fun hab => absurd hab (by decide +kernel)) (fun _ => ?_)
 refine wpAny_ite_split (fun hab => absurd hab (by decide +kernel)) (fun _ => ?_)
 refine wpAny_bind (wpAny_specialOf hT.typeIs ri_hint ?_)
 generalize hid : ("list_reverseiterator.__length_hint__" : String) = id0
 wp_delta
 rw [show splitId id0 = some ("list_reverseiterator", "__length_hint__") from by subst hid; decide +kernel]
 subst hid
 refine wpAny_bind (wpAny_isInstance (T := "list_reverseiterator") (b := true) hT.typeIs (by rw [isSubtype_type]; kernel_rfl) ?_)
 refine wpAny_ite_split (fun hab => absurd hab (by decide)) (fun _ => ?_)
 refine wpAny_ite_split (fun _ => ?_) (fun hab => absurd (by decide +kernel) hab)
 refine wpAny_ite_split (fun hab => absurd hab (by decide +kernel)) (fun _ => ?_)
 exact wpAny_pure h
end
section
variable {prog : Program} {w : World} {A : Around} {E : Value -> Shared -> Prop} {s : Shared} {T : String} {J : Addr} {fp wr : List Addr} {n : Nat} {P : Nat -> Value -> Prop} {St : Nat -> Heap -> Prop}
structure ItSrc (prog : Program) (w : World) (T : String) (J : Addr) (fp wr : List Addr) (n : Nat) (P : Nat -> Value -> Prop) (St : Nat -> Heap -> Prop) : Prop where
 walks : ∀ A : Around, A.handled = none -> Walks prog w A J fp wr n P St
 type : ∀ s : Shared, St 0 s.heap -> s.TypeIs (.ref J) T
 nl : (Value.type T == Value.type "list") = false
 nt : (Value.type T == Value.type "tuple") = false
 hint : ∀ (A : Around) (E : Value -> Shared -> Prop) (s : Shared) (Q : Bool -> Shared -> Prop), St 0 s.heap -> Q false s -> wpAny (model prog w) A (Builtin.List.listLengthHint (.ref J)) Q E s
 mem : J ∈ fp
 sub : wr ⊆ fp
theorem it_extend {R : Result -> Shared -> Prop} (K : ItSrc prog w T J fp wr n P St) (hh : A.handled = none) (st : St 0 s.heap) (S : Addr) (hSf : S ∉ fp) (res : Value) (c₀ : Nat) (hS : s.heap.get? S = some { cls := .type "list", data := .seq #[] c₀ })
   (hR : ∀ h' tk acc' c', (∀ b o, b ≠ S -> b ∉ wr -> s.heap.get? b = some o -> h'.get? b = some o) -> h'.get? S = some { cls := .type "list", dict := none, data := .seq acc' c', slots := #[] } -> ItemsOf P acc' n -> R (.ok (.ret res)) { s with heap := h', toks := tk }) (hn : n <= sizeLine) :
   wpAny (model prog w) A.in1 (Builtin.List.listExtendWith (.ref S) (.ref J) res) (fun fin s' => match fin with | .done f => R (.ok f) s' | .again c' => c'.quiet = true /\ codeAny (model prog w) A c' R s') (fun e s' => R (.error e) s') s := by
 have hSJ : S ≠ J := fun e => hSf (e ▸ K.mem)
 have W := K.walks A.in1 hh
 have key : ∀ (h : Heap) (c₁ tk : Nat), St 0 h -> (∀ b o, b ≠ S -> s.heap.get? b = some o -> h.get? b = some o) -> h.get? S = some { cls := .type "list", data := .seq #[] c₁ } -> codeAny (model prog w) A (.builtin "list.extend.loop" ⟨[.ref S, .ref J, res], []⟩) R { s with heap := h, toks := tk } := by
   intro h c₁ tk hst hk hS₁
   refine codeAny_extend_loopS W.toS hn S hSf res n 0 _ #[] c₁ rfl (Nat.zero_le _) hst hS₁ (ItemsOf.nil _) fun s' acc' c' hm hS' hacc => ?_
   rw [Moved.eq_with hm]; refine hR s'.heap s'.toks acc' c' (fun b o hb hw e => hm.heap b o (fun hmem => ?_) (hk b o hb e)) hS' hacc
   rcases List.mem_cons.mp hmem with e' | hmem'
   · exact hb e'
   · exact hw hmem'
 unfold Builtin.List.listExtendWith; refine wpAny_bind (wpAny_typeOf (T := T) (K.type s st) ?_)
 have h1 : Builtin.List.listSameRef (.ref S) (.ref J) = false := by simp [Builtin.List.listSameRef, hSJ]
 simp only [h1, K.nl, K.nt, Bool.or_false, Bool.false_eq_true, if_false]; refine wpAny_bind (W.self 0 _ _ _ st ?_)
 refine wpAny_bind (wpAny_holding (K.hint _ _ _ _ st ?_))
 refine wpAny_ite_split (fun _ => ?_) (fun _ => wpAny_pure ⟨plainId_quiet PySem.F.plain_extend_loop _, key _ c₀ _ st (fun b o _ e => e) hS⟩)
 refine wpAny_bind (wpAny_rule ?_); refine wpAny_bind ?_
 show wpAny _ _ (updateSeq S (·.push .none) >>= fun _ => updateSeq S (·.pop)) _ _ _; refine wpAny_bind (wpAny_updateSeq hS rfl ?_)
 have hS₂ := Heap.get?_update_self (Obj.mapSeq (·.push Value.none)) hS rfl
 refine wpAny_updateSeq (hz := by seq_fits) hS₂ rfl ?_; have hS₃ := Heap.get?_update_self (Obj.mapSeq (·.pop)) hS₂ rfl
 have oth : ∀ b o, b ≠ S -> s.heap.get? b = some o -> ((s.heap.update S (Obj.mapSeq (·.push Value.none))).update S (Obj.mapSeq (·.pop))).get? b = some o := fun b o hb e => (Heap.get?_update_other _ _ (Ne.symm hb)).trans ((Heap.get?_update_other _ _ (Ne.symm hb)).trans e)
 exact wpAny_pure ⟨plainId_quiet PySem.F.plain_extend_loop _, key _ _ _ (W.frame 0 _ _ st fun b hb o e => oth b o (fun h => hSf (h ▸ hb)) e) oth hS₃⟩
theorem rev_src {r l : Addr} {items : Array Value} (hne : l ≠ r) : ItSrc prog w "list_reverseiterator" r [r, l] [r] items.size (fun i v => items[items.size - 1 - i]? = some v) (fun i h => IsRev h r l i items.size /\ h.IsList l items) :=
 ⟨fun A hh => rev_walks hh r l hne items, fun _ st => st.1.typeIs, by decide, by decide, fun _ _ _ _ st hq => rev_hint st.1 hq, by simp, by simp⟩
end
theorem bt_reversed : bootBuiltins "reversed" = some (.type "reversed") := by decide +kernel
theorem bt_min : bootBuiltins "min" = some (.builtin "min") := by decide +kernel
section
variable {X : Cx}
end
section
variable {prog : Program} {w : World} {Kt : Type} [DecidableEq Kt] {knd : HeapKind prog w Kt} {A : Around} {E : Value -> Shared -> Prop} {s : Shared}
def DictB (knd : HeapKind prog w Kt) (h : Heap) (d : Addr) (xs : List (Kt × Addr × Value)) : Prop :=
 ∃ o es ep, h.get? d = some o /\ o.ExactDict /\ o.data = .dict es ep /\ es.toList = xs.map (entryOfKey knd) /\ (xs.map (·.1)).Nodup
theorem DictB.full {h : Heap} {d : Addr} {xs : List (Kt × Addr × Value)} (x : DictB knd h d xs) (hk : ∀ y ∈ xs, knd.is h y.1 y.2.1) : h.DictOfH knd d xs := by
 obtain ⟨o, es, ep, h1, h2, h3, h4, h5⟩ := x
 exact ⟨o, es, ep, h1, h2, h3, h4, hk, h5⟩
theorem DictB.of {h : Heap} {d : Addr} {xs : List (Kt × Addr × Value)} (x : h.DictOfH knd d xs) : DictB knd h d xs := by
 obtain ⟨o, es, ep, h1, h2, h3, h4, _, h5⟩ := x
 exact ⟨o, es, ep, h1, h2, h3, h4, h5⟩
theorem DictB.at {h h' : Heap} {d : Addr} {xs : List (Kt × Addr × Value)} (x : DictB knd h d xs) (e : ∀ u, h.get? d = some u -> h'.get? d = some u) : DictB knd h' d xs := by
 obtain ⟨o, es, ep, h1, r⟩ := x
 exact ⟨o, es, ep, e _ h1, r⟩
theorem qM {xs : List (Kt × Addr × Value)} (hn : (xs.map (·.1)).Nodup) {i : Nat} {k : Kt} {a : Addr} {v : Value} (h : xs[i]? = some (k, a, v)) : storedH (xs.take i) k a v = xs.take (i + 1) := by
 obtain ⟨il, ie⟩ := List.getElem?_eq_some_iff.mp h
 have hno : atKey (xs.take i) k = none := by
   unfold atKey
   rw [Option.map_eq_none_iff, List.find?_eq_none]
   intro x hx
   obtain ⟨j, hj, e⟩ := List.getElem_of_mem hx
   rw [List.length_take] at hj
   rw [List.getElem_take] at e
   intro hk
   have hk : x.1 = k := by simpa using hk
   exact List.pairwise_iff_getElem.mp hn j i (by rw [List.length_map]; omega) (by rw [List.length_map]; omega) (by omega) (by simp [e, ie, hk])
 rw [storedH_new hno, List.take_succ_eq_append_getElem il, ie]
theorem pairs_loopH {R : Result -> Shared -> Prop} {d it l : Addr} {its : Array Value} {xs : List (Kt × Addr × Value)} {h0 : Heap} (hu : knd.room A.in1) (hA : A.handled = none) (hdi : d ≠ it) (hl : h0.IsList l its) (hd0 : ∀ u, h0.get? d ≠ some u) (hi0 : ∀ u, h0.get? it ≠ some u)
   (mono : ∀ {h h' : Heap} {k : Kt} {a : Addr}, (∀ b u, h.get? b = some u -> h'.get? b = some u) -> knd.is h k a -> knd.is h' k a)
   (hn : (xs.map (·.1)).Nodup) (hsz : xs.length <= sizeLine) (hlen : its.size = xs.length) (hp : ∀ (i : Nat) (k : Kt) (b : Addr) (v : Value), xs[i]? = some (k, b, v) -> ∃ a : Addr, its[i]? = some (Value.ref a) /\ IsTup h0 a #[.ref b, v] /\ knd.is h0 k b) :
   ∀ (m i : Nat) (t : Tok) (s : Shared), xs.length - i = m -> i <= xs.length -> s.heap.IsListIter it l i -> DictB knd s.heap d (xs.take i) -> (∀ b u, h0.get? b = some u -> s.heap.get? b = some u) ->
   (∀ h' t', (∀ b u, h0.get? b = some u -> h'.get? b = some u) -> DictB knd h' d xs -> R (.ok (.ret .none)) { s with heap := h', toks := t' }) ->
   codeAny (model prog w) A (.builtin "dict.update.loop" ⟨[.ref d, .ref it, .int i t, .none], []⟩) R s := by
 have hall : ∀ x ∈ xs, knd.is h0 x.1 x.2.1 := fun x hx => by
   obtain ⟨i, hi⟩ := List.getElem?_of_mem hx
   obtain ⟨a, _, _, h⟩ := hp i x.1 x.2.1 x.2.2 hi
   exact h
 intro m
 induction m with
 | zero =>
   intro i t s hm hi hit hd hk hR
   have hin : i = xs.length := by omega
   subst hin
   have hl' : s.heap.IsList l its := by obtain ⟨o, ho, r⟩ := hl; exact ⟨o, hk _ _ ho, r⟩
   refine codeAny_builtin F.entry_dul ?_
   rw [Around.under_plainId F.plain_dul _]
   show wpAny _ A.in1 (pyNext (.ref it) >>= _) _ _ s
   refine wpAny_bind (wpAny_pyNext_list_end (A := A.in1) hA hit hl' (by rw [Array.getElem?_eq_none_iff]; omega) fun h' he => ?_)
   rw [List.take_of_length_le (Nat.le_refl _)] at hd
   show wpAny _ A.in1 (Builtin.Dict.addKeywords d [] >>= _) _ _ _
   refine wpAny_bind (wpAny_pure (wpAny_pure (hR h' s.toks (fun b u hb => he b u (fun z => hi0 u (by rw [← z]; exact hb)) (hk b u hb)) (hd.at fun u h => he _ u hdi h))))
 | succ m ih =>
   intro i t s hm hi hit hd hk hR
   have hlt : i < xs.length := by omega
   have hl' : s.heap.IsList l its := by obtain ⟨o, ho, r⟩ := hl; exact ⟨o, hk _ _ ho, r⟩
   obtain ⟨a, ha, ht, hkey⟩ := hp i xs[i].1 xs[i].2.1 xs[i].2.2 (List.getElem?_eq_getElem hlt)
   refine codeAny_builtin F.entry_dul ?_
   rw [Around.under_plainId F.plain_dul _]
   show wpAny _ A.in1 (pyNext (.ref it) >>= _) _ _ s
   refine wpAny_bind (wpAny_pyNext_list_item (A := A.in1) hit hl' ha fun h1 hit1 hs1 => ?_)
   have hk1 : ∀ b u, h0.get? b = some u -> h1.get? b = some u := fun b u hb => (hs1.2 b (fun z => hi0 u (by rw [← z]; exact hb))).trans (hk b u hb)
   have hd1 : DictB knd h1 d (xs.take i) := hd.at fun u h => (hs1.2 d hdi).trans h
   obtain ⟨ot, hot, hct, nt, hdt⟩ := ht
   have hot1 := hk1 _ _ hot
   have hT : ({ s with heap := h1 } : Shared).TypeIs (.ref a) "tuple" := ⟨_, hot1, hct⟩
   refine wpAny_bind (wpAny_holding (wpAny_bind ?_))
   refine wpAny_tryCatch ?_
   unfold Builtin.Dict.pairItems
   refine wpAny_bind (wpAny_typeOf hT ?_)
   rw [if_pos (by decide)]
   refine wpAny_bind (wpAny_seqItems hot1 hdt (wpAny_pure ?_))
   refine wpAny_holding (wpAny_dictSet_heap (xs := xs.take i) hu (mono hk1 hkey) (hd1.full fun y hy => mono hk1 (hall y (List.mem_of_mem_take hy))) (fun h2 hd2 hs2 => ?_) (by rw [List.length_take]; omega))
   rw [qM hn (show xs[i]? = some (xs[i].1, xs[i].2.1, xs[i].2.2) from List.getElem?_eq_getElem hlt)] at hd2
   refine wpAny_pure ⟨plainId_quiet F.plain_dul _, ?_⟩
   have hk2 : ∀ b u, h0.get? b = some u -> h2.get? b = some u := fun b u hb => (hs2.2 b (fun z => hd0 u (by rw [← z]; exact hb))).trans (hk1 b u hb)
   have hit2 : h2.IsListIter it l (i + 1) := by obtain ⟨o, ho, r⟩ := hit1; exact ⟨o, (hs2.2 _ (Ne.symm hdi)).trans ho, r⟩
   exact ih (i + 1) _ { s with heap := h2, toks := s.toks + knd.draws xs[i].1 } (by omega) hlt hit2 (.of hd2) hk2 hR
theorem xR {l : Addr} {its : Array Value} {xs : List (Kt × Addr × Value)} {Q : Value -> Shared -> Prop} (hu : knd.room A.in1.in1) (hA : A.handled = none) (hl : PlainL s.heap l its) (mono : ∀ {h h' : Heap} {k : Kt} {a : Addr}, (∀ b u, h.get? b = some u -> h'.get? b = some u) -> knd.is h k a -> knd.is h' k a)
   (hn : (xs.map (·.1)).Nodup) (hsz : xs.length <= sizeLine) (hlen : its.size = xs.length) (hp : ∀ (i : Nat) (k : Kt) (b : Addr) (v : Value), xs[i]? = some (k, b, v) -> ∃ a : Addr, its[i]? = some (Value.ref a) /\ IsTup s.heap a #[.ref b, v] /\ knd.is s.heap k b)
   (h : ∀ h' t', (∀ b u, s.heap.get? b = some u -> h'.get? b = some u) -> DictB knd h' s.heap.objs.size xs -> Q (.ref s.heap.objs.size) { s with heap := h', toks := t' }) :
   wpAny (model prog w) A (call (.type "dict") [.ref l]) Q E s := by
 refine callType_codes (Q₁ := fun obj s₁ => obj = .ref s.heap.objs.size /\ s₁ = { s with heap := s.heap.push { cls := .type "dict", data := .dict #[] } }) PySem.F.kt_called_dict (PySem.F.kt_typeCall_dict_1 _) PySem.F.entry_dict_init (kt_code_dict_new _ ⟨rfl, rfl⟩) ?_
 rintro obj s₁ ⟨rfl, rfl⟩
 have hnew : (s.heap.push { cls := .type "dict", data := .dict #[] }).DictOfH knd s.heap.objs.size [] := Heap.DictOfH.new s.heap
 refine ⟨hnew.typeIs, PySem.F.args_dict_init_2 _ _, ?_⟩
 obtain ⟨ol, nl, hol, hlc, hld, hls⟩ := hl
 have hol1 : (s.heap.push { cls := .type "dict", data := .dict #[] }).get? l = some ol := Heap.get?_push_of_some _ hol
 have hT : ({ s with heap := s.heap.push { cls := .type "dict", data := .dict #[] } } : Shared).TypeIs (.ref l) "list" := ⟨_, hol1, hlc⟩
 unfold Builtin.«dict.__init__»
 refine wpAny_bind ?_
 unfold Builtin.Dict.selfAndRest
 refine wpAny_bind (wpAny_notOrdered_dict hnew.typeIs ?_)
 show wpAny _ _ (pure (s.heap.objs.size, [Value.ref l])) _ _ _
 refine wpAny_pure ?_
 show wpAny _ _ (Builtin.Dict.updateFrom "dict.__init__" s.heap.objs.size (.ref l) [] .none) _ _ _
 unfold Builtin.Dict.updateFrom
 refine wpAny_bind (wpAny_typeOf hT ?_)
 rw [if_pos (by decide)]
 have hkd : ∀ b u, s.heap.get? b = some u -> (s.heap.push { cls := .type "dict", data := .dict #[] }).get? b = some u := fun b u e => Heap.get?_push_of_some _ e
 have hd0 : ∀ u, s.heap.get? s.heap.objs.size ≠ some u := fun u z => Nat.lt_irrefl _ (Heap.lt_size z)
 obtain ⟨hp0, g, d, t, os⟩ := s
 dsimp only at *
 generalize hp0.push { cls := .type "dict", data := .dict #[] } = h1 at hnew hol1 hT hkd ⊢
 generalize hp0.objs.size = D at hnew hd0 h ⊢
 obtain ⟨c1, c2, c3, c4⟩ := ol
 dsimp only at hlc hld hls
 subst hlc hld hls
 refine wpAny_bind (nokeys (A := A.in1.in1) hA hol1 fun h2 t2 hk2 => ?_)
 rw [if_pos (by rfl)]
 refine wpAny_bind (wpAny_rule ?_)
 have hl2 : h2.IsList l its := ⟨_, hk2 _ _ hol1, rfl, _, rfl⟩
 refine wpAny_bind (wpAny_pyIter_list hl2 ?_)
 refine wpAny_pure ⟨plainId_quiet F.plain_dul _, ?_⟩
 have hd2 := (DictB.of hnew).at fun u h => hk2 _ u h
 have hit0 : ∀ u, hp0.get? h2.objs.size ≠ some u := fun u z => Nat.lt_irrefl _ (Heap.lt_size (hk2 _ _ (hkd _ _ z)))
 have hDi : D ≠ h2.objs.size := fun z => by
   obtain ⟨o, _, _, ho, _⟩ := hd2
   exact Nat.lt_irrefl _ (by have := Heap.lt_size ho; rw [z] at this; exact this)
 refine pairs_loopH (h0 := hp0) (xs := xs) (A := A.in1) hu hA hDi ⟨_, hol, rfl, _, rfl⟩ hd0 hit0 mono hn hsz hlen hp xs.length 0 _ _ (by omega) (Nat.zero_le _) ⟨_, Heap.get?_push_size _ rfl, rfl, rfl⟩ (hd2.at fun u h => Heap.get?_push_of_some _ h) (fun b u hb => Heap.get?_push_of_some _ (hk2 _ _ (hkd _ _ hb))) fun h' t' hk' hd' => ?_
 exact ⟨rfl, h h' t' hk' hd'⟩
end
theorem tk_mono {P : Program} {w : World} {h h' : Heap} {k : List Key} {a : Addr} (e : ∀ b u, h.get? b = some u -> h'.get? b = some u) (x : (tupleKind (zQ P w)).is h k a) : (tupleKind (zQ P w)).is h' k a := by
 obtain ⟨o, its, n, h1, r⟩ := x
 exact ⟨o, its, n, e _ _ h1, r⟩
theorem qA {H : Hp} {h : Heap} : ∀ (kvs : List (List Key × V)) (as : List Addr), (∀ (i : Nat) (k : List Key) (v : V), kvs[i]? = some (k, v) -> ∃ (a b : Addr) (its : List Value), as[i]? = some a /\ Vals [.ref b, v] its /\ IsTup h a its.toArray /\ H b = some (.tup (k.map kV))) ->
   ∃ xs, KT H kvs xs /\ ∀ (i : Nat) (k : List Key) (b : Addr) (v : Value), xs[i]? = some (k, b, v) -> ∃ a, as[i]? = some a /\ IsTup h a #[.ref b, v] /\ H b = some (.tup (k.map kV))
 | [], as, hk => ⟨[], .nil, fun i k b v e => by simp at e⟩
 | (k, v) :: kvs, as, hk => by
   obtain ⟨a0, b0, its, h1, h2, h3, h4⟩ := hk 0 k v rfl
   cases as with
   | nil => cases h1
   | cons a as =>
   cases h1
   obtain ⟨xs, g1, g2⟩ := qA kvs as fun i k v e => hk (i + 1) k v e
   obtain ⟨u1, u2, rfl, r1, r2⟩ := vals2 h2
   cases r1
   refine ⟨(k, b0, u2) :: xs, .cons ⟨rfl, h4, r2⟩ g1, fun i k' b' v' e => ?_⟩
   cases i with
   | zero => cases e; exact ⟨a0, rfl, h3, h4⟩
   | succ i => exact g2 i k' b' v' e
section
variable {X : Cx}
theorem call_dictPT (hu : X.A.units + 2 < cLine) : xN X (.type "dict") (fun xs H Q => X.calm = true /\ ∃ (p : Addr) (as : List Addr) (kvs : List (List Key × V)), xs = [.ref p] /\ SqL X.K H p (as.map V.ref) /\ as.length = kvs.length /\ (kvs.map (·.1)).Nodup /\
   (∀ (i : Nat) (k : List Key) (v : V), kvs[i]? = some (k, v) -> ∃ a b, as[i]? = some a /\ SqT X.K H a [.ref b, v] /\ H b = some (.tup (k.map kV))) /\ ∀ l, H l = none -> Q (.ref l) (upd H l (.dT kvs))) := by
 intro pins s σ H xs us Q I r h
 obtain ⟨hc, p, as, kvs, rfl, hp, hlen, hn, hk, q⟩ := h
 obtain ⟨u, rfl, ru⟩ := jC r
 cases ru
 obtain ⟨its, rv, hl, hz⟩ := I.list hp
 have hil := rv.length
 rw [List.length_map] at hil hz
 obtain ⟨vs, g1, g2⟩ := qA (H := H) (h := s.heap) kvs as fun i k v e => by
   obtain ⟨a, b, e1, e2, e3⟩ := hk i k v e
   obtain ⟨its, r2, t2, _⟩ := I.tuple e2
   exact ⟨a, b, its, e1, r2, t2, e3⟩
 have hvl : kvs.length = vs.length := Paired.length g1
 have hks : vs.map (·.1) = kvs.map (·.1) := by
   clear hn g2 hvl hk hlen q
   induction g1 with
   | nil => rfl
   | cons h _ ih => rw [List.map_cons, List.map_cons, ih, h.1]
 refine xR (knd := tupleKind (zQ X.prog X.w)) (xs := vs) (show X.A.in1.in1.units < cLine from ?_) (I.ok.hd hc) hl tk_mono (by rw [hks]; exact hn) (by omega) (by rw [List.size_toArray]; omega) (fun i k b v e => ?_) fun h' t' hk' hd' => ?_
 · exact hu
 · obtain ⟨a, e1, e2, e3⟩ := g2 i k b v e
   obtain ⟨u, h1, h2⟩ := rv.get (i := i) (x := V.ref a) (by rw [List.getElem?_map, e1]; rfl)
   cases h2
   exact ⟨a, by simpa using h1, e2, key_of I.hok e3⟩
 · obtain ⟨o, es, ep, d1, d2, d3, d4, d5⟩ := hd'
   have hfr := I.hok.fresh (Nat.le_refl s.heap.objs.size)
   refine ⟨.ref s.heap.objs.size, _, I.laid (a := s.heap.objs.size) (o := .dT kvs) (t' := t') hk' (Nat.le_refl _) ⟨by omega, beq_eq_false_iff_ne.mpr (Ne.symm (Nat.ne_of_lt I.big)), vs, ?_, o, es, ep, d1, d2, d3, d4, d5⟩, rfl, q _ hfr⟩
   exact KT.keeps g1 fun b ys e => by rw [zH (fun z => by rw [z, hfr] at e; cases e)]; exact e
end
structure HasF (P : Program) (w : World) (K : PySem.W.Frag) (mg : Str -> Option Value) (base : Heap) (k : Nat) (f : Addr) (ps : List Str) (sp : Sp) : Prop where
 ex : ∃ fd, FnOk P w K mg base CX0 k f fd ps sp /\ Binds K fd ps [] /\ PySem.W.keepIn K (.ref f) = true
def qL (i : Nat) (f : Addr) (tc : TE) : TE := fun σ H Q => σ[i]? = some (some (.ref f)) /\ tc σ H Q
section
variable {X : Cx} {k : Nat} {x : Str} {ps : List Str} {sp : Sp} {p pos : Pos} {e : Expr} {es : List Expr} {t : TA}
theorem Has.at {P : Program} {w : World} {K : PySem.W.Frag} {mg : Str -> Option Value} {base : Heap} {k : Nat} {f : Addr} (h : Has P w K mg base k x ps sp) (hm : mg x = some (.ref f)) : HasF P w K mg base k f ps sp := by
 obtain ⟨g, fd, F, b, kp, m⟩ := h.ex
 rw [hm] at m
 cases m
 exact ⟨fd, F, b, kp⟩
theorem pe_callL {f : Addr} {i : Nat} (h : HasF X.prog X.w X.K X.mg X.base k f ps sp) (hr : Room k X.A) (ha : PA X (e :: es) t) (hN : X.N[i]? = some x := by rfl) (hv : Vis X.env.scope x := by first | exact Or.inl rfl | exact Or.inr (Or.inl rfl) | exact Or.inr (Or.inr rfl))
   (hdb : (x == ("__debug__" : Str)) = false := by decide) (hcd : (x == ("__classdict__" : Str)) = false := by decide)
   (he : starEach (e :: es) X.env = (false, eval e X.env) :: starEach es X.env := by rfl) (hpl : (backTo pos (starEach es X.env)).any (·.1) = false := by rfl) : PE X (.Call (.Name x p) (e :: es) [] pos) (qL i f (tCall sp [] E0 t)) := by
 obtain ⟨fd, F, b, kp⟩ := h.ex
 intro pins s σ H Q I h
 obtain ⟨h1, h2⟩ := h
 refine wpAny_Call_Name_kw (thn (pe_var hN hv hdb hcd pins s σ H (fun v H' => v = .ref f /\ H' = H) I ⟨_, h1, rfl, rfl⟩) fun u s1 ⟨v, H1, I1, r, e1, e2⟩ => ?_)
 subst e1 e2
 obtain rfl : u = .ref f := r
 refine PySem.W.callWith_K (h₀ := X.base) I.ok.mod.kin kp (thn (ha pos pins s1 σ H1 _ I1 h2) fun us s2 ⟨vs, H2, I2, r, q⟩ => ⟨I2.kIn, ?_⟩) he hpl
 exact run_fn F hr b .nil pass0 I2 r q
theorem pe_fnv {f : Addr} (hm : X.mg x = some (.ref f)) (hg : Gl X x) (hd : (x == ("__debug__" : Str)) = false := by decide) : PE X (.Name x pos) (tC (.ref f)) := pe_glob hg hm rfl hd
end
section
variable {X : Cx}
theorem best_min (f : Nat -> Int) : ∀ k, (∀ i, i <= k -> f (argBest (fun i j => decide (f i < f j)) k) <= f i) /\ argBest (fun i j => decide (f i < f j)) k <= k
 | 0 => ⟨fun i hi => by have : i = 0 := by omega
                        subst this; exact Int.le_refl _, Nat.le_refl _⟩
 | k + 1 => by
   obtain ⟨h1, h2⟩ := best_min f k
   unfold argBest
   by_cases hc : f (k + 1) < f (argBest (fun i j => decide (f i < f j)) k)
   · rw [if_pos (decide_eq_true hc)]
     refine ⟨fun i hi => ?_, Nat.le_refl _⟩
     by_cases e : i = k + 1
     · subst e; exact Int.le_refl _
     · have := h1 i (by omega); omega
   · rw [if_neg (by simpa using hc)]
     refine ⟨fun i hi => ?_, by omega⟩
     by_cases e : i = k + 1
     · subst e; omega
     · exact h1 i (by omega)
def minI : List Int -> Int
 | [] => 0
 | [n] => n
 | n :: m :: r => min n (minI (m :: r))
theorem minI_le : ∀ {ns : List Int} {n : Int}, n ∈ ns -> minI ns <= n
 | [a], n, h => by simp at h; subst h; exact Int.le_refl _
 | a :: b :: r, n, h => by
   rw [minI]
   rcases List.mem_cons.mp h with h | h
   · subst h; omega
   · have := minI_le h; omega
theorem minI_mem : ∀ {ns : List Int}, ns ≠ [] -> minI ns ∈ ns
 | [a], _ => by simp [minI]
 | a :: b :: r, _ => by
   rw [minI]
   have := minI_mem (ns := b :: r) (by simp)
   by_cases h : a <= minI (b :: r)
   · rw [Int.min_eq_left h]; exact List.mem_cons_self
   · rw [Int.min_eq_right (by omega)]; exact List.mem_cons_of_mem _ this
theorem minI_is {ns : List Int} {v : Int} (h1 : v ∈ ns) (h2 : ∀ n ∈ ns, v <= n) : v = minI ns :=
 Int.le_antisymm (h2 _ (minI_mem (List.ne_nil_of_mem h1))) (minI_le h1)
theorem call_minI : xN X (.builtin "min") (fun xs H Q => X.calm = true /\ ∃ (p : Addr) (ns : List Int), xs = [.ref p] /\ SqL X.K H p (ns.map V.int) /\ ns ≠ [] /\ Q (.int (minI ns)) H) := by
 intro pins s σ H xs us Q I r h
 obtain ⟨hc, p, ns, rfl, hp, hne, q⟩ := h
 obtain ⟨u, rfl, ru⟩ := jC r
 cases ru
 obtain ⟨its, rv, hl, hz⟩ := I.list hp
 obtain ⟨xs, e1, e2⟩ := ints_pair rv
 have hn : xs.size = ns.length := by rw [← e2]; simp
 have h0 : 0 < xs.size := by rw [hn]; exact List.length_pos_iff.mpr hne
 rw [e1] at hl
 refine min_intList (I.ok.hd hc) hl.isList h0 fun v h' tk hv k => ?_
 obtain ⟨tk', rfl⟩ := intItems_at hv
 refine ⟨.int (minI ns), H, I.kept k, ⟨tk', ?_⟩, q⟩
 have b := best_min (numAt xs) (xs.size - 1)
 have at_mem : ∀ i, i < xs.size -> numAt xs i ∈ ns := fun i hi => by
   rw [← e2]
   simp only [numAt, Array.getElem?_eq_getElem hi, Option.map_some, Option.getD_some, List.mem_map]
   exact ⟨xs[i], by simp, rfl⟩
 have e3 : numAt xs (argBest (fun i j => decide (numAt xs i < numAt xs j)) (xs.size - 1)) = minI ns := by
   refine minI_is (at_mem _ (by omega)) fun n hn' => ?_
   rw [← e2] at hn'
   obtain ⟨y, hy, rfl⟩ := List.mem_map.mp hn'
   obtain ⟨i, hi, rfl⟩ := List.getElem_of_mem hy
   have hi' : i < xs.size := by simpa using hi
   have := b.1 i (by omega)
   simpa [numAt, hi'] using this
 rw [e3]
end
end L2
set_option maxHeartbeats 8000000
namespace L2
open PySem PySem.Spec PyProof.Rows
def oIs : Option Key -> Value -> Bool
 | none, .none => true
 | none, _ => false
 | some k, v => keyIs k v
def oH (w : World) : Option Key -> Int
 | none => reduceHash 0xFCA86420
 | some k => keyH w k
theorem oIs_shape : ∀ {k : Option Key} {v : Value}, oIs k v = true -> (k = none /\ v = .none) \/ ∃ j, k = some j /\ keyIs j v = true
 | none, .none, _ => .inl ⟨rfl, rfl⟩
 | some j, v, h => .inr ⟨j, rfl, h⟩
 | none, .bool _, h => nomatch h
 | none, .int _ _, h => nomatch h
 | none, .str _ _, h => nomatch h
 | none, .ref _, h => nomatch h
 | none, .float _ _, h => nomatch h
 | none, .builtin _, h => nomatch h
 | none, .type _, h => nomatch h
 | none, .ellipsis, h => nomatch h
 | none, .notImplemented, h => nomatch h
theorem jL {j : Key} : keyIs j .none = false := by cases j <;> rfl
def xS (P : Program) (w : World) : PySem.KeyKind P w (Option Key) where
 is := oIs
 hash := oH w
 inj := fun v a b ha hb => by
   rcases oIs_shape ha with ⟨rfl, rfl⟩ | ⟨i, rfl, h1⟩ <;> rcases oIs_shape hb with ⟨rfl, e⟩ | ⟨j, rfl, h2⟩
   · rfl
   · rw [jL] at h2; cases h2
   · rw [e, jL] at h1; cases h1
   · exact congrArg some ((zQ P w).inj v i j h1 h2)
 byValue := fun k v h => by
   rcases oIs_shape h with ⟨rfl, rfl⟩ | ⟨i, rfl, h1⟩
   · rfl
   · exact (zQ P w).byValue i v h1
 pyHash := fun hv h => by
   rcases oIs_shape hv with ⟨rfl, rfl⟩ | ⟨i, rfl, h1⟩
   · exact PySem.W.pyHash_slot (T := "NoneType") rfl F.slot_NoneType_hash F.entry_NoneType_hash (F.args_NoneType_hash_1 _) (beq_builtin_none _) (.inl rfl) (wpAny_bind (wpAny_pure (wpAny_bind (wpAny_mkInt (wpAny_pure ⟨_, _, rfl, h⟩)))))
   · exact (zQ P w).pyHash h1 h
 eqBool := fun hu hv h => by
   rcases oIs_shape hu with ⟨rfl, rfl⟩ | ⟨i, rfl, h1⟩ <;> rcases oIs_shape hv with ⟨rfl, rfl⟩ | ⟨j, rfl, h2⟩
   · rw [decide_eq_true rfl] at h
     exact SeqAt.EqAt.same _ _ _ _ _ h
   · rw [decide_eq_false (fun z => nomatch z)] at h
     rcases keyIs_shape h2 with ⟨k, t, rfl, rfl⟩ | ⟨x, t, rfl, rfl⟩
     · exact SeqAt.EqAt.none_int _ _ _ _ _ _ h
     · exact SeqAt.EqAt.none_str _ _ _ _ _ _ h
   · rw [decide_eq_false (fun z => nomatch z)] at h
     rcases keyIs_shape h1 with ⟨k, t, rfl, rfl⟩ | ⟨x, t, rfl, rfl⟩
     · exact SeqAt.EqAt.int_none _ _ _ _ _ _ h
     · exact SeqAt.EqAt.str_none _ _ _ _ _ _ h
   · refine (zQ P w).eqBool h1 h2 ?_
     have e : decide (some i = some j) = decide (i = j) := by
       by_cases c : i = j
       · subst c; simp
       · rw [decide_eq_false c, decide_eq_false (fun z => c (Option.some.inj z))]
     rw [e] at h
     exact h
 «strs» := fun k x t v h => by
   rcases oIs_shape h with ⟨rfl, e⟩ | ⟨i, rfl, h1⟩
   · cases e
   · exact (zQ P w).strs i x t v h1
def oV : Option Key -> V
 | none => .non
 | some k => kV k
def unO : List (Option Key) -> Option (List Key)
 | [] => some []
 | none :: _ => none
 | some k :: ks => (unO ks).map (k :: ·)
def valO (kvs : List (List Key × V)) (ks : List (Option Key)) : Option V := (unO ks).bind (yV kvs)
theorem unO_eq : ∀ (ks : List (Option Key)) (js : List Key), js.map some = ks ↔ unO ks = some js
 | [], [] => ⟨fun _ => rfl, fun _ => rfl⟩
 | [], _ :: _ => ⟨fun z => (by cases z), fun z => (by cases z)⟩
 | none :: ks, [] => ⟨fun z => (by cases z), fun z => (by cases z)⟩
 | none :: ks, j :: js => ⟨fun z => (by cases z), fun z => (by cases z)⟩
 | some k :: ks, [] => ⟨fun z => (by cases z), fun z => by
     obtain ⟨_, _, e⟩ := Option.map_eq_some_iff.mp z
     cases e⟩
 | some k :: ks, j :: js => ⟨fun z => by
     rw [List.map_cons] at z
     obtain ⟨e1, e2⟩ := List.cons.inj z
     rw [unO, (unO_eq ks js).mp e2]
     cases e1
     rfl, fun z => by
     obtain ⟨is, e1, e2⟩ := Option.map_eq_some_iff.mp z
     cases e2
     rw [List.map_cons, (unO_eq ks js).mpr e1]⟩
theorem oV_is {P : Program} {w : World} {k : Option Key} {u : Value} (r : RelV (oV k) u) : (xS P w).is k u = true := by
 cases k with
 | none => cases (show u = Value.none from r); rfl
 | some j => exact kV_is (P := P) (w := w) r
theorem items_o {P : Program} {w : World} : ∀ {ks : List (Option Key)} {us : List Value}, Vals (ks.map oV) us -> ItemsAre (xS P w) ks us
 | [], _, r => by
   rw [List.map_nil] at r
   cases r
   exact .nil
 | k :: ks, _, r => by
   rw [List.map_cons] at r
   cases r with
   | cons h t => exact .cons (oV_is h) (items_o t)
section
variable {P : Program} {w : World} {H : Hp} {h : Heap} {a : Addr}
theorem key_o {ks : List (Option Key)} (ok : HOk P w H h) (e : H a = some (.tup (ks.map oV))) : (tupleKind (xS P w)).is h ks a := by
 obtain ⟨_, its, r, o, h1, h2, n, h3⟩ := (show ObjOk P w H h a (.tup (ks.map oV)) from ok a _ e)
 refine ⟨o, its.toArray, n, h1, h2, h3, ?_⟩
 have := items_o (P := P) (w := w) r
 simpa using this
def xJ (x : List Key × Addr × Value) : List (Option Key) × Addr × Value := (x.1.map some, x.2)
theorem items_lift : ∀ {ks : List Key} {us : List Value}, ItemsAre (zQ P w) ks us -> ItemsAre (xS P w) (ks.map some) us
 | _, _, .nil => .nil
 | _, _, .cons h t => .cons h (items_lift t)
theorem hash_lift (ks : List Key) : (tupleKind (xS P w)).hash (ks.map some) = (tupleKind (zQ P w)).hash ks := by
 show reduceHash (Builtin.Tuple.tupleHashOf ((ks.map some).map (oH w))) = reduceHash (Builtin.Tuple.tupleHashOf (ks.map (keyH w)))
 rw [List.map_map]
 rfl
theorem some_inj : ∀ {x y : List Key}, x.map some = y.map some -> x = y
 | [], [], _ => rfl
 | [], _ :: _, e => by cases e
 | _ :: _, [], e => by cases e
 | x :: xs, y :: ys, e => by
   rw [List.map_cons, List.map_cons] at e
   obtain ⟨e1, e2⟩ := List.cons.inj e
   rw [Option.some.inj e1, some_inj e2]
theorem dict_o {xs : List (List Key × Addr × Value)} (dd : h.DictOfH (tupleKind (zQ P w)) a xs) : h.DictOfH (tupleKind (xS P w)) a (xs.map xJ) := by
 obtain ⟨o, es, ep, h1, h2, h3, h4, h5, h6⟩ := dd
 refine ⟨o, es, ep, h1, h2, h3, ?_, fun x hx => ?_, ?_⟩
 · rw [h4, List.map_map]
   refine List.map_congr_left fun x _ => ?_
   show DictEntry.mk _ _ _ = DictEntry.mk _ _ _
   rw [show (tupleKind (xS P w)).hash (xJ x).1 = (tupleKind (zQ P w)).hash x.1 from hash_lift x.1]
   rfl
 · obtain ⟨y, hy, rfl⟩ := List.mem_map.mp hx
   obtain ⟨q, its, n, g1, g2, g3, g4⟩ := h5 y hy
   exact ⟨q, its, n, g1, g2, g3, items_lift g4⟩
 · rw [List.map_map, show ((·.1) ∘ xJ) = ((fun z : List Key => z.map some) ∘ (·.1)) from rfl, ← List.map_map]
   exact List.pairwise_map.mpr (List.Pairwise.imp (fun hne z => hne (some_inj z)) h6)
theorem at_o (ks : List (Option Key)) : ∀ (xs : List (List Key × Addr × Value)), atKey (xs.map xJ) ks = (unO ks).bind (atKey xs)
 | [] => by
   cases unO ks with
   | none => rfl
   | some _ => rfl
 | x :: xs => by
   have ih := at_o ks xs
   by_cases e : x.1.map some = ks
   · have e2 := (unO_eq ks x.1).mp e
     rw [e2]
     have b1 : atKey ((x :: xs).map xJ) ks = some x.2 := by simp [atKey, List.find?_cons, xJ, e]
     have b2 : atKey (x :: xs) x.1 = some x.2 := by simp [atKey, List.find?_cons]
     rw [b1]
     exact b2.symm
   · have b1 : atKey ((x :: xs).map xJ) ks = atKey (xs.map xJ) ks := by simp [atKey, List.find?_cons, xJ, e]
     rw [b1, ih]
     cases c : unO ks with
     | none => rfl
     | some js =>
       have e3 : ¬ x.1 = js := fun z => e ((unO_eq ks x.1).mpr (by rw [c, z]))
       have b2 : atKey (x :: xs) js = atKey xs js := by simp [atKey, List.find?_cons, e3]
       exact b2.symm
end
def DGetO (H : Hp) (a : Addr) (y : V) (r : Option V) : Prop := ∃ kvs ks b, H a = some (.dT kvs) /\ y = .ref b /\ H b = some (.tup (ks.map oV)) /\ r = valO kvs ks
theorem DGetO.mk {H : Hp} {a b : Addr} {kvs : List (List Key × V)} {ks : List (Option Key)} (e : H a = some (.dT kvs)) (eb : H b = some (.tup (ks.map oV))) : DGetO H a (.ref b) (valO kvs ks) := ⟨kvs, ks, b, e, rfl, eb, rfl⟩
section
variable {X : Cx} {pins : List (Addr × Obj)} {σ : St} {H : Hp} {s : Shared} {a : Addr} {y : V} {u : Value} {o : Option V} {A : Around} {E : Value -> Shared -> Prop}
theorem d_getO {Q : Value -> Shared -> Prop} (hu : A.units + 1 < cLine) (I : Inv X pins σ H s) (g : DGetO H a y o) (ry : RelV y u) (h : ∀ w' s', Inv X pins σ H s' -> RelV (o.getD .non) w' -> Q w' s') :
   wpAny (model X.prog X.w) A (call (.builtin "dict.get") [.ref a, u]) Q E s := by
 obtain ⟨kvs, k, b, e, ey, eb, l⟩ := g
 subst ey
 cases (show u = Value.ref b from ry)
 obtain ⟨z, hd, xs, rel, dd⟩ := dt_of I.hok e
 refine call_meetsIn PySem.F.slot_dict_get dd.typeIs PySem.F.entry_dict_get (PySem.F.args_dict_get_2 _ _) (meetsH_dict_get (tupleKind (xS X.prog X.w)) a b hd) ⟨tupleKind_room_in1 hu, k, _, key_o I.hok eb, dict_o dd, h _ _ (I.tok _) ?_⟩
 rw [l, at_o]
 unfold valO
 cases unO k with
 | none => exact rfl
 | some js => exact (rel.val js).getD rfl
end
def tDGetO (td ty : TE) : TE := fun σ H Q => td σ H fun x H1 => ∃ a, x = .ref a /\ IsD H1 a /\ ty σ H1 fun y H2 => ∃ o, DGetO H2 a y o /\ Q (o.getD .non) H2
section
variable {X : Cx} {o e : Expr} {apos cpos : Pos} {td ty : TE}
theorem pe_dgetO (hu : X.A.units + 1 < cLine) (ho : PE X o td) (he : PE X e ty) (m : M1 X o "get" apos e cpos) : PE X (.Call (.Attribute o "get" apos) [e] [] cpos) (tDGetO td ty) := by
 intro pins s σ H Q I h
 refine wpAny_Call_method m.base m.few m.line PySem.F.plainAttrs_dict PySem.F.slot_dict_get PySem.F.type_dict_get (thn (ho pins s σ H _ I h) fun u s1 ⟨x, H1, I1, rx, a, ex, d, q1⟩ => ?_)
 subst ex
 obtain rfl : u = Value.ref a := rx
 obtain ⟨t1, t2, _⟩ := isD_at I1 d
 refine ⟨t1, t2, ?_⟩
 rw [m.trees]
 refine Calls.callWith_builtin rfl (Calls.evalArgs_plain (Calls.spliced_cons (thn (he pins s1 σ H1 _ I1 q1) fun iv s2 ⟨y, H2, I2, ry, ov, g, q2⟩ => Calls.spliced_nil ?_)))
 exact d_getO hu I2 g ry fun w' s3 I3 rw' => ⟨_, H2, I3, rw', q2⟩
end
section
variable {prog : Program} {w : World} {A : Around} {E : Value -> Shared -> Prop} {s : Shared} {T : String} {J : Addr} {fp wr : List Addr} {n : Nat} {P : Nat -> Value -> Prop} {St : Nat -> Heap -> Prop}
theorem it_collect {Q : List Value -> Shared -> Prop} (K : ItSrc prog w T J fp wr n P St) (hh : A.handled = none) (st : St 0 s.heap) (hlt : ∀ b ∈ fp, b < s.heap.objs.size) (hn : n <= sizeLine)
   (hQ : ∀ h' tk acc, (∀ b o, b ∉ wr -> s.heap.get? b = some o -> h'.get? b = some o) -> ItemsOf P acc n -> Q acc.toList { s with heap := h', toks := tk }) :
   wpAny (model prog w) A (collect (.ref J)) Q E s := by
 have hSf : s.heap.objs.size ∉ fp := fun hm => Nat.lt_irrefl _ (hlt _ hm)
 have hS : (s.heap.push { cls := .type "list", data := .seq ([] : List Value).toArray }).get? s.heap.objs.size = some { cls := .type "list", data := .seq #[] 0 } := Heap.get?_push_size _ rfl
 have st1 : St 0 (s.heap.push { cls := .type "list", data := .seq ([] : List Value).toArray }) := (K.walks A hh).frame 0 _ _ st fun b _ o e => Heap.get?_push_of_some _ e
 unfold collect
 refine wpAny_bind (wpAny_runValue (codeAny_builtin PySem.F.entry_proto_collect ?_))
 rw [Around.under_plainId PySem.F.plain_proto_collect _]
 show wpAny _ A.in1 (newList [] >>= fun z => again (.builtin "list.__iadd__" ⟨[z, .ref J], []⟩)) _ _ s
 refine wpAny_bind (wpAny_newObj_type ?_)
 refine wpAny_pure ⟨plainId_quiet PySem.F.plain_list_iadd _, codeAny_builtin PySem.F.entry_list_iadd ?_⟩
 rw [Around.under_plainId PySem.F.plain_list_iadd _]
 show wpAny _ A.in1 (Builtin.List.listExtendWith (.ref s.heap.objs.size) (.ref J) (.ref s.heap.objs.size)) _ _ _
 have fin' : ∀ (h' : Heap) (tk : Nat) (acc' : Array Value) (c' : Nat), (∀ b o, b ≠ s.heap.objs.size -> b ∉ wr -> (s.heap.push { cls := .type "list", data := .seq ([] : List Value).toArray }).get? b = some o -> h'.get? b = some o) -> h'.get? s.heap.objs.size = some { cls := .type "list", dict := none, data := .seq acc' c', slots := #[] } -> ItemsOf P acc' n ->
     wpAny (model prog w) A (match Value.ref s.heap.objs.size with
       | Value.ref a => do
         match (← load a).data with
           | Data.seq xs _ => pure xs.toList
           | _ => unsupported "internal:collect"
       | _ => unsupported "internal:collect") Q E { s with heap := h', toks := tk } := fun h' tk acc' c' hk hS' hacc => by
   show wpAny _ A (load s.heap.objs.size >>= _) _ _ _
   refine wpAny_bind (wpAny_load hS' (wpAny_pure (hQ h' tk acc' (fun b o hw e => ?_) hacc)))
   exact hk b o (Nat.ne_of_lt (Heap.lt_size e)) hw (Heap.get?_push_of_some _ e)
 refine wpAny_mono (it_extend (A := A) (R := fun r s' => r = .ok (.ret (.ref s.heap.objs.size)) /\ ∃ h' tk acc' c', s' = { s with heap := h', toks := tk } /\ (∀ b o, b ≠ s.heap.objs.size -> b ∉ wr -> (s.heap.push { cls := .type "list", data := .seq ([] : List Value).toArray }).get? b = some o -> h'.get? b = some o) /\ h'.get? s.heap.objs.size = some { cls := .type "list", dict := none, data := .seq acc' c', slots := #[] } /\ ItemsOf P acc' n) (s := { s with heap := s.heap.push { cls := .type "list", data := .seq ([] : List Value).toArray } }) K hh st1 s.heap.objs.size hSf (.ref s.heap.objs.size) 0 hS (fun h' tk acc' c' hk hS' hacc => ⟨rfl, h', tk, acc', c', rfl, hk, hS', hacc⟩) hn) (fun fin s' h => ?_) (fun e s' h => ?_)
 · cases fin with
   | done f =>
     obtain ⟨e, h', tk, acc', c', rfl, h1, h2, h3⟩ := h
     cases e
     exact fin' h' tk acc' c' h1 h2 h3
   | again c' =>
     exact ⟨h.1, codeAny_mono h.2 fun r s'' hr => by
       obtain ⟨rfl, h', tk, acc', c', rfl, h1, h2, h3⟩ := hr
       exact fin' h' tk acc' c' h1 h2 h3⟩
 · exact absurd h.1 (by simp)
theorem it_tuple {Q₁ : Value -> Shared -> Prop} (K : ItSrc prog w T J fp wr n P St) (hnt : (Value.type T == Value.type "tuple") = false) (hh : A.handled = none) (st : St 0 s.heap) (hlt : ∀ b ∈ fp, b < s.heap.objs.size) (hn : n <= sizeLine)
   (h : ∀ (h' : Heap) (tk : Nat) (acc : Array Value), (∀ b o, b ∉ wr -> s.heap.get? b = some o -> h'.get? b = some o) -> ItemsOf P acc n -> Q₁ (.ref h'.objs.size) { s with heap := h'.push { cls := .type "tuple", data := .seq acc }, toks := tk }) :
   codeAny (model prog w) A (.call (.builtin "tuple.__new__") ⟨[.type "tuple", .ref J], []⟩) (wants Q₁ E) s := by
 refine codeAny_of_tree ?_
 show wpAny _ A.in1 (do checkBuiltinCall "tuple.__new__" ⟨[.type "tuple", .ref J], []⟩; again (.builtin "tuple.__new__" ⟨[.type "tuple", .ref J], []⟩)) _ _ s
 refine wpAny_bind (wpAny_of_eq (PySem.F.newCall_tuple_1 _) (wpAny_pure ⟨plainId_quiet PySem.F.plain_tuple_new _, codeAny_builtin PySem.F.entry_tuple_new ?_⟩))
 rw [Around.under_plainId PySem.F.plain_tuple_new _]
 have hsub := sub_tuple_self
 have hinit := init_tuple_lookup
 have hmh := madeHere_tuple
 have hTI := K.type s st
 wp_walk using wpAny_typeOf hTI, it_collect (A := A.in1) K hh st hlt hn
 intro h' tk acc hk hacc
 show wpAny _ _ (Builtin.Tuple.tupleExact acc.toList.toArray >>= fun z => ret z) _ _ _
 have e : acc.toList.toArray = acc := by simp
 rw [e]
 unfold Builtin.Tuple.tupleExact
 refine wpAny_bind (wpAny_newObj_type ?_ (by show acc.size <= sizeLine; rw [hacc.1]; exact hn))
 exact wpAny_pure (h h' tk acc hk hacc)
theorem it_tcall {Q : Value -> Shared -> Prop} (K : ItSrc prog w T J fp wr n P St) (hnt : (Value.type T == Value.type "tuple") = false) (hh : A.handled = none) (st : St 0 s.heap) (hlt : ∀ b ∈ fp, b < s.heap.objs.size) (hn : n <= sizeLine)
   (h : ∀ (h' : Heap) (tk : Nat) (acc : Array Value), (∀ b o, b ∉ wr -> s.heap.get? b = some o -> h'.get? b = some o) -> ItemsOf P acc n -> Q (.ref h'.objs.size) { s with heap := h'.push { cls := .type "tuple", data := .seq acc }, toks := tk }) :
   wpAny (model prog w) A (call (.type "tuple") [.ref J]) Q E s := by
 refine callType_codes (Q₁ := fun z s1 => s1.TypeIs z "tuple" /\ Q z s1) PySem.F.called_tuple (PySem.F.typeCall_tuple_1 _) PySem.F.entry_object_init (it_tuple K hnt hh st hlt hn fun h' tk acc hk hacc => ⟨⟨_, Heap.get?_push_size _ rfl, rfl⟩, h h' tk acc hk hacc⟩) fun z s1 h1 => ?_
 exact ⟨h1.1, PySem.F.args_object_init_2 z _, object_init_meets PySem.F.called_tuple.init.lookup PySem.F.called_tuple.made (by decide) prog w A.in1 _ s1 ⟨h1.1, rfl, h1.2⟩⟩
end
section
variable {X : Cx}
def tTR (ta : TA) : TE := fun σ H Q => ta σ H fun vs H1 => ∃ a xs, vs = [.ref a] /\ H1 a = some (.lst xs) /\ ∀ l, H1 l = none -> Q (.ref l) (upd H1 l (.tup xs.reverse))
theorem jZ {o : Expr} {ta : TA} {p p' ap pos : Pos} (hg : Gl X "tuple") (hm : X.mg "tuple" = none) (hg' : Gl X "reversed") (hm' : X.mg "reversed" = none) (hc : X.calm = true) (ha : PA X [o] ta) (hs : starEach [o] X.env = [(false, eval o X.env)] := by rfl)
   (he : starEach [Expr.Call (.Name "reversed" p') [o] [] ap] X.env = [(false, eval (.Call (.Name "reversed" p') [o] [] ap) X.env)] := by rfl) : PE X (.Call (.Name "tuple" p) [.Call (.Name "reversed" p') [o] [] ap] [] pos) (tTR ta) := by
 intro pins s σ H Q I h
 refine wpAny_Call_Name_kw (yX I hg hm bt_tuple ?_ (by decide) (by decide))
 refine PyProof.Rows.callWith_type1 ?_ he (by rfl)
 rw [he]
 show wpAny _ _ (spliced [(false, _)]) _ _ s
 refine Calls.spliced_cons ?_
 refine wpAny_Call_Name_kw (yX I hg' hm' bt_reversed ?_ (by decide) (by decide))
 refine PyProof.Rows.callWith_type1 (thn (ha ap pins s σ H _ I h) fun us s1 ⟨vs, H1, I1, r1, a, xs, e, h1, q⟩ => ?_) (by rw [hs]; rfl) (by rfl)
 subst e
 obtain ⟨u, rfl, ru⟩ := jC r1
 cases ru
 obtain ⟨hz, its, nn, rv, o1⟩ := (show ObjOk X.prog X.w H1 s1.heap a (.lst xs) from I1.hok a _ h1)
 have hlen := rv.length
 have hal : a < s1.heap.objs.size := Heap.lt_size o1
 refine jT o1 ?_
 refine Calls.spliced_nil ?_
 have o2 : (s1.heap.push { cls := Value.type "list_reverseiterator", data := Data.fields #[Value.ref a, rawInt (((its.toArray.size : Nat) : Int) - 1)] }).get? a = some { cls := .type "list", dict := none, data := .seq its.toArray nn, slots := #[] } := Heap.get?_push_of_some _ o1
 have ri : IsRev (s1.heap.push { cls := Value.type "list_reverseiterator", data := Data.fields #[Value.ref a, rawInt (((its.toArray.size : Nat) : Int) - 1)] }) s1.heap.objs.size a 0 its.toArray.size := ⟨_, Heap.get?_push_size _ rfl, rfl, by simp⟩
 have sz : (s1.heap.push { cls := Value.type "list_reverseiterator", data := Data.fields #[Value.ref a, rawInt (((its.toArray.size : Nat) : Int) - 1)] }).objs.size = s1.heap.objs.size + 1 := Heap.size_push ..
 refine it_tcall (rev_src (r := s1.heap.objs.size) (l := a) (items := its.toArray) (Nat.ne_of_lt hal)) (by decide) (I.ok.hd hc) ⟨ri, ⟨_, o2, rfl, nn, rfl⟩⟩ (fun b hb => ?_) (by rw [List.size_toArray]; omega) fun h' tk acc hk hacc => ?_
 · show b < (s1.heap.push _).objs.size
   rw [sz]
   simp only [List.mem_cons, List.not_mem_nil, or_false] at hb
   rcases hb with e | e
   · rw [e]; exact Nat.lt_succ_self _
   · rw [e]; exact Nat.lt_succ_of_lt hal
 have hold : ∀ b o, s1.heap.get? b = some o -> h'.get? b = some o := fun b o e => hk b o (fun hm => by
   rw [List.mem_singleton] at hm
   exact absurd (hm ▸ Heap.lt_size e) (Nat.lt_irrefl _)) (Heap.get?_push_of_some _ e)
 have vals : Vals xs.reverse acc.toList := by
   have hal : acc.toList.length = its.length := by rw [Array.length_toList, hacc.1, List.size_toArray]
   refine vals_of (by rw [List.length_reverse, hal, hlen]) fun i y u hy hu => ?_
   have hi := (List.getElem?_eq_some_iff.mp hu).1
   rw [Array.getElem?_toList] at hu
   have e1 := hacc.2 i u hu
   rw [List.size_toArray] at e1
   have e2 : its[its.length - 1 - i]? = some u := by simpa using e1
   rw [List.getElem?_reverse (by omega)] at hy
   obtain ⟨u', hu', ru'⟩ := rv.get hy
   rw [hlen, e2] at hu'
   cases hu'
   exact ru'
 have I2 : Inv X pins σ H1 { s1 with heap := h', toks := tk } := I1.kept (t' := tk) hold
 exact ⟨.ref h'.objs.size, _, I2.laid (a := h'.objs.size) (o := .tup xs.reverse) (t' := tk) (fun b o e => Heap.get?_push_of_some _ e) (Nat.le_refl _) ⟨by rw [List.length_reverse]; exact hz, acc.toList, vals, by rw [Array.toArray_toList]; exact IsTup.new _ _⟩, rfl, q _ (I2.hok.fresh (Nat.le_refl _))⟩
end
def Itb (d n : Nat) : It := ⟨fun i _ => i < n, fun i H x H' => H' = H /\ x = .int ((i * d : Nat) : Int), fun i _ => n <= i⟩
theorem turn_by {P : Program} {w : World} {K : PySem.W.Frag} {tg : Expr} (it : Addr) (d n : Nat) : Turn P w K tg (Itb d n) [it] it (fun i h => IsRangeIter h it (0 + (i : Nat) * (d : Int)) ((n : Int) - (i : Nat)) (d : Int)) where
 mem := by simp
 obj := fun i h st b hb => by
   have e : b = it := by simpa using hb
   subst e
   exact ⟨_, st, fun v z => by
     have z' : Data.fields _ = Data.cell v := z
     cases z'⟩
 keep := fun i h h' st k => k it (by simp) _ st
 item := by
   intro X hP hw hK hc i pins s σ H E I hf st hg
   subst hP hw hK
   obtain ⟨f0, f1, f2, f3, f4, f5⟩ := hf it (by simp)
   have W := Walks.range (prog := X.prog) (w := X.w) (I.ok.hd hc) it 0 (d : Int) n
   refine W.item i s _ _ hg st fun v h' tk hv st' kk => ?_
   obtain ⟨t, rfl⟩ := hv
   have I1 : Inv X pins σ H { s with heap := h', toks := tk } := I.turned (fun b o hb e => kk b o (by simpa using hb) e) f0 f1 f3 f4 f5
   refine ⟨_, rfl, go_of (s := { s with heap := h', toks := tk }) (n := "range_iterator") st' rfl rfl (by decide) ⟨.int ((i * d : Nat) : Int), H, I1, ⟨t, ?_⟩, ⟨rfl, rfl⟩, st', fun b hb => (hf b hb).1⟩⟩
   have e : ((i * d : Nat) : Int) = 0 + (i : Int) * (d : Int) := by rw [Int.zero_add, Int.natCast_mul]
   rw [e]
 done := by
   intro X hP hw hK hc i pins s σ H E I hf st hg
   subst hP hw hK
   obtain ⟨f0, f1, f2, f3, f4, f5⟩ := hf it (by simp)
   exact wpAny_pyNext_range_end (I.ok.hd hc) st (by have : n <= i := hg; omega) fun h' eb => ⟨rfl, I.turned (t' := s.toks) (fun b o hb e => eb b o hb e) f0 f1 f3 f4 f5⟩
 self := fun _ _ _ _ _ st h => wpAny_pyIter_rangeiter st h
theorem size_by (a d : Nat) (h : 1 <= d) : Builtin.Range.rangeSize 0 (a : Int) (d : Int) = (((a + d - 1) / d : Nat) : Int) := by
 unfold Builtin.Range.rangeSize
 rw [if_pos (by omega)]
 by_cases c : a = 0
 · subst c
   rw [if_neg (by omega), show (0 + d - 1) / d = 0 from Nat.div_eq_of_lt (by omega)]
   rfl
 · rw [if_pos (by omega), show (a : Int) - 0 - 1 = ((a - 1 : Nat) : Int) by omega, ← Int.natCast_ediv, show a + d - 1 = a - 1 + d by omega, Nat.add_div_right _ (by omega)]
   rfl
theorem small_by {a d : Nat} (h : 1 <= d) (h1 : a < 100000) (h2 : d < 100000) : Builtin.Range.small 0 (a : Int) (d : Int) = true := by
 unfold Builtin.Range.small
 rw [size_by a d h]
 have : (a + d - 1) / d <= a + d := Nat.le_trans (Nat.div_le_self _ _) (by omega)
 generalize (a + d - 1) / d = m at this ⊢
 simp only [Builtin.Range.rangeFitsLong, Bool.and_eq_true, Bool.or_eq_true, decide_eq_true_eq, beq_iff_eq, if_pos (show (d : Int) > 0 by omega)]
 omega
section
variable {X : Cx} {tg : Expr}
def iBy (ta : TA) : TI := fun σ H R => ta σ H fun vs H1 => ∃ a d : Nat, vs = [.int 0, .int a, .int d] /\ a < 100000 /\ 1 <= d /\ d < 100000 /\ R (Itb d ((a + d - 1) / d)) H1
theorem pi_by {a b c : Expr} {ta : TA} {p pos : Pos} (hg : Gl X "range") (hm : X.mg "range" = none) (ha : PA X [a, b, c] ta) (hs : starEach [a, b, c] X.env = [(false, eval a X.env), (false, eval b X.env), (false, eval c X.env)] := by rfl) (hs2 : starEach [b, c] X.env = [(false, eval b X.env), (false, eval c X.env)] := by rfl) :
   PI X tg (.Call (.Name "range" p) [a, b, c] [] pos) (iBy ta) := by
 intro pins s σ H R I h
 refine Call_ (yX I hg hm boot_range (PyProof.Rows.callWith_type1 (thn (ha pos pins s σ H _ I h) fun us s1 ⟨vs, H1, I1, r1, q1⟩ => ?_) (by rw [hs, hs2]) (by rw [hs2]; rfl)))
 obtain ⟨n, d, e, hn, hd, hd2, q⟩ := q1
 subst e
 cases r1 with
 | cons r rr =>
   cases rr with
   | cons r' rr =>
     cases rr with
     | cons r'' rr =>
       cases rr
       obtain ⟨t, rfl⟩ := r
       obtain ⟨t', rfl⟩ := r'
       obtain ⟨t'', rfl⟩ := r''
       refine call_range_3 (by rw [Ne, Int.natCast_eq_zero]; omega) ?_ (Or.inl (PyProof.noPylong_small (by rw [Int.natAbs_natCast]; omega)))
       refine wpAny_pyIter_range (IsRange.new ..) (small_by hd hn hd2) ?_
       have I2 : Inv X pins σ H1 { s1 with heap := s1.heap.push { cls := .type "range", data := .fields #[.int 0 t, .int n t', .int d t''] }, toks := s1.toks } := I1.kept fun b o e => Heap.get?_push_of_some _ e
       refine ⟨(s1.heap.push { cls := .type "range", data := .fields #[.int 0 t, .int n t', .int d t''] }).objs.size, [(s1.heap.push { cls := .type "range", data := .fields #[.int 0 t, .int n t', .int d t''] }).objs.size], _, _, H1, rfl,
         I2.kept (t' := s1.toks) fun b o e => Heap.get?_push_of_some _ e, turn_by _ d ((n + d - 1) / d), ?_, fun b hb => ?_, q⟩
       · have e1 : (0 : Int) + ((0 : Nat) : Int) * (d : Int) = 0 := by simp
         have e2 : (((n + d - 1) / d : Nat) : Int) - ((0 : Nat) : Int) = Builtin.Range.rangeSize 0 n d := by rw [size_by n d hd]; omega
         show IsRangeIter _ _ ((0 : Int) + ((0 : Nat) : Int) * (d : Int)) ((((n + d - 1) / d : Nat) : Int) - ((0 : Nat) : Int)) (d : Int)
         rw [e1, e2]
         exact Heap.get?_push_size _ rfl
       · have e : b = (s1.heap.push { cls := .type "range", data := .fields #[.int 0 t, .int n t', .int d t''] }).objs.size := by simpa using hb
         subst e
         exact I2.fpOk (Nat.le_refl _) (I2.hok.fresh (Nat.le_refl _))
end
theorem fw_by {d n : Nat} {g : TG} {tb : TS} {D : Ends} {σ : St} {H : Hp} (Pv : Nat -> St -> Hp -> Prop) (h0 : Pv 0 σ H)
   (hs : ∀ i σ H, i < n -> Pv i σ H -> g (.int ((i * d : Nat) : Int)) σ H fun σ2 H2 => tb { D with nx := Pv (i + 1), ct := Pv (i + 1), bk := D.nx } σ2 H2) (hd : ∀ σ H, Pv n σ H -> D.nx σ H) : ForW (Itb d n) g tb D σ H := by
 refine ⟨fun i m σ H => m = n - i /\ i <= n /\ Pv i σ H, ⟨_, by rfl, Nat.zero_le _, h0⟩, fun i m σ1 H1 ⟨hm, hi', hp⟩ => ?_⟩
 by_cases h : i < n
 · refine .inr ⟨h, Pv (i + 1), fun σ' H' q => ⟨_, ?_, rfl, by omega, q⟩, fun v H' ⟨e1, e2⟩ => ?_⟩
   · omega
   · subst e1
     subst e2
     exact hs i σ1 _ h hp
 · have e : i = n := by omega
   subst e
   exact .inl ⟨Nat.le_refl _, hd σ1 H1 hp⟩
end L2
namespace C
open PySem L2
seal PE PT PW PA PS PSs PG PGs PI PPs PO PSet PIf
def top (i : Nat) : Stmt := PySem.Challenge.pw_clashbook_k10_numbers_of_terms.main.body.getD i (.Pass ⟨0, 0, 0, 0⟩)
abbrev s_c : Stmt := top 8
theorem sc_c : FnScope ["script", "k"] ["script", "k"] (zI s_c) := ⟨rfl, rfl, rfl, by decide +kernel, rfl, by decide +kernel, by decide +kernel⟩
abbrev s_b : Stmt := top 9
theorem sc_b : FnScope ["cell", "size", "letters", "made", "rest", "k"] ["cell", "size"] (zI s_b) := ⟨rfl, rfl, rfl, by decide +kernel, rfl, by decide +kernel, by decide +kernel⟩
abbrev s_j : Stmt := top 10
theorem sc_j : FnScope ["script", "one", "two", "three", "pool"] ["script"] (zI s_j) := ⟨rfl, rfl, rfl, by decide +kernel, rfl, by decide +kernel, by decide +kernel⟩
abbrev s_k : Stmt := top 11
theorem sc_k : FnScope ["cell", "pool", "which"] ["cell", "pool"] (zI s_k) := ⟨rfl, rfl, rfl, by decide +kernel, rfl, by decide +kernel, by decide +kernel⟩
abbrev s_g : Stmt := top 12
theorem sc_g : FnScope ["cells", "pool", "stack", "deep", "cell", "way", "parts", "low"] ["cells", "pool"] (zI s_g) := ⟨rfl, rfl, rfl, by decide +kernel, rfl, by decide +kernel, by decide +kernel⟩
def xO (K : PySem.W.Frag) : Sp := fun vs H Q _ => ∃ (a : Addr) (ns : List Int) (k : Nat), vs = [.ref a, .int k] /\ SqL K H a (ns.map V.int) /\ Q (.int (ns.getD k 0)) H
def spName : Sp := fun vs H Q _ => ∃ c n : Int, vs = [.int c, .int n] /\ ∀ x : Str, Nm x -> Q (.str x) H
def Pool (K : PySem.W.Frag) (H : Hp) (p : Addr) : Prop := ∃ x y z : Str, Nm x /\ Nm y /\ Nm z /\ H p = some (.lst [.str x, .str y, .str z])
def spPool (K : PySem.W.Frag) : Sp := fun vs H Q _ => ∃ (a : Addr) (ns : List Int), vs = [.ref a] /\ SqL K H a (ns.map V.int) /\ ∀ p H', Same H H' -> Pool K H' p -> Q (.ref p) H'
def spLeaf (K : PySem.W.Frag) : Sp := fun vs H Q _ => ∃ (c : Int) (p : Addr), vs = [.int c, .ref p] /\ Pool K H p /\ ∀ v t H', Same H H' -> TAt H' t v -> Fit 0 t -> wt t = 1 -> Q v H'
def qN (K : PySem.W.Frag) : Sp := fun vs H Q _ => ∃ (c p : Addr) (ns : List Int), vs = [.ref c, .ref p] /\ SqL K H c (ns.map V.int) /\ ns.length <= 63 /\ Pool K H p /\
 ∀ a vs ts H', Same H H' -> H' a = some (.lst vs) -> TAts H' ts vs -> ts ≠ [] -> (∀ t ∈ ts, Fit 17 t) -> wts ts <= ns.length + 1 -> Q (.ref a) H'
def whole : List Tm -> Tm
 | [t] => t
 | ts => .node "both" ts
theorem Pool.same {K : PySem.W.Frag} {H H' : Hp} {p : Addr} (e : Same H H') (h : Pool K H p) : Pool K H' p := by
 obtain ⟨x, y, z, a, b, c, d⟩ := h
 exact ⟨x, y, z, a, b, c, e _ _ d⟩
section
variable {P : Program} {w : World} {K : PySem.W.Frag} {mg : Str -> Option Value} {base : Heap} {f : Addr} {fd : FuncData}
theorem ok_cell (bi : Bi mg) (F : Fun K "_law_cell_at" "_law_cell_at" s_c f fd) : FnOk P w K mg base CX0 1 f fd ["script", "k"] (xO K) := by
 refine F.ok sc_c (fun vs H Q E h => ?_) (fun cdv A outer s H vs Q E hr h => ?_)
 · obtain ⟨a, ns, k, rfl, _⟩ := h
   rfl
 obtain ⟨a, ns, k, rfl, hS, q⟩ := h
 refine ⟨_, (zD (zY (zK op_lt (pv 1) (yB call_len rfl bi.len bt_len (zA (pv 0) pa_nil)) (zN _)) (zF (zP (zZ ix_list (pv 0) (pv 1) (fun _ _ => rfl)))) pss_nil) (zF (zP zC))), ?_⟩
 simp only [tSeq, tFor_eq, tLC_eq, iRng1, iRng2, iList, iTup, iStr, tIfS, tRet, tRetN, tNext, tAsg, gName, tVar, tC, tOp, rI0, rI, tTest, tB, rEq, rNe, tCall, tCons, tNil, tCB, tLst, tTup, tAnd, tOr, tNot, tAndV, tOrV, tNotV, tIf, tDrop, tSl, tPart, tNoPart, tChain, tUn, rU, L2.start, cx_K, bk_K, cx_calm, bk_calm, lenV_str, and_assoc, Option.join, List.length_map, List.length_append, decide_eq_true_eq, Bool.false_eq_true, if_false, if_true, Bool.not_true, Bool.not_false, Bool.not_eq_true', decide_eq_false_iff_not, Bool.true_eq_false, List.length_cons, List.length_nil, List.map_cons, List.map_nil, List.replicate, List.cons_append, List.nil_append, List.append_nil, List.getElem?_cons_zero, List.getElem?_cons_succ, List.set_cons_zero, List.set_cons_succ, Nat.reduceSub, Nat.reduceAdd, Option.some.injEq, V.int.injEq, V.str.injEq, V.bl.injEq, V.ref.injEq, List.cons.injEq, and_true, true_and, exists_eq_left', exists_eq_left, exists_and_left, exists_eq_right, exists_const]
 refine ⟨_, .inl ⟨_, hS, rfl⟩, ?_⟩
 split
 · rename_i hk
   rw [List.length_map] at hk
   exact ⟨a, _, k, _, rfl, rfl, hS, ix_nat hk, q⟩
 · rename_i hk
   rw [List.length_map] at hk
   rw [List.getD_eq_getElem?_getD, List.getElem?_eq_none (by omega)] at q
   exact q
theorem letter_at (c : Int) : ∃ d : Nat, atI ("abcdefghijklmnopqrstuvwxyz" : Str).cps.toList (c % 26) = some d /\ 97 <= d /\ d <= 122 := by
 have h : ∀ k : Fin 26, ∃ d : Nat, ("abcdefghijklmnopqrstuvwxyz" : Str).cps.toList[k.val]? = some d /\ 97 <= d /\ d <= 122 := by decide +kernel
 have h1 : 0 <= c % 26 := Int.emod_nonneg _ (by omega)
 have h2 : c % 26 < 26 := Int.emod_lt_of_pos _ (by omega)
 have e : c % 26 = ((c % 26).toNat : Nat) := by omega
 obtain ⟨d, h3, h4⟩ := h ⟨(c % 26).toNat, by omega⟩
 refine ⟨d, ?_, h4⟩
 rw [e]
 exact yI h3
theorem ok_name (bi : Bi mg) (F : Fun K "_law_name_by" "_law_name_by" s_b f fd) : FnOk P w K mg base CX0 1 f fd ["cell", "size"] spName := by
 refine F.ok sc_b (fun vs H Q E h => ?_) (fun cdv A outer s H vs Q E hr h => ?_)
 · obtain ⟨c, n, rfl, _⟩ := h
   rfl
 obtain ⟨c, n, rfl, q⟩ := h
 refine ⟨_, (zD (zO (i := 2) sc_b.nd rfl (Or.inl rfl) zL) (zD (zO (i := 3) sc_b.nd rfl (Or.inl rfl) zL) (zD (zO (i := 4) sc_b.nd rfl (Or.inl rfl) (zM op_mod (pv 0) (zM op_pow zC zC))) (zD (yT PassesOwn.never rfl (jY rfl bi.range (zA (zM op_add zC (zM op_mod (pv 1) zC)) pa_nil)) (yH (i := 5) sc_b.nd rfl (Or.inl rfl)) (zD (zO (i := 3) sc_b.nd rfl (Or.inl rfl) (zM op_add_str (pv 3) (zZ ix_str (pv 2) (zM op_mod (pv 4) zC) (fun _ _ => rfl)))) (zF (zO (i := 4) sc_b.nd rfl (Or.inl rfl) (zM op_fdiv (pv 4) zC))))) (zD (zY (PW.pt (pw_or (zK op_eq (pv 3) zL (zN _)) (pw_or1 (zK op_eq (pv 3) zL (zN _))))) (zF (zO (i := 3) sc_b.nd rfl (Or.inl rfl) (zM op_add_str (pv 3) zL))) pss_nil) (zF (zP (pv 3)))))))), ?_⟩
 refine zG fun N hN => ?_
 simp only [tSeq, tFor_eq, tLC_eq, iRng1, iRng2, iList, iTup, iStr, tIfS, tRet, tRetN, tNext, tAsg, gName, tVar, tC, tOp, rI0, rI, tTest, tB, rEq, rNe, tCall, tCons, tNil, tCB, tLst, tTup, tAnd, tOr, tNot, tAndV, tOrV, tNotV, tIf, tDrop, tSl, tPart, tNoPart, tChain, tUn, rU, L2.start, cx_K, bk_K, cx_calm, bk_calm, lenV_str, and_assoc, Option.join, List.length_map, List.length_append, decide_eq_true_eq, Bool.false_eq_true, if_false, if_true, Bool.not_true, Bool.not_false, Bool.not_eq_true', decide_eq_false_iff_not, Bool.true_eq_false, List.length_cons, List.length_nil, List.map_cons, List.map_nil, List.replicate, List.cons_append, List.nil_append, List.append_nil, List.getElem?_cons_zero, List.getElem?_cons_succ, List.set_cons_zero, List.set_cons_succ, Nat.reduceSub, Nat.reduceAdd, Option.some.injEq, V.int.injEq, V.str.injEq, V.bl.injEq, V.ref.injEq, List.cons.injEq, and_true, true_and, exists_eq_left', exists_eq_left, exists_and_left, exists_eq_right, exists_const]
 refine hN _ _ ?_
 refine zG fun N hN => ?_
 simp only [tSeq, tFor_eq, tLC_eq, iRng1, iRng2, iList, iTup, iStr, tIfS, tRet, tRetN, tNext, tAsg, gName, tVar, tC, tOp, rI0, rI, tTest, tB, rEq, rNe, tCall, tCons, tNil, tCB, tLst, tTup, tAnd, tOr, tNot, tAndV, tOrV, tNotV, tIf, tDrop, tSl, tPart, tNoPart, tChain, tUn, rU, L2.start, cx_K, bk_K, cx_calm, bk_calm, lenV_str, and_assoc, Option.join, List.length_map, List.length_append, decide_eq_true_eq, Bool.false_eq_true, if_false, if_true, Bool.not_true, Bool.not_false, Bool.not_eq_true', decide_eq_false_iff_not, Bool.true_eq_false, List.length_cons, List.length_nil, List.map_cons, List.map_nil, List.replicate, List.cons_append, List.nil_append, List.append_nil, List.getElem?_cons_zero, List.getElem?_cons_succ, List.set_cons_zero, List.set_cons_succ, Nat.reduceSub, Nat.reduceAdd, Option.some.injEq, V.int.injEq, V.str.injEq, V.bl.injEq, V.ref.injEq, List.cons.injEq, and_true, true_and, exists_eq_left', exists_eq_left, exists_and_left, exists_eq_right, exists_const]
 refine hN _ _ ?_
 refine zG fun N hN => ?_
 simp only [tSeq, tFor_eq, tLC_eq, iRng1, iRng2, iList, iTup, iStr, tIfS, tRet, tRetN, tNext, tAsg, gName, tVar, tC, tOp, rI0, rI, tTest, tB, rEq, rNe, tCall, tCons, tNil, tCB, tLst, tTup, tAnd, tOr, tNot, tAndV, tOrV, tNotV, tIf, tDrop, tSl, tPart, tNoPart, tChain, tUn, rU, L2.start, cx_K, bk_K, cx_calm, bk_calm, lenV_str, and_assoc, Option.join, List.length_map, List.length_append, decide_eq_true_eq, Bool.false_eq_true, if_false, if_true, Bool.not_true, Bool.not_false, Bool.not_eq_true', decide_eq_false_iff_not, Bool.true_eq_false, List.length_cons, List.length_nil, List.map_cons, List.map_nil, List.replicate, List.cons_append, List.nil_append, List.append_nil, List.getElem?_cons_zero, List.getElem?_cons_succ, List.set_cons_zero, List.set_cons_succ, Nat.reduceSub, Nat.reduceAdd, Option.some.injEq, V.int.injEq, V.str.injEq, V.bl.injEq, V.ref.injEq, List.cons.injEq, and_true, true_and, exists_eq_left', exists_eq_left, exists_and_left, exists_eq_right, exists_const]
 refine ⟨⟨by decide, by decide, by decide⟩, by decide, hN _ _ ?_⟩
 generalize c % 26 ^ Int.toNat 8 = r0
 have hm : 0 <= n % 8 /\ n % 8 < 8 := by omega
 have e0 : ("" : Str).cps.toList = [] := by decide +kernel
 refine yA (fun σ H' => H' = H /\ ∃ (z : Str) (a b : Option V), z.length = 1 + (n % 8).toNat /\ (∀ d ∈ z.cps.toList, 97 <= d /\ d <= 122) /\ σ = [some (V.int c), some (V.int n), some (V.str "abcdefghijklmnopqrstuvwxyz"), some (V.str z), a, b]) (fun N hN => ?_) (fun σ H' h => ?_)
 · simp only [tSeq, tFor_eq, tLC_eq, iRng1, iRng2, iList, iTup, iStr, tIfS, tRet, tRetN, tNext, tAsg, gName, tVar, tC, tOp, rI0, rI, tTest, tB, rEq, rNe, tCall, tCons, tNil, tCB, tLst, tTup, tAnd, tOr, tNot, tAndV, tOrV, tNotV, tIf, tDrop, tSl, tPart, tNoPart, tChain, tUn, rU, L2.start, cx_K, bk_K, cx_calm, bk_calm, lenV_str, and_assoc, Option.join, List.length_map, List.length_append, decide_eq_true_eq, Bool.false_eq_true, if_false, if_true, Bool.not_true, Bool.not_false, Bool.not_eq_true', decide_eq_false_iff_not, Bool.true_eq_false, List.length_cons, List.length_nil, List.map_cons, List.map_nil, List.replicate, List.cons_append, List.nil_append, List.append_nil, List.getElem?_cons_zero, List.getElem?_cons_succ, List.set_cons_zero, List.set_cons_succ, Nat.reduceSub, Nat.reduceAdd, Option.some.injEq, V.int.injEq, V.str.injEq, V.bl.injEq, V.ref.injEq, List.cons.injEq, and_true, true_and, exists_eq_left', exists_eq_left, exists_and_left, exists_eq_right, exists_const]
   refine ⟨by decide, by omega, by omega, fw_range (n := (1 + n % 8).toNat) (fun i σ H' => H' = H /\ ∃ (z : Str) (r : Int) (o : Option V), z.length = i /\ (∀ d ∈ z.cps.toList, 97 <= d /\ d <= 122) /\ σ = [some (V.int c), some (V.int n), some (V.str "abcdefghijklmnopqrstuvwxyz"), some (V.str z), some (V.int r), o])
     ⟨rfl, _, _, _, rfl, (fun d hd => by rw [e0] at hd; cases hd), rfl⟩ (fun i σ H' hi e => ?_) (fun σ H' e => ?_)⟩
   · obtain ⟨rfl, z, r, o, hz, hl, rfl⟩ := e
     obtain ⟨d, hd, hd2⟩ := letter_at r
     simp only [tSeq, tFor_eq, tLC_eq, iRng1, iRng2, iList, iTup, iStr, tIfS, tRet, tRetN, tNext, tAsg, gName, tVar, tC, tOp, rI0, rI, tTest, tB, rEq, rNe, tCall, tCons, tNil, tCB, tLst, tTup, tAnd, tOr, tNot, tAndV, tOrV, tNotV, tIf, tDrop, tSl, tPart, tNoPart, tChain, tUn, rU, L2.start, cx_K, bk_K, cx_calm, bk_calm, lenV_str, and_assoc, Option.join, List.length_map, List.length_append, decide_eq_true_eq, Bool.false_eq_true, if_false, if_true, Bool.not_true, Bool.not_false, Bool.not_eq_true', decide_eq_false_iff_not, Bool.true_eq_false, List.length_cons, List.length_nil, List.map_cons, List.map_nil, List.replicate, List.cons_append, List.nil_append, List.append_nil, List.getElem?_cons_zero, List.getElem?_cons_succ, List.set_cons_zero, List.set_cons_succ, Nat.reduceSub, Nat.reduceAdd, Option.some.injEq, V.int.injEq, V.str.injEq, V.bl.injEq, V.ref.injEq, List.cons.injEq, and_true, true_and, exists_eq_left', exists_eq_left, exists_and_left, exists_eq_right, exists_const]
     refine ⟨by decide, _, _, d, rfl, rfl, small (by decide +kernel), hd, ?_⟩
     have e1 : (⟨#[d]⟩ : Str).length = 1 := rfl
     refine ⟨_, rfl, small (by omega), ⟨by decide, by decide⟩, rfl, _, ?_, ?_, rfl, _, rfl⟩
     · rw [len_app, hz, e1]
     · intro d' hd'
       rw [cps_app] at hd'
       rcases List.mem_append.mp hd' with h | h
       · exact hl d' h
       · have h : d' ∈ [d] := h
         rw [List.mem_singleton.mp h]
         exact hd2
   · obtain ⟨rfl, z, r, o, hz, hl, rfl⟩ := e
     exact hN _ _ ⟨rfl, z, _, _, by omega, hl, rfl⟩
 · obtain ⟨rfl, z, a, b, hz, hl, rfl⟩ := h
   refine yA (fun σ H'' => H'' = H' /\ ∃ (z : Str) (a b : Option V), Nm z /\ σ = [some (V.int c), some (V.int n), some (V.str "abcdefghijklmnopqrstuvwxyz"), some (V.str z), a, b]) (fun N hN => ?_) (fun σ H'' h => ?_)
   · simp only [tSeq, tFor_eq, tLC_eq, iRng1, iRng2, iList, iTup, iStr, tIfS, tRet, tRetN, tNext, tAsg, gName, tVar, tC, tOp, rI0, rI, tTest, tB, rEq, rNe, tCall, tCons, tNil, tCB, tLst, tTup, tAnd, tOr, tNot, tAndV, tOrV, tNotV, tIf, tDrop, tSl, tPart, tNoPart, tChain, tUn, rU, L2.start, cx_K, bk_K, cx_calm, bk_calm, lenV_str, and_assoc, Option.join, List.length_map, List.length_append, decide_eq_true_eq, Bool.false_eq_true, if_false, if_true, Bool.not_true, Bool.not_false, Bool.not_eq_true', decide_eq_false_iff_not, Bool.true_eq_false, List.length_cons, List.length_nil, List.map_cons, List.map_nil, List.replicate, List.cons_append, List.nil_append, List.append_nil, List.getElem?_cons_zero, List.getElem?_cons_succ, List.set_cons_zero, List.set_cons_succ, Nat.reduceSub, Nat.reduceAdd, Option.some.injEq, V.int.injEq, V.str.injEq, V.bl.injEq, V.ref.injEq, List.cons.injEq, and_true, true_and, exists_eq_left', exists_eq_left, exists_and_left, exists_eq_right, exists_const]
     refine ⟨rfl, ?_⟩
     have fin : ∀ z : Str, Nm z -> N [some (V.int c), some (V.int n), some (V.str "abcdefghijklmnopqrstuvwxyz"), some (V.str z), a, b] H' := fun z h => hN _ _ ⟨rfl, z, _, _, h, rfl⟩
     split
     · rename_i e
       subst e
       refine ⟨small (by decide +kernel), fin _ ?_⟩
       exact ⟨by decide +kernel, by decide +kernel, by decide +kernel, by decide +kernel, by decide +kernel⟩
     · rename_i e
       refine ⟨rfl, ?_⟩
       split
       · rename_i e
         subst e
         refine ⟨small (by decide +kernel), fin _ ?_⟩
         exact ⟨by decide +kernel, by decide +kernel, by decide +kernel, by decide +kernel, by decide +kernel⟩
       · rename_i e2
         exact fin z ⟨by omega, by omega, hl, e, e2⟩
   · obtain ⟨rfl, z, a, b, hz, rfl⟩ := h
     simp only [tSeq, tFor_eq, tLC_eq, iRng1, iRng2, iList, iTup, iStr, tIfS, tRet, tRetN, tNext, tAsg, gName, tVar, tC, tOp, rI0, rI, tTest, tB, rEq, rNe, tCall, tCons, tNil, tCB, tLst, tTup, tAnd, tOr, tNot, tAndV, tOrV, tNotV, tIf, tDrop, tSl, tPart, tNoPart, tChain, tUn, rU, L2.start, cx_K, bk_K, cx_calm, bk_calm, lenV_str, and_assoc, Option.join, List.length_map, List.length_append, decide_eq_true_eq, Bool.false_eq_true, if_false, if_true, Bool.not_true, Bool.not_false, Bool.not_eq_true', decide_eq_false_iff_not, Bool.true_eq_false, List.length_cons, List.length_nil, List.map_cons, List.map_nil, List.replicate, List.cons_append, List.nil_append, List.append_nil, List.getElem?_cons_zero, List.getElem?_cons_succ, List.set_cons_zero, List.set_cons_succ, Nat.reduceSub, Nat.reduceAdd, Option.some.injEq, V.int.injEq, V.str.injEq, V.bl.injEq, V.ref.injEq, List.cons.injEq, and_true, true_and, exists_eq_left', exists_eq_left, exists_and_left, exists_eq_right, exists_const]
     exact q z hz
theorem ok_pool (bi : Bi mg) (h_c : Has P w K mg base 1 "_law_cell_at" ["script", "k"] (xO K)) (h_b : Has P w K mg base 1 "_law_name_by" ["cell", "size"] spName)
   (F : Fun K "_law_pool" "_law_pool" s_j f fd) : FnOk P w K mg base CX0 2 f fd ["script"] (spPool K) := by
 refine F.ok sc_j (fun vs H Q E h => ?_) (fun cdv A outer s H vs Q E hr h => ?_)
 · obtain ⟨a, ns, rfl, _⟩ := h
   rfl
 obtain ⟨a, ns, rfl, hS, q⟩ := h
 refine ⟨_, (zD (zO (i := 1) sc_j.nd rfl (Or.inl rfl) (zJ h_c (hr.mono (by omega)) rfl (zA (pv 0) (zA zC pa_nil)))) (zD (zO (i := 2) sc_j.nd rfl (Or.inl rfl) (zJ h_c (hr.mono (by omega)) rfl (zA (pv 0) (zA zC pa_nil)))) (zD (zO (i := 3) sc_j.nd rfl (Or.inl rfl) (zJ h_c (hr.mono (by omega)) rfl (zA (pv 0) (zA zC pa_nil)))) (zD (zO (i := 4) sc_j.nd rfl (Or.inl rfl) (xF (zA (zJ h_b (hr.mono (by omega)) rfl (zA (pv 1) (zA (zM op_mod (zM op_fdiv (pv 1) zC) zC) pa_nil))) (zA (zJ h_b (hr.mono (by omega)) rfl (zA (pv 2) (zA (zM op_mod (zM op_fdiv (pv 2) zC) zC) pa_nil))) pa_nil)))) (zD (zY (zK op_eq (zM op_mod (pv 3) zC) zC (zN _)) (zF (zV (yJ PySem.F.plainAttrs_list PySem.F.slot_list_append PySem.F.type_list_append mt_append (pv 4) (zA (zJ h_b (hr.mono (by omega)) rfl (zA (pv 1) (zA (zM op_add (zM op_mod (zM op_fdiv (pv 1) zC) zC) zC) pa_nil))) pa_nil)))) (zF (zV (yJ PySem.F.plainAttrs_list PySem.F.slot_list_append PySem.F.type_list_append mt_append (pv 4) (zA (zJ h_b (hr.mono (by omega)) rfl (zA (zM op_fdiv (pv 3) zC) (zA (zM op_mod (zM op_fdiv (pv 3) zC) zC) pa_nil))) pa_nil))))) (zF (zP (pv 4)))))))), ?_⟩
 refine zG fun N hN => ?_
 simp only [tSeq, tFor_eq, tLC_eq, iRng1, iRng2, iList, iTup, iStr, tIfS, tRet, tRetN, tNext, tAsg, gName, tVar, tC, tOp, rI0, rI, tTest, tB, rEq, rNe, tCall, tCons, tNil, tCB, tLst, tTup, tAnd, tOr, tNot, tAndV, tOrV, tNotV, tIf, tDrop, tSl, tPart, tNoPart, tChain, tUn, rU, L2.start, cx_K, bk_K, cx_calm, bk_calm, lenV_str, and_assoc, Option.join, List.length_map, List.length_append, decide_eq_true_eq, Bool.false_eq_true, if_false, if_true, Bool.not_true, Bool.not_false, Bool.not_eq_true', decide_eq_false_iff_not, Bool.true_eq_false, List.length_cons, List.length_nil, List.map_cons, List.map_nil, List.replicate, List.cons_append, List.nil_append, List.append_nil, List.getElem?_cons_zero, List.getElem?_cons_succ, List.set_cons_zero, List.set_cons_succ, Nat.reduceSub, Nat.reduceAdd, Option.some.injEq, V.int.injEq, V.str.injEq, V.bl.injEq, V.ref.injEq, List.cons.injEq, and_true, true_and, exists_eq_left', exists_eq_left, exists_and_left, exists_eq_right, exists_const, xO]
 refine ⟨ns, 0, rfl, hS, hN _ _ ?_⟩
 refine zG fun N hN => ?_
 simp only [tSeq, tFor_eq, tLC_eq, iRng1, iRng2, iList, iTup, iStr, tIfS, tRet, tRetN, tNext, tAsg, gName, tVar, tC, tOp, rI0, rI, tTest, tB, rEq, rNe, tCall, tCons, tNil, tCB, tLst, tTup, tAnd, tOr, tNot, tAndV, tOrV, tNotV, tIf, tDrop, tSl, tPart, tNoPart, tChain, tUn, rU, L2.start, cx_K, bk_K, cx_calm, bk_calm, lenV_str, and_assoc, Option.join, List.length_map, List.length_append, decide_eq_true_eq, Bool.false_eq_true, if_false, if_true, Bool.not_true, Bool.not_false, Bool.not_eq_true', decide_eq_false_iff_not, Bool.true_eq_false, List.length_cons, List.length_nil, List.map_cons, List.map_nil, List.replicate, List.cons_append, List.nil_append, List.append_nil, List.getElem?_cons_zero, List.getElem?_cons_succ, List.set_cons_zero, List.set_cons_succ, Nat.reduceSub, Nat.reduceAdd, Option.some.injEq, V.int.injEq, V.str.injEq, V.bl.injEq, V.ref.injEq, List.cons.injEq, and_true, true_and, exists_eq_left', exists_eq_left, exists_and_left, exists_eq_right, exists_const, xO]
 refine ⟨ns, 1, rfl, hS, hN _ _ ?_⟩
 refine zG fun N hN => ?_
 simp only [tSeq, tFor_eq, tLC_eq, iRng1, iRng2, iList, iTup, iStr, tIfS, tRet, tRetN, tNext, tAsg, gName, tVar, tC, tOp, rI0, rI, tTest, tB, rEq, rNe, tCall, tCons, tNil, tCB, tLst, tTup, tAnd, tOr, tNot, tAndV, tOrV, tNotV, tIf, tDrop, tSl, tPart, tNoPart, tChain, tUn, rU, L2.start, cx_K, bk_K, cx_calm, bk_calm, lenV_str, and_assoc, Option.join, List.length_map, List.length_append, decide_eq_true_eq, Bool.false_eq_true, if_false, if_true, Bool.not_true, Bool.not_false, Bool.not_eq_true', decide_eq_false_iff_not, Bool.true_eq_false, List.length_cons, List.length_nil, List.map_cons, List.map_nil, List.replicate, List.cons_append, List.nil_append, List.append_nil, List.getElem?_cons_zero, List.getElem?_cons_succ, List.set_cons_zero, List.set_cons_succ, Nat.reduceSub, Nat.reduceAdd, Option.some.injEq, V.int.injEq, V.str.injEq, V.bl.injEq, V.ref.injEq, List.cons.injEq, and_true, true_and, exists_eq_left', exists_eq_left, exists_and_left, exists_eq_right, exists_const, xO]
 refine ⟨ns, 2, rfl, hS, hN _ _ ?_⟩
 generalize ns.getD 0 0 = x0
 generalize ns.getD 1 0 = x1
 generalize ns.getD 2 0 = x2
 refine zG fun N hN => ?_
 simp only [tSeq, tFor_eq, tLC_eq, iRng1, iRng2, iList, iTup, iStr, tIfS, tRet, tRetN, tNext, tAsg, gName, tVar, tC, tOp, rI0, rI, tTest, tB, rEq, rNe, tCall, tCons, tNil, tCB, tLst, tTup, tAnd, tOr, tNot, tAndV, tOrV, tNotV, tIf, tDrop, tSl, tPart, tNoPart, tChain, tUn, rU, L2.start, cx_K, bk_K, cx_calm, bk_calm, lenV_str, and_assoc, Option.join, List.length_map, List.length_append, decide_eq_true_eq, Bool.false_eq_true, if_false, if_true, Bool.not_true, Bool.not_false, Bool.not_eq_true', decide_eq_false_iff_not, Bool.true_eq_false, List.length_cons, List.length_nil, List.map_cons, List.map_nil, List.replicate, List.cons_append, List.nil_append, List.append_nil, List.getElem?_cons_zero, List.getElem?_cons_succ, List.set_cons_zero, List.set_cons_succ, Nat.reduceSub, Nat.reduceAdd, Option.some.injEq, V.int.injEq, V.str.injEq, V.bl.injEq, V.ref.injEq, List.cons.injEq, and_true, true_and, exists_eq_left', exists_eq_left, exists_and_left, exists_eq_right, exists_const, spName]
 refine ⟨⟨by decide, by decide⟩, by decide, fun n1 g1 => ⟨⟨by decide, by decide⟩, by decide, fun n2 g2 => ⟨small (by decide), fun p hp => hN _ _ ?_⟩⟩⟩
 refine yA (fun σ H' => Same H H' /\ Pool K H' p /\ ∃ a b c d : Option V, σ = [a, b, c, d, some (V.ref p)]) (fun N hN => ?_) (fun σ H' h => ?_)
 · simp only [tSeq, tFor_eq, tLC_eq, iRng1, iRng2, iList, iTup, iStr, tIfS, tRet, tRetN, tNext, tAsg, gName, tVar, tC, tOp, rI0, rI, tTest, tB, rEq, rNe, tCall, tCons, tNil, tCB, tLst, tTup, tAnd, tOr, tNot, tAndV, tOrV, tNotV, tIf, tDrop, tSl, tPart, tNoPart, tChain, tUn, rU, L2.start, cx_K, bk_K, cx_calm, bk_calm, lenV_str, and_assoc, Option.join, List.length_map, List.length_append, decide_eq_true_eq, Bool.false_eq_true, if_false, if_true, Bool.not_true, Bool.not_false, Bool.not_eq_true', decide_eq_false_iff_not, Bool.true_eq_false, List.length_cons, List.length_nil, List.map_cons, List.map_nil, List.replicate, List.cons_append, List.nil_append, List.append_nil, List.getElem?_cons_zero, List.getElem?_cons_succ, List.set_cons_zero, List.set_cons_succ, Nat.reduceSub, Nat.reduceAdd, Option.some.injEq, V.int.injEq, V.str.injEq, V.bl.injEq, V.ref.injEq, List.cons.injEq, and_true, true_and, exists_eq_left', exists_eq_left, exists_and_left, exists_eq_right, exists_const, spName]
   have fin : ∀ n3 : Str, Nm n3 -> Same H (upd (upd H p (HO.lst [V.str n1, V.str n2])) p (HO.lst ([V.str n1, V.str n2] ++ [V.str n3]))) /\ Pool K (upd (upd H p (HO.lst [V.str n1, V.str n2])) p (HO.lst ([V.str n1, V.str n2] ++ [V.str n3]))) p := fun n3 g3 => by
     rw [qK]
     exact ⟨zE hp _, n1, n2, n3, g1, g2, g3, zB⟩
   have ty : tyV K "list" (V.ref p) (upd H p (HO.lst [V.str n1, V.str n2])) := .inl ⟨rfl, _, SqL.of zB⟩
   refine ⟨by decide, rfl, ?_⟩
   split
   · refine ⟨_, rfl, ty, ?_⟩
     simp only [tSeq, tFor_eq, tLC_eq, iRng1, iRng2, iList, iTup, iStr, tIfS, tRet, tRetN, tNext, tAsg, gName, tVar, tC, tOp, rI0, rI, tTest, tB, rEq, rNe, tCall, tCons, tNil, tCB, tLst, tTup, tAnd, tOr, tNot, tAndV, tOrV, tNotV, tIf, tDrop, tSl, tPart, tNoPart, tChain, tUn, rU, L2.start, cx_K, bk_K, cx_calm, bk_calm, lenV_str, and_assoc, Option.join, List.length_map, List.length_append, decide_eq_true_eq, Bool.false_eq_true, if_false, if_true, Bool.not_true, Bool.not_false, Bool.not_eq_true', decide_eq_false_iff_not, Bool.true_eq_false, List.length_cons, List.length_nil, List.map_cons, List.map_nil, List.replicate, List.cons_append, List.nil_append, List.append_nil, List.getElem?_cons_zero, List.getElem?_cons_succ, List.set_cons_zero, List.set_cons_succ, Nat.reduceSub, Nat.reduceAdd, Option.some.injEq, V.int.injEq, V.str.injEq, V.bl.injEq, V.ref.injEq, List.cons.injEq, and_true, true_and, exists_eq_left', exists_eq_left, exists_and_left, exists_eq_right, exists_const, spName]
     refine ⟨⟨by decide, by decide⟩, by decide, fun n3 g3 => ?_⟩
     exact ⟨p, _, _, rfl, rfl, zB, (by show 2 < sizeLine; decide), hN _ _ ⟨(fin n3 g3).1, (fin n3 g3).2, _, _, _, _, rfl⟩⟩
   · refine ⟨_, rfl, ty, ?_⟩
     simp only [tSeq, tFor_eq, tLC_eq, iRng1, iRng2, iList, iTup, iStr, tIfS, tRet, tRetN, tNext, tAsg, gName, tVar, tC, tOp, rI0, rI, tTest, tB, rEq, rNe, tCall, tCons, tNil, tCB, tLst, tTup, tAnd, tOr, tNot, tAndV, tOrV, tNotV, tIf, tDrop, tSl, tPart, tNoPart, tChain, tUn, rU, L2.start, cx_K, bk_K, cx_calm, bk_calm, lenV_str, and_assoc, Option.join, List.length_map, List.length_append, decide_eq_true_eq, Bool.false_eq_true, if_false, if_true, Bool.not_true, Bool.not_false, Bool.not_eq_true', decide_eq_false_iff_not, Bool.true_eq_false, List.length_cons, List.length_nil, List.map_cons, List.map_nil, List.replicate, List.cons_append, List.nil_append, List.append_nil, List.getElem?_cons_zero, List.getElem?_cons_succ, List.set_cons_zero, List.set_cons_succ, Nat.reduceSub, Nat.reduceAdd, Option.some.injEq, V.int.injEq, V.str.injEq, V.bl.injEq, V.ref.injEq, List.cons.injEq, and_true, true_and, exists_eq_left', exists_eq_left, exists_and_left, exists_eq_right, exists_const, spName]
     refine ⟨⟨by decide, by decide⟩, ⟨by decide, by decide⟩, by decide, fun n3 g3 => ?_⟩
     exact ⟨p, _, _, rfl, rfl, zB, (by show 2 < sizeLine; decide), hN _ _ ⟨(fin n3 g3).1, (fin n3 g3).2, _, _, _, _, rfl⟩⟩
 · obtain ⟨e, hp2, a', b, c, d, rfl⟩ := h
   simp only [tSeq, tFor_eq, tLC_eq, iRng1, iRng2, iList, iTup, iStr, tIfS, tRet, tRetN, tNext, tAsg, gName, tVar, tC, tOp, rI0, rI, tTest, tB, rEq, rNe, tCall, tCons, tNil, tCB, tLst, tTup, tAnd, tOr, tNot, tAndV, tOrV, tNotV, tIf, tDrop, tSl, tPart, tNoPart, tChain, tUn, rU, L2.start, cx_K, bk_K, cx_calm, bk_calm, lenV_str, and_assoc, Option.join, List.length_map, List.length_append, decide_eq_true_eq, Bool.false_eq_true, if_false, if_true, Bool.not_true, Bool.not_false, Bool.not_eq_true', decide_eq_false_iff_not, Bool.true_eq_false, List.length_cons, List.length_nil, List.map_cons, List.map_nil, List.replicate, List.cons_append, List.nil_append, List.append_nil, List.getElem?_cons_zero, List.getElem?_cons_succ, List.set_cons_zero, List.set_cons_succ, Nat.reduceSub, Nat.reduceAdd, Option.some.injEq, V.int.injEq, V.str.injEq, V.bl.injEq, V.ref.injEq, List.cons.injEq, and_true, true_and, exists_eq_left', exists_eq_left, exists_and_left, exists_eq_right, exists_const]
   exact q p H' e hp2
theorem ok_leaf (bi : Bi mg) (F : Fun K "_law_leaf" "_law_leaf" s_k f fd) : FnOk P w K mg base CX0 1 f fd ["cell", "pool"] (spLeaf K) := by
 refine F.ok sc_k (fun vs H Q E h => ?_) (fun cdv A outer s H vs Q E hr h => ?_)
 · obtain ⟨c, p, rfl, _⟩ := h
   rfl
 obtain ⟨c, p, rfl, ⟨x, y, z, gx, gy, gz, hp⟩, q⟩ := h
 refine ⟨_, (zD (zO (i := 2) sc_k.nd rfl (Or.inl rfl) (zM op_mod (pv 0) zC)) (zD (zY (zK op_eq (pv 2) zC (zN _)) (zF (zP (zS (zA zL pa_nil)))) pss_nil) (zD (zY (zK op_eq (pv 2) zC (zN _)) (zF (zP (zS (zA zL pa_nil)))) pss_nil) (zF (zP (zS (zA zL (zA (zZ ix_list (pv 1) (zM op_mod (zM op_fdiv (pv 0) zC) (yB call_len rfl bi.len bt_len (zA (pv 1) pa_nil))) (fun _ _ => rfl)) pa_nil)))))))), ?_⟩
 have leaf : ∀ (w : Str), Sh w 0 -> ∀ a, H a = none -> Q (.ref a) (upd H a (.tup [.str w])) := fun w hw a ha =>
   q (.ref a) (.node w []) _ (zE ha _) (TAt.mkNode zB rfl) ⟨hw, rfl⟩ rfl
 refine zG fun N hN => ?_
 simp only [tSeq, tFor_eq, tLC_eq, iRng1, iRng2, iList, iTup, iStr, tIfS, tRet, tRetN, tNext, tAsg, gName, tVar, tC, tOp, rI0, rI, tTest, tB, rEq, rNe, tCall, tCons, tNil, tCB, tLst, tTup, tAnd, tOr, tNot, tAndV, tOrV, tNotV, tIf, tDrop, tSl, tPart, tNoPart, tChain, tUn, rU, L2.start, cx_K, bk_K, cx_calm, bk_calm, lenV_str, and_assoc, Option.join, List.length_map, List.length_append, decide_eq_true_eq, Bool.false_eq_true, if_false, if_true, Bool.not_true, Bool.not_false, Bool.not_eq_true', decide_eq_false_iff_not, Bool.true_eq_false, List.length_cons, List.length_nil, List.map_cons, List.map_nil, List.replicate, List.cons_append, List.nil_append, List.append_nil, List.getElem?_cons_zero, List.getElem?_cons_succ, List.set_cons_zero, List.set_cons_succ, Nat.reduceSub, Nat.reduceAdd, Option.some.injEq, V.int.injEq, V.str.injEq, V.bl.injEq, V.ref.injEq, List.cons.injEq, and_true, true_and, exists_eq_left', exists_eq_left, exists_and_left, exists_eq_right, exists_const]
 refine ⟨by decide, hN _ _ ?_⟩
 simp only [tSeq, tFor_eq, tLC_eq, iRng1, iRng2, iList, iTup, iStr, tIfS, tRet, tRetN, tNext, tAsg, gName, tVar, tC, tOp, rI0, rI, tTest, tB, rEq, rNe, tCall, tCons, tNil, tCB, tLst, tTup, tAnd, tOr, tNot, tAndV, tOrV, tNotV, tIf, tDrop, tSl, tPart, tNoPart, tChain, tUn, rU, L2.start, cx_K, bk_K, cx_calm, bk_calm, lenV_str, and_assoc, Option.join, List.length_map, List.length_append, decide_eq_true_eq, Bool.false_eq_true, if_false, if_true, Bool.not_true, Bool.not_false, Bool.not_eq_true', decide_eq_false_iff_not, Bool.true_eq_false, List.length_cons, List.length_nil, List.map_cons, List.map_nil, List.replicate, List.cons_append, List.nil_append, List.append_nil, List.getElem?_cons_zero, List.getElem?_cons_succ, List.set_cons_zero, List.set_cons_succ, Nat.reduceSub, Nat.reduceAdd, Option.some.injEq, V.int.injEq, V.str.injEq, V.bl.injEq, V.ref.injEq, List.cons.injEq, and_true, true_and, exists_eq_left', exists_eq_left, exists_and_left, exists_eq_right, exists_const]
 refine ⟨rfl, ?_⟩
 split
 · exact ⟨small (by decide), fun a ha => leaf _ (.inl ⟨rfl, rfl⟩) a ha⟩
 refine ⟨rfl, ?_⟩
 split
 · exact ⟨small (by decide), fun a ha => leaf _ (.inr (.inl ⟨rfl, rfl⟩)) a ha⟩
 refine ⟨⟨by decide, by decide⟩, 3, .inl ⟨_, SqL.of hp, rfl⟩, by decide, ?_⟩
 obtain ⟨n, gn, hn⟩ : ∃ n : Str, Nm n /\ atI [V.str x, V.str y, V.str z] (c / 8 % 3) = some (.str n) := by
   have h3 : 0 <= c / 8 % 3 /\ c / 8 % 3 < 3 := by omega
   generalize c / 8 % 3 = k at h3
   have : k = 0 \/ k = 1 \/ k = 2 := by omega
   rcases this with rfl | rfl | rfl
   · exact ⟨x, gx, rfl⟩
   · exact ⟨y, gy, rfl⟩
   · exact ⟨z, gz, rfl⟩
 refine ⟨p, _, _, _, rfl, rfl, SqL.of hp, hn, small (by decide), fun a ha => ?_⟩
 exact q (.ref a) (.name n) _ (zE ha _) (TAt.mkName zB) gn rfl
end
def FD : List Tm -> List Int -> Prop
 | [], ds => ds = []
 | t :: ts, ds => ∃ d r, ds = d :: r /\ 0 <= d /\ d <= 17 /\ Fit d.toNat t /\ FD ts r
theorem FD.length : ∀ {ts : List Tm} {ds : List Int}, FD ts ds -> ds.length = ts.length
 | [], ds, h => by
   have h : ds = [] := h
   rw [h]
   rfl
 | t :: ts, ds, h => by
   obtain ⟨d, r, e, _, _, _, h⟩ := h
   rw [e, List.length_cons, List.length_cons, FD.length h]
theorem FD.append : ∀ {ts us : List Tm} {ds es : List Int}, FD ts ds -> FD us es -> FD (ts ++ us) (ds ++ es)
 | [], us, ds, es, h, h' => by
   have h : ds = [] := h
   subst h
   exact h'
 | t :: ts, us, ds, es, h, h' => by
   obtain ⟨d, r, e, a, b, c, h⟩ := h
   subst e
   exact ⟨d, r ++ es, rfl, a, b, c, FD.append h h'⟩
theorem FD.take : ∀ {ts : List Tm} {ds : List Int} (n : Nat), FD ts ds -> FD (ts.take n) (ds.take n)
 | ts, ds, 0, _ => rfl
 | [], ds, n + 1, h => by
   have h : ds = [] := h
   subst h
   rfl
 | t :: ts, ds, n + 1, h => by
   obtain ⟨d, r, e, a, b, c, h⟩ := h
   subst e
   exact ⟨d, r.take n, rfl, a, b, c, FD.take n h⟩
theorem FD.drop : ∀ {ts : List Tm} {ds : List Int} (n : Nat), FD ts ds -> FD (ts.drop n) (ds.drop n)
 | ts, ds, 0, h => by simpa using h
 | [], ds, n + 1, h => by
   have h : ds = [] := h
   subst h
   rfl
 | t :: ts, ds, n + 1, h => by
   obtain ⟨d, r, e, a, b, c, h⟩ := h
   subst e
   simpa using FD.drop n h
theorem FD.one {t : Tm} {d : Int} (h0 : 0 <= d) (h1 : d <= 17) (h : Fit d.toNat t) : FD [t] [d] := ⟨d, [], rfl, h0, h1, h, rfl⟩
theorem FD.fit : ∀ {ts : List Tm} {ds : List Int} {t : Tm}, FD ts ds -> t ∈ ts -> ∃ d ∈ ds, 0 <= d /\ d <= 17 /\ Fit d.toNat t
 | u :: ts, ds, t, h, ht => by
   obtain ⟨d, r, e, a, b, c, h⟩ := h
   subst e
   rcases List.mem_cons.mp ht with rfl | ht
   · exact ⟨d, by simp, a, b, c⟩
   · obtain ⟨d', h1, h2⟩ := FD.fit h ht
     exact ⟨d', by simp [h1], h2⟩
structure StkAt (H : Hp) (sa da : Addr) (ts : List Tm) (ds : List Int) : Prop where
 ne : sa ≠ da
 st : ∃ vs, H sa = some (.lst vs) /\ TAts H ts vs
 dp : H da = some (.lst (ds.map V.int))
 fd : FD ts ds
def StkInv (H : Hp) (c p : Addr) (m : Nat) (σ : St) (H' : Hp) : Prop := Same H H' /\ ∃ (sa da : Addr) (ts : List Tm) (ds : List Int) (o1 o2 o3 o4 : Option V), H sa = none /\ H da = none /\ StkAt H' sa da ts ds /\ wts ts <= m /\ σ = [some (V.ref c), some (V.ref p), some (V.ref sa), some (V.ref da), o1, o2, o3, o4]
theorem StkAt.same {H H' : Hp} {sa da : Addr} {ts : List Tm} {ds : List Int} (e : Same H H') (h : StkAt H sa da ts ds) : StkAt H' sa da ts ds := by
 obtain ⟨vs, h1, h2⟩ := h.st
 exact ⟨h.ne, ⟨vs, e _ _ h1, TAts.tups e.tups h2⟩, e _ _ h.dp, h.fd⟩
theorem qO {α : Type} {l : List α} (h : l ≠ []) : ∃ r x, l = r ++ [x] := ⟨l.dropLast, l.getLast h, (List.dropLast_concat_getLast h).symm⟩
theorem jX {α : Type} (r : List α) (x : α) : (r ++ [x])[(r ++ [x]).length - 1]? = some x := by
 rw [List.length_append, List.length_singleton, Nat.add_sub_cancel, List.getElem?_append_right (Nat.le_refl _), Nat.sub_self]
 rfl
theorem StkAt.top {H : Hp} {sa da : Addr} {ts : List Tm} {ds : List Int} (h : StkAt H sa da ts ds) (hne : ts ≠ []) :
   ∃ ts' t ds' d vs' v, ts = ts' ++ [t] /\ ds = ds' ++ [d] /\ H sa = some (.lst (vs' ++ [v])) /\ TAts H ts' vs' /\ TAt H t v /\ FD ts' ds' /\ 0 <= d /\ d <= 17 /\ Fit d.toNat t := by
 obtain ⟨ts', t, rfl⟩ := qO hne
 obtain ⟨vs, h1, h2⟩ := h.st
 have hl := h2.length
 have hd := h.fd.length
 have hvs : vs ≠ [] := by intro z; subst z; simp at hl
 have hds : ds ≠ [] := by intro z; subst z; simp at hd
 obtain ⟨vs', v, rfl⟩ := qO hvs
 obtain ⟨ds', d, rfl⟩ := qO hds
 have l1 : vs'.length = ts'.length := by simpa using hl
 have l2 : ds'.length = ts'.length := by simpa using hd
 have a1 := TAts.take ts'.length h2
 have a2 := TAts.drop ts'.length h2
 have b1 := FD.take ts'.length h.fd
 have b2 := FD.drop ts'.length h.fd
 rw [List.take_left, ← l1, List.take_left] at a1
 rw [List.drop_left, ← l1, List.drop_left] at a2
 rw [List.take_left, ← l2, List.take_left] at b1
 rw [List.drop_left, ← l2, List.drop_left] at b2
 obtain ⟨u, r, e1, e2, e3⟩ := a2
 obtain ⟨d', r', e4, p1, p2, p3, p4⟩ := b2
 cases e1; cases e4
 exact ⟨ts', t, ds', d, vs', v, rfl, rfl, h1, a1, e2, b1, p1, p2, p3⟩
theorem last_int (ds' : List Int) (d : Int) : atI ((ds' ++ [d]).map V.int) (-1) = some (.int d) := by
 rw [List.map_append]
 exact atI_last _ _
theorem jO (xs : List V) (k : Nat) (h1 : 1 <= k) (h : k <= xs.length) : yM xs (some (-(k : Int))) none = xs.drop (xs.length - k) := by
 unfold yM
 have e : HT.sIx xs.length 0 (some (-(k : Int))) = xs.length - k := by
   unfold HT.sIx
   simp only
   rw [if_pos (by omega)]
   omega
 rw [e, HT.sIx_none, List.take_of_length_le (by rw [List.length_drop]; omega)]
theorem cut_init (xs : List V) (k : Nat) (h1 : 1 <= k) (h : k <= xs.length) : yM xs none (some (-(k : Int))) = xs.take (xs.length - k) := by
 unfold yM
 have e : HT.sIx xs.length xs.length (some (-(k : Int))) = xs.length - k := by
   unfold HT.sIx
   simp only
   rw [if_pos (by omega)]
   omega
 rw [e, HT.sIx_none, List.drop_zero, Nat.sub_zero]
section
variable {P : Program} {w : World} {K : PySem.W.Frag} {mg : Str -> Option Value} {base : Heap} {f : Addr} {fd : FuncData}
theorem ok_stack (bi : Bi mg) (h_k : Has P w K mg base 1 "_law_leaf" ["cell", "pool"] (spLeaf K))
   (F : Fun K "_law_stack" "_law_stack" s_g f fd) : FnOk P w K mg base CX0 2 f fd ["cells", "pool"] (qN K) := by
 refine F.ok sc_g (fun vs H Q E h => ?_) (fun cdv A outer s H vs Q E hr h => ?_)
 · obtain ⟨c, p, ns, rfl, _⟩ := h
   rfl
 obtain ⟨c, p, ns, rfl, hS, h63, hP, q⟩ := h
 refine ⟨_, (zD (zO (i := 2) sc_g.nd rfl (Or.inl rfl) (xF pa_nil)) (zD (zO (i := 3) sc_g.nd rfl (Or.inl rfl) (xF pa_nil)) (zD (yT PassesOwn.never rfl (jA (pv 0)) (yH (i := 4) sc_g.nd rfl (Or.inl rfl)) (zD (zO (i := 5) sc_g.nd rfl (Or.inl rfl) (zM op_mod (pv 4) zC)) (zF (zY (PW.pt (xP (zK op_eq (pv 5) zC (zN _)) (xP (zK op_gt (yB call_len rfl bi.len bt_len (zA (pv 2) pa_nil)) zC (zN _)) (qR (zK op_lt (zZ ix_list (pv 3) (pe_un un_neg zC) (fun _ _ => rfl)) zC (zN _)))))) (zD (zV (yJ PySem.F.plainAttrs_list PySem.F.slot_list_append PySem.F.type_list_append mt_append (pv 2) (zA (zS (zA zL (zA (pe_bm0 PySem.F.plainAttrs_list PySem.F.slot_list_pop PySem.F.type_list_pop mt_pop (pv 2)) pa_nil))) pa_nil))) (zF (zV (yJ PySem.F.plainAttrs_list PySem.F.slot_list_append PySem.F.type_list_append mt_append (pv 3) (zA (zM op_add (pe_bm0 PySem.F.plainAttrs_list PySem.F.slot_list_pop PySem.F.type_list_pop mt_pop (pv 3)) zC) pa_nil))))) (zF (zY (PW.pt (xP (zK op_lt (pv 5) zC (zN _)) (xP (zK op_gt (pv 5) zC (zN _)) (xP (zK op_gt (yB call_len rfl bi.len bt_len (zA (pv 2) pa_nil)) (zM op_add (zM op_fdiv (pv 5) zC) zC) (zN _)) (qR (zK op_lt (yB call_maxI rfl bi.max bt_max (zA (yC sl_list (pv 3) (yE (zM op_sub (zM op_sub zC zC) (zM op_fdiv (pv 5) zC))) po_none) pa_nil)) zC (zN _))))))) (zD (zO (i := 6) sc_g.nd rfl (Or.inl rfl) (yC sl_list (pv 2) (yE (zM op_sub (zM op_sub zC zC) (zM op_fdiv (pv 5) zC))) po_none)) (zD (zO (i := 7) sc_g.nd rfl (Or.inl rfl) (yB call_maxI rfl bi.max bt_max (zA (yC sl_list (pv 3) (yE (zM op_sub (zM op_sub zC zC) (zM op_fdiv (pv 5) zC))) po_none) pa_nil))) (zD (zO (i := 2) sc_g.nd rfl (Or.inl rfl) (zM op_cat (yC sl_list (pv 2) po_none (yE (zM op_sub (zM op_sub zC zC) (zM op_fdiv (pv 5) zC)))) (xF (zA (zM op_catT (zS (zA (zZ ix_list (xF (zA zL (zA zL pa_nil))) (zM op_mod (pv 5) zC) (fun _ _ => rfl)) pa_nil)) (yQ call_tuple_of rfl bi.tuple bt_tuple (zA (pv 6) pa_nil))) pa_nil)))) (zF (zO (i := 3) sc_g.nd rfl (Or.inl rfl) (zM op_cat (yC sl_list (pv 3) po_none (yE (zM op_sub (zM op_sub zC zC) (zM op_fdiv (pv 5) zC)))) (xF (zA (zM op_add (pv 7) zC) pa_nil)))))))) (zD (zV (yJ PySem.F.plainAttrs_list PySem.F.slot_list_append PySem.F.type_list_append mt_append (pv 2) (zA (zJ h_k (hr.mono (by omega)) rfl (zA (zM op_fdiv (pv 4) zC) (zA (pv 1) pa_nil))) pa_nil))) (zF (zV (yJ PySem.F.plainAttrs_list PySem.F.slot_list_append PySem.F.type_list_append mt_append (pv 3) (zA zC pa_nil))))))))))) (zD (zY (zK op_eq (yB call_len rfl bi.len bt_len (zA (pv 2) pa_nil)) zC (zN _)) (zF (zV (yJ PySem.F.plainAttrs_list PySem.F.slot_list_append PySem.F.type_list_append mt_append (pv 2) (zA (zS (zA zL pa_nil)) pa_nil)))) pss_nil) (zF (zP (pv 2))))))), ?_⟩
 refine zG fun N hN => ?_
 simp only [tSeq, tFor_eq, tLC_eq, iRng1, iRng2, iList, iTup, iStr, tIfS, tRet, tRetN, tNext, tAsg, gName, tVar, tC, tOp, rI0, rI, tTest, tB, rEq, rNe, tCall, tCons, tNil, tCB, tLst, tTup, tAnd, tOr, tNot, tAndV, tOrV, tNotV, tIf, tDrop, tSl, tPart, tNoPart, tChain, tUn, rU, L2.start, cx_K, bk_K, cx_calm, bk_calm, lenV_str, and_assoc, Option.join, List.length_map, List.length_append, decide_eq_true_eq, Bool.false_eq_true, if_false, if_true, Bool.not_true, Bool.not_false, Bool.not_eq_true', decide_eq_false_iff_not, Bool.true_eq_false, List.length_cons, List.length_nil, List.map_cons, List.map_nil, List.replicate, List.cons_append, List.nil_append, List.append_nil, List.getElem?_cons_zero, List.getElem?_cons_succ, List.set_cons_zero, List.set_cons_succ, Nat.reduceSub, Nat.reduceAdd, Option.some.injEq, V.int.injEq, V.str.injEq, V.bl.injEq, V.ref.injEq, List.cons.injEq, and_true, true_and, exists_eq_left', exists_eq_left, exists_and_left, exists_eq_right, exists_const]
 refine ⟨small (by decide), fun sa0 hsa0 => hN _ _ ?_⟩
 refine zG fun N hN => ?_
 simp only [tSeq, tFor_eq, tLC_eq, iRng1, iRng2, iList, iTup, iStr, tIfS, tRet, tRetN, tNext, tAsg, gName, tVar, tC, tOp, rI0, rI, tTest, tB, rEq, rNe, tCall, tCons, tNil, tCB, tLst, tTup, tAnd, tOr, tNot, tAndV, tOrV, tNotV, tIf, tDrop, tSl, tPart, tNoPart, tChain, tUn, rU, L2.start, cx_K, bk_K, cx_calm, bk_calm, lenV_str, and_assoc, Option.join, List.length_map, List.length_append, decide_eq_true_eq, Bool.false_eq_true, if_false, if_true, Bool.not_true, Bool.not_false, Bool.not_eq_true', decide_eq_false_iff_not, Bool.true_eq_false, List.length_cons, List.length_nil, List.map_cons, List.map_nil, List.replicate, List.cons_append, List.nil_append, List.append_nil, List.getElem?_cons_zero, List.getElem?_cons_succ, List.set_cons_zero, List.set_cons_succ, Nat.reduceSub, Nat.reduceAdd, Option.some.injEq, V.int.injEq, V.str.injEq, V.bl.injEq, V.ref.injEq, List.cons.injEq, and_true, true_and, exists_eq_left', exists_eq_left, exists_and_left, exists_eq_right, exists_const]
 refine ⟨small (by decide), fun da0 hda0 => hN _ _ ?_⟩
 have nda0 : H da0 = none := (zE hsa0 _).free hda0
 refine yA (StkInv H c p ns.length) (fun N hN => ?_) (fun σ H' h => ?_)
 · simp only [tSeq, tFor_eq, tLC_eq, iRng1, iRng2, iList, iTup, iStr, tIfS, tRet, tRetN, tNext, tAsg, gName, tVar, tC, tOp, rI0, rI, tTest, tB, rEq, rNe, tCall, tCons, tNil, tCB, tLst, tTup, tAnd, tOr, tNot, tAndV, tOrV, tNotV, tIf, tDrop, tSl, tPart, tNoPart, tChain, tUn, rU, L2.start, cx_K, bk_K, cx_calm, bk_calm, lenV_str, and_assoc, Option.join, List.length_map, List.length_append, decide_eq_true_eq, Bool.false_eq_true, if_false, if_true, Bool.not_true, Bool.not_false, Bool.not_eq_true', decide_eq_false_iff_not, Bool.true_eq_false, List.length_cons, List.length_nil, List.map_cons, List.map_nil, List.replicate, List.cons_append, List.nil_append, List.append_nil, List.getElem?_cons_zero, List.getElem?_cons_succ, List.set_cons_zero, List.set_cons_succ, Nat.reduceSub, Nat.reduceAdd, Option.some.injEq, V.int.injEq, V.str.injEq, V.bl.injEq, V.ref.injEq, List.cons.injEq, and_true, true_and, exists_eq_left', exists_eq_left, exists_and_left, exists_eq_right, exists_const]
   refine ⟨⟨_, Same.seq ((zE hsa0 _).trans (zE hda0 _)) hS⟩, ?_⟩
   refine uA (xs := ns.map V.int) (StkInv H c p) ?_ (fun i σ H' _ h => Same.seq h.1 hS) (fun i x σ H' hx h => ?_) (fun σ H' h => ?_)
   · have hne : sa0 ≠ da0 := zU zB hda0
     exact ⟨(zE hsa0 _).trans (zE hda0 _), sa0, da0, [], [], _, _, _, _, hsa0, nda0, ⟨hne, ⟨[], by rw [zH hne]; exact zB, rfl⟩, zB, rfl⟩, Nat.le_refl _, rfl⟩
   · obtain ⟨hs, sa, da, ts, ds, o1, o2, o3, o4, nsa, nda, sk, hw, rfl⟩ := h
     obtain ⟨n, hn, rfl⟩ : ∃ n, ns[i]? = some n /\ x = .int n := by
       rw [List.getElem?_map] at hx
       cases e : ns[i]? with
       | none => rw [e] at hx; cases hx
       | some n => rw [e] at hx; cases hx; exact ⟨n, rfl, rfl⟩
     have hi63 : i < 63 := by have := (List.getElem?_eq_some_iff.mp hn).1; omega
     have hll := wts_len ts
     have hdl := sk.fd.length
     show tSeq _ _ _ _ _
     refine zG fun N hN => ?_
     simp only [tSeq, tFor_eq, tLC_eq, iRng1, iRng2, iList, iTup, iStr, tIfS, tRet, tRetN, tNext, tAsg, gName, tVar, tC, tOp, rI0, rI, tTest, tB, rEq, rNe, tCall, tCons, tNil, tCB, tLst, tTup, tAnd, tOr, tNot, tAndV, tOrV, tNotV, tIf, tDrop, tSl, tPart, tNoPart, tChain, tUn, rU, L2.start, cx_K, bk_K, cx_calm, bk_calm, lenV_str, and_assoc, Option.join, List.length_map, List.length_append, decide_eq_true_eq, Bool.false_eq_true, if_false, if_true, Bool.not_true, Bool.not_false, Bool.not_eq_true', decide_eq_false_iff_not, Bool.true_eq_false, List.length_cons, List.length_nil, List.map_cons, List.map_nil, List.replicate, List.cons_append, List.nil_append, List.append_nil, List.getElem?_cons_zero, List.getElem?_cons_succ, List.set_cons_zero, List.set_cons_succ, Nat.reduceSub, Nat.reduceAdd, Option.some.injEq, V.int.injEq, V.str.injEq, V.bl.injEq, V.ref.injEq, List.cons.injEq, and_true, true_and, exists_eq_left', exists_eq_left, exists_and_left, exists_eq_right, exists_const]
     refine ⟨by decide, hN _ _ ?_⟩
     refine if_abs fun T U hT hU => ?_
     have fin : ∀ {H1 : Hp} {sa da : Addr} {ts : List Tm} {ds : List Int} {o1 o2 o3 o4 : Option V}, Same H H1 -> H sa = none -> H da = none -> StkAt H1 sa da ts ds -> wts ts <= i + 1 ->
         StkInv H c p (i + 1) [some (V.ref c), some (V.ref p), some (V.ref sa), some (V.ref da), o1, o2, o3, o4] H1 :=
       fun a b d e g => ⟨a, _, _, _, _, _, _, _, _, b, d, e, g, rfl⟩
     have hT' : ∀ H1, Same H' H1 -> ts ≠ [] -> (∀ ds' d, ds = ds' ++ [d] -> d < 17) -> T H1 := by
       intro H1 e1 hne hd17
       refine hT H1 ?_
       obtain ⟨ts', t, ds', d, vs', v, rfl, rfl, hsv, hts', htv, hfd', d0, d1, ft⟩ := (sk.same e1).top hne
       have d17 := hd17 ds' d rfl
       refine zG fun N hN => ?_
       simp only [tSeq, tFor_eq, tLC_eq, iRng1, iRng2, iList, iTup, iStr, tIfS, tRet, tRetN, tNext, tAsg, gName, tVar, tC, tOp, rI0, rI, tTest, tB, rEq, rNe, tCall, tCons, tNil, tCB, tLst, tTup, tAnd, tOr, tNot, tAndV, tOrV, tNotV, tIf, tDrop, tSl, tPart, tNoPart, tChain, tUn, rU, L2.start, cx_K, bk_K, cx_calm, bk_calm, lenV_str, and_assoc, Option.join, List.length_map, List.length_append, decide_eq_true_eq, Bool.false_eq_true, if_false, if_true, Bool.not_true, Bool.not_false, Bool.not_eq_true', decide_eq_false_iff_not, Bool.true_eq_false, List.length_cons, List.length_nil, List.map_cons, List.map_nil, List.replicate, List.cons_append, List.nil_append, List.append_nil, List.getElem?_cons_zero, List.getElem?_cons_succ, List.set_cons_zero, List.set_cons_succ, Nat.reduceSub, Nat.reduceAdd, Option.some.injEq, V.int.injEq, V.str.injEq, V.bl.injEq, V.ref.injEq, List.cons.injEq, and_true, true_and, exists_eq_left', exists_eq_left, exists_and_left, exists_eq_right, exists_const, tBM, tBM0, rAppend, rPop, rIxL, rIxT, rIxS, rSlL, rSlT, rSlS, rCat, rCatT]
       refine ⟨.inl ⟨rfl, _, SqL.of hsv⟩, .inl ⟨rfl, _, SqL.of hsv⟩, _, hsv, v, jX _ _, small (by decide), fun q1 hq1 => ?_⟩
       rw [List.dropLast_concat] at hq1 ⊢
       have nq : q1 ≠ sa := fun z => by rw [z, zB] at hq1; cases hq1
       have hq1' : H1 q1 = none := by rw [zH nq] at hq1; exact hq1
       refine ⟨vs', by rw [zH (Ne.symm nq)]; exact zB, ?_, hN _ _ ?_⟩
       · have := hts'.length
         rw [List.length_append, List.length_singleton] at hll
         exact zR (by omega)
       simp only [tSeq, tFor_eq, tLC_eq, iRng1, iRng2, iList, iTup, iStr, tIfS, tRet, tRetN, tNext, tAsg, gName, tVar, tC, tOp, rI0, rI, tTest, tB, rEq, rNe, tCall, tCons, tNil, tCB, tLst, tTup, tAnd, tOr, tNot, tAndV, tOrV, tNotV, tIf, tDrop, tSl, tPart, tNoPart, tChain, tUn, rU, L2.start, cx_K, bk_K, cx_calm, bk_calm, lenV_str, and_assoc, Option.join, List.length_map, List.length_append, decide_eq_true_eq, Bool.false_eq_true, if_false, if_true, Bool.not_true, Bool.not_false, Bool.not_eq_true', decide_eq_false_iff_not, Bool.true_eq_false, List.length_cons, List.length_nil, List.map_cons, List.map_nil, List.replicate, List.cons_append, List.nil_append, List.append_nil, List.getElem?_cons_zero, List.getElem?_cons_succ, List.set_cons_zero, List.set_cons_succ, Nat.reduceSub, Nat.reduceAdd, Option.some.injEq, V.int.injEq, V.str.injEq, V.bl.injEq, V.ref.injEq, List.cons.injEq, and_true, true_and, exists_eq_left', exists_eq_left, exists_and_left, exists_eq_right, exists_const, tBM, tBM0, rAppend, rPop, rIxL, rIxT, rIxS, rSlL, rSlT, rSlS, rCat, rCatT]
       have hda : H1 da = some (.lst ((ds' ++ [d]).map V.int)) := (sk.same e1).dp
       have nqa : da ≠ q1 := zU hda hq1'
       have hda2 : upd (upd (upd H1 sa (.lst vs')) q1 (.tup [.str "not", v])) sa (.lst (vs' ++ [.ref q1])) da = some (.lst (ds'.map V.int ++ [V.int d])) := by
         rw [zH (Ne.symm sk.ne), zH nqa, zH (Ne.symm sk.ne), hda, List.map_append]
         rfl
       refine ⟨.inl ⟨rfl, _, SqL.of hda2⟩, .inl ⟨rfl, _, SqL.of hda2⟩, _, hda2, _, jX _ _, _, rfl, ds'.map V.int, by rw [List.dropLast_concat]; exact zB, ?_, ?_⟩
       · rw [List.length_append, List.length_singleton] at hdl hll
         rw [List.length_map]
         have : ds'.length = ts'.length := by
           have := hfd'.length
           omega
         rw [List.length_append, List.length_singleton] at hdl
         exact zR (by omega)
       rw [qK]
       have tA : TupSame H1 (upd H1 sa (.lst vs')) := (TupSame.refl _).upd_lst hsv
       have tB : TupSame H1 (upd (upd H1 sa (.lst vs')) q1 (.tup [.str "not", v])) := tA.upd_new hq1
       have hsa3 : upd (upd H1 sa (.lst vs')) q1 (.tup [.str "not", v]) sa = some (.lst vs') := by rw [zH (Ne.symm nq)]; exact zB
       have tC : TupSame H1 (upd (upd (upd H1 sa (.lst vs')) q1 (.tup [.str "not", v])) sa (.lst (vs' ++ [.ref q1]))) := tB.upd_lst hsa3
       have tD := tC.upd_lst (o := .lst (ds'.map V.int ++ [V.int (d + 1)])) hda2
       have hH1 : Same H H1 := hs.trans e1
       have sm : Same H (upd (upd (upd (upd H1 sa (.lst vs')) q1 (.tup [.str "not", v])) sa (.lst (vs' ++ [.ref q1]))) da (.lst (ds'.map V.int ++ [V.int (d + 1)]))) := (((hH1.upd nsa).upd (hH1.free hq1')).upd nsa).upd nda
       refine fin sm nsa nda (ts := ts' ++ [.node "not" [t]]) (ds := ds' ++ [d + 1]) ⟨sk.ne, ⟨vs' ++ [.ref q1], by rw [zH sk.ne]; exact zB, ?_⟩, by rw [zB, List.map_append]; rfl, ?_⟩ ?_
       · refine TAts.append (TAts.tups tD hts') (TAts.one (TAt.mkNode (vs := [v]) ?_ (TAts.one (TAt.tups tD htv))))
         rw [zH (Ne.symm nqa), zH nq]
         exact zB
       · refine FD.append hfd' (FD.one (by omega) (by omega) ?_)
         rw [show (d + 1).toNat = d.toNat + 1 by omega]
         refine ⟨.inr (.inr (.inl ⟨rfl, rfl⟩)), fun u hu => ?_⟩
         rw [List.mem_singleton.mp hu]
         exact ft
       · rw [wts_append] at hw ⊢
         rw [wts, wts] at hw
         rw [wts, wts, wt, wts, wts]
         omega
     have hU' : ∀ H1, Same H' H1 -> U H1 := by
       intro H1 e1
       refine hU H1 ?_
       refine if_abs fun T2 U2 hT2 hU2 => ?_
       have hU2' : ∀ H2, Same H' H2 -> U2 H2 := by
         intro H2 e2
         refine hU2 H2 ?_
         have sk2 := sk.same e2
         obtain ⟨vs, hsv, hts⟩ := sk2.st
         have hlv := hts.length
         refine zG fun N hN => ?_
         simp only [tSeq, tFor_eq, tLC_eq, iRng1, iRng2, iList, iTup, iStr, tIfS, tRet, tRetN, tNext, tAsg, gName, tVar, tC, tOp, rI0, rI, tTest, tB, rEq, rNe, tCall, tCons, tNil, tCB, tLst, tTup, tAnd, tOr, tNot, tAndV, tOrV, tNotV, tIf, tDrop, tSl, tPart, tNoPart, tChain, tUn, rU, L2.start, cx_K, bk_K, cx_calm, bk_calm, lenV_str, and_assoc, Option.join, List.length_map, List.length_append, decide_eq_true_eq, Bool.false_eq_true, if_false, if_true, Bool.not_true, Bool.not_false, Bool.not_eq_true', decide_eq_false_iff_not, Bool.true_eq_false, List.length_cons, List.length_nil, List.map_cons, List.map_nil, List.replicate, List.cons_append, List.nil_append, List.append_nil, List.getElem?_cons_zero, List.getElem?_cons_succ, List.set_cons_zero, List.set_cons_succ, Nat.reduceSub, Nat.reduceAdd, Option.some.injEq, V.int.injEq, V.str.injEq, V.bl.injEq, V.ref.injEq, List.cons.injEq, and_true, true_and, exists_eq_left', exists_eq_left, exists_and_left, exists_eq_right, exists_const, tBM, tBM0, rAppend, rPop, rIxL, rIxT, rIxS, rSlL, rSlT, rSlS, rCat, rCatT, spLeaf]
         refine ⟨.inl ⟨rfl, _, SqL.of hsv⟩, ⟨by decide, by decide⟩, Pool.same (hs.trans e2) hP, fun v t H3 e3 htv ft wt1 => ⟨vs, e3 _ _ hsv, zR (by omega), hN _ _ ?_⟩⟩
         simp only [tSeq, tFor_eq, tLC_eq, iRng1, iRng2, iList, iTup, iStr, tIfS, tRet, tRetN, tNext, tAsg, gName, tVar, tC, tOp, rI0, rI, tTest, tB, rEq, rNe, tCall, tCons, tNil, tCB, tLst, tTup, tAnd, tOr, tNot, tAndV, tOrV, tNotV, tIf, tDrop, tSl, tPart, tNoPart, tChain, tUn, rU, L2.start, cx_K, bk_K, cx_calm, bk_calm, lenV_str, and_assoc, Option.join, List.length_map, List.length_append, decide_eq_true_eq, Bool.false_eq_true, if_false, if_true, Bool.not_true, Bool.not_false, Bool.not_eq_true', decide_eq_false_iff_not, Bool.true_eq_false, List.length_cons, List.length_nil, List.map_cons, List.map_nil, List.replicate, List.cons_append, List.nil_append, List.append_nil, List.getElem?_cons_zero, List.getElem?_cons_succ, List.set_cons_zero, List.set_cons_succ, Nat.reduceSub, Nat.reduceAdd, Option.some.injEq, V.int.injEq, V.str.injEq, V.bl.injEq, V.ref.injEq, List.cons.injEq, and_true, true_and, exists_eq_left', exists_eq_left, exists_and_left, exists_eq_right, exists_const, tBM, tBM0, rAppend, rPop, rIxL, rIxT, rIxS, rSlL, rSlT, rSlS, rCat, rCatT]
         have hda : upd H3 sa (.lst (vs ++ [v])) da = some (.lst (ds.map V.int)) := by rw [zH (Ne.symm sk.ne)]; exact e3 _ _ sk2.dp
         refine ⟨.inl ⟨rfl, _, SqL.of hda⟩, _, hda, by rw [List.length_map]; exact zR (by omega), ?_⟩
         have sm : Same H (upd (upd H3 sa (.lst (vs ++ [v]))) da (.lst (ds.map V.int ++ [V.int 0]))) := (((hs.trans e2).trans e3).upd nsa).upd nda
         have tu : TupSame H3 (upd (upd H3 sa (.lst (vs ++ [v]))) da (.lst (ds.map V.int ++ [V.int 0]))) := ((TupSame.refl _).upd_lst (e3 _ _ hsv)).upd_lst hda
         refine fin sm nsa nda (ts := ts ++ [t]) (ds := ds ++ [0]) ⟨sk.ne, ⟨vs ++ [v], by rw [zH sk.ne]; exact zB, ?_⟩, by rw [zB, List.map_append]; rfl, FD.append sk.fd (FD.one (by omega) (by omega) (show Fit (Int.toNat 0) t from ft))⟩ ?_
         · exact TAts.append (TAts.tups (e3.tups.trans tu) hts) (TAts.one (TAt.tups tu htv))
         · rw [wts_append, wts, wts, wt1]
           omega
       have hT2' : ∀ H2, Same H' H2 -> ∀ k : Nat, (k = 2 \/ k = 3) -> 0 - 2 - n % 9 / 3 = -(k : Int) -> k <= ts.length -> maxI (ds.drop (ds.length - k)) < 17 -> T2 H2 := by
         intro H2 e2 k hk2 hke hk hmx
         refine hT2 H2 ?_
         have sk2 := sk.same e2
         obtain ⟨vs, hsv, hts⟩ := sk2.st
         have hlv := hts.length
         have hlm : (ds.map V.int).length = ds.length := List.length_map _
         have cv : yM (ds.map V.int) (some (-(k : Int))) none = (ds.drop (ds.length - k)).map V.int := by rw [jO _ k (by omega) (by omega), hlm, List.map_drop]
         have cs : yM vs (some (-(k : Int))) none = vs.drop (vs.length - k) := jO _ k (by omega) (by omega)
         have dne : ds.drop (ds.length - k) ≠ [] := by
           intro z
           have := congrArg List.length z
           rw [List.length_drop, List.length_nil] at this
           omega
         refine zG fun N hN => ?_
         simp only [tSeq, tFor_eq, tLC_eq, iRng1, iRng2, iList, iTup, iStr, tIfS, tRet, tRetN, tNext, tAsg, gName, tVar, tC, tOp, rI0, rI, tTest, tB, rEq, rNe, tCall, tCons, tNil, tCB, tLst, tTup, tAnd, tOr, tNot, tAndV, tOrV, tNotV, tIf, tDrop, tSl, tPart, tNoPart, tChain, tUn, rU, L2.start, cx_K, bk_K, cx_calm, bk_calm, lenV_str, and_assoc, Option.join, List.length_map, List.length_append, decide_eq_true_eq, Bool.false_eq_true, if_false, if_true, Bool.not_true, Bool.not_false, Bool.not_eq_true', decide_eq_false_iff_not, Bool.true_eq_false, List.length_cons, List.length_nil, List.map_cons, List.map_nil, List.replicate, List.cons_append, List.nil_append, List.append_nil, List.getElem?_cons_zero, List.getElem?_cons_succ, List.set_cons_zero, List.set_cons_succ, Nat.reduceSub, Nat.reduceAdd, Option.some.injEq, V.int.injEq, V.str.injEq, V.bl.injEq, V.ref.injEq, List.cons.injEq, and_true, true_and, exists_eq_left', exists_eq_left, exists_and_left, exists_eq_right, exists_const, tBM, tBM0, rAppend, rPop, rIxL, rIxT, rIxS, rSlL, rSlT, rSlS, rCat, rCatT]
         refine ⟨⟨by decide, by decide⟩, vs, SqL.of hsv, fun pa hpa => hN _ _ ?_⟩
         rw [hke, cs]
         refine zG fun N hN => ?_
         simp only [tSeq, tFor_eq, tLC_eq, iRng1, iRng2, iList, iTup, iStr, tIfS, tRet, tRetN, tNext, tAsg, gName, tVar, tC, tOp, rI0, rI, tTest, tB, rEq, rNe, tCall, tCons, tNil, tCB, tLst, tTup, tAnd, tOr, tNot, tAndV, tOrV, tNotV, tIf, tDrop, tSl, tPart, tNoPart, tChain, tUn, rU, L2.start, cx_K, bk_K, cx_calm, bk_calm, lenV_str, and_assoc, Option.join, List.length_map, List.length_append, decide_eq_true_eq, Bool.false_eq_true, if_false, if_true, Bool.not_true, Bool.not_false, Bool.not_eq_true', decide_eq_false_iff_not, Bool.true_eq_false, List.length_cons, List.length_nil, List.map_cons, List.map_nil, List.replicate, List.cons_append, List.nil_append, List.append_nil, List.getElem?_cons_zero, List.getElem?_cons_succ, List.set_cons_zero, List.set_cons_succ, Nat.reduceSub, Nat.reduceAdd, Option.some.injEq, V.int.injEq, V.str.injEq, V.bl.injEq, V.ref.injEq, List.cons.injEq, and_true, true_and, exists_eq_left', exists_eq_left, exists_and_left, exists_eq_right, exists_const, tBM, tBM0, rAppend, rPop, rIxL, rIxT, rIxS, rSlL, rSlT, rSlS, rCat, rCatT]
         have eA : Same H2 (upd H2 pa (.lst (vs.drop (vs.length - k)))) := zE hpa _
         refine ⟨⟨by decide, by decide⟩, _, SqL.of (eA _ _ sk2.dp), fun pb hpb => ?_⟩
         rw [hke, cv]
         refine ⟨_, SqL.of zB, dne, hN _ _ ?_⟩
         have eB : Same H2 (upd (upd H2 pa (.lst (vs.drop (vs.length - k)))) pb (.lst ((ds.drop (ds.length - k)).map V.int))) := eA.trans (zE hpb _)
         generalize hH3 : upd (upd H2 pa (.lst (vs.drop (vs.length - k)))) pb (.lst ((ds.drop (ds.length - k)).map V.int)) = H3 at eB
         have hpa3 : H3 pa = some (.lst (vs.drop (vs.length - k))) := by rw [← hH3, zH (zU zB hpb)]; exact zB
         have ci : yM vs none (some (-(k : Int))) = vs.take (vs.length - k) := cut_init _ k (by omega) (by omega)
         have cd : yM (ds.map V.int) none (some (-(k : Int))) = (ds.take (ds.length - k)).map V.int := by rw [cut_init _ k (by omega) (by omega), hlm, List.map_take]
         refine zG fun N hN => ?_
         simp only [tSeq, tFor_eq, tLC_eq, iRng1, iRng2, iList, iTup, iStr, tIfS, tRet, tRetN, tNext, tAsg, gName, tVar, tC, tOp, rI0, rI, tTest, tB, rEq, rNe, tCall, tCons, tNil, tCB, tLst, tTup, tAnd, tOr, tNot, tAndV, tOrV, tNotV, tIf, tDrop, tSl, tPart, tNoPart, tChain, tUn, rU, L2.start, cx_K, bk_K, cx_calm, bk_calm, lenV_str, and_assoc, Option.join, List.length_map, List.length_append, decide_eq_true_eq, Bool.false_eq_true, if_false, if_true, Bool.not_true, Bool.not_false, Bool.not_eq_true', decide_eq_false_iff_not, Bool.true_eq_false, List.length_cons, List.length_nil, List.map_cons, List.map_nil, List.replicate, List.cons_append, List.nil_append, List.append_nil, List.getElem?_cons_zero, List.getElem?_cons_succ, List.set_cons_zero, List.set_cons_succ, Nat.reduceSub, Nat.reduceAdd, Option.some.injEq, V.int.injEq, V.str.injEq, V.bl.injEq, V.ref.injEq, List.cons.injEq, and_true, true_and, exists_eq_left', exists_eq_left, exists_and_left, exists_eq_right, exists_const, tBM, tBM0, rAppend, rPop, rIxL, rIxT, rIxS, rSlL, rSlT, rSlS, rCat, rCatT]
         refine ⟨⟨by decide, by decide⟩, vs, SqL.of (eB _ _ hsv), fun p1 hp1 => ⟨small (by decide), fun p2 hp2 => ⟨by decide, ?_⟩⟩⟩
         rw [hke, ci] at hp2 ⊢
         have e4 : Same H3 (upd H3 p1 (.lst (vs.take (vs.length - k)))) := zE hp1 _
         have hp1a : upd H3 p1 (.lst (vs.take (vs.length - k))) p1 = some (.lst (vs.take (vs.length - k))) := zB
         generalize upd H3 p1 (.lst (vs.take (vs.length - k))) = H4 at hp2 e4 hp1a ⊢
         obtain ⟨wd, hwd, hwi⟩ : ∃ wd : Str, (wd = "both" \/ wd = "either") /\ atI [V.str "both", V.str "either"] (n % 9 % 2) = some (.str wd) := by
           have h2 : 0 <= n % 9 % 2 /\ n % 9 % 2 < 2 := by omega
           generalize n % 9 % 2 = j at h2
           have : j = 0 \/ j = 1 := by omega
           rcases this with rfl | rfl
           · exact ⟨"both", .inl rfl, rfl⟩
           · exact ⟨"either", .inr rfl, rfl⟩
         refine ⟨_, SqL.of zB, _, hwi, small (by decide), fun p3 hp3 => ?_⟩
         have e5 : Same H4 (upd H4 p2 (.lst [.str "both", .str "either"])) := zE hp2 _
         generalize upd H4 p2 (.lst [.str "both", .str "either"]) = H5 at hp3 e5 ⊢
         have e6 : Same H5 (upd H5 p3 (.tup [.str wd])) := zE hp3 _
         have h63' : upd H5 p3 (.tup [.str wd]) p3 = some (.tup [.str wd]) := zB
         generalize upd H5 p3 (.tup [.str wd]) = H6 at e6 h63' ⊢
         have e36 : Same H3 H6 := (e4.trans e5).trans e6
         refine ⟨vs.drop (vs.length - k), .inl ⟨SqL.of (e36 _ _ hpa3), fun p4 hp4 => ?_⟩⟩
         have e7 : Same H6 (upd H6 p4 (.tup (vs.drop (vs.length - k)))) := zE hp4 _
         have h74 : upd H6 p4 (.tup (vs.drop (vs.length - k))) p4 = some (.tup (vs.drop (vs.length - k))) := zB
         generalize upd H6 p4 (.tup (vs.drop (vs.length - k))) = H7 at e7 h74 ⊢
         have vl : (vs.drop (vs.length - k)).length = k := by rw [List.length_drop]; omega
         refine ⟨_, SqT.of (e7 _ _ h63'), _, SqT.of h74, by simp, small (by rw [List.length_singleton, vl]; omega), fun z => ?_, fun _ p5 hp5 => ?_⟩
         · rw [z] at vl
           simp at vl
           omega
         have e8 : Same H7 (upd H7 p5 (.tup ([.str wd] ++ vs.drop (vs.length - k)))) := zE hp5 _
         have h85 : upd H7 p5 (.tup ([.str wd] ++ vs.drop (vs.length - k))) p5 = some (.tup (.str wd :: vs.drop (vs.length - k))) := zB
         generalize upd H7 p5 (.tup ([.str wd] ++ vs.drop (vs.length - k))) = H8 at e8 h85 ⊢
         refine ⟨small (by decide), fun p6 hp6 => ?_⟩
         have e9 : Same H8 (upd H8 p6 (.lst [.ref p5])) := zE hp6 _
         have h96 : upd H8 p6 (.lst [.ref p5]) p6 = some (.lst [.ref p5]) := zB
         generalize upd H8 p6 (.lst [.ref p5]) = H9 at e9 h96 ⊢
         have e49 : Same H4 H9 := (((e5.trans e6).trans e7).trans e8).trans e9
         refine ⟨_, e49 _ _ hp1a, _, h96, small (by rw [List.length_take, List.length_singleton]; omega), fun p7 hp7 => hN _ _ ?_⟩
         have e10 : Same H9 (upd H9 p7 (.lst (vs.take (vs.length - k) ++ [.ref p5]))) := zE hp7 _
         have h107 : upd H9 p7 (.lst (vs.take (vs.length - k) ++ [.ref p5])) p7 = some (.lst (vs.take (vs.length - k) ++ [.ref p5])) := zB
         have n7 : H p7 = none := ((((hs.trans e2).trans eB).trans e4).trans e49).free hp7
         generalize upd H9 p7 (.lst (vs.take (vs.length - k) ++ [.ref p5])) = H10 at e10 h107 ⊢
         have e2_10 : Same H2 H10 := ((eB.trans e4).trans e49).trans e10
         simp only [tSeq, tFor_eq, tLC_eq, iRng1, iRng2, iList, iTup, iStr, tIfS, tRet, tRetN, tNext, tAsg, gName, tVar, tC, tOp, rI0, rI, tTest, tB, rEq, rNe, tCall, tCons, tNil, tCB, tLst, tTup, tAnd, tOr, tNot, tAndV, tOrV, tNotV, tIf, tDrop, tSl, tPart, tNoPart, tChain, tUn, rU, L2.start, cx_K, bk_K, cx_calm, bk_calm, lenV_str, and_assoc, Option.join, List.length_map, List.length_append, decide_eq_true_eq, Bool.false_eq_true, if_false, if_true, Bool.not_true, Bool.not_false, Bool.not_eq_true', decide_eq_false_iff_not, Bool.true_eq_false, List.length_cons, List.length_nil, List.map_cons, List.map_nil, List.replicate, List.cons_append, List.nil_append, List.append_nil, List.getElem?_cons_zero, List.getElem?_cons_succ, List.set_cons_zero, List.set_cons_succ, Nat.reduceSub, Nat.reduceAdd, Option.some.injEq, V.int.injEq, V.str.injEq, V.bl.injEq, V.ref.injEq, List.cons.injEq, and_true, true_and, exists_eq_left', exists_eq_left, exists_and_left, exists_eq_right, exists_const, tBM, tBM0, rAppend, rPop, rIxL, rIxT, rIxS, rSlL, rSlT, rSlS, rCat, rCatT]
         refine ⟨⟨by decide, by decide⟩, _, SqL.of (e2_10 _ _ sk2.dp), fun p8 hp8 => ?_⟩
         rw [hke, cd]
         have e11 : Same H10 (upd H10 p8 (.lst ((ds.take (ds.length - k)).map V.int))) := zE hp8 _
         have h118 : upd H10 p8 (.lst ((ds.take (ds.length - k)).map V.int)) p8 = some (.lst ((ds.take (ds.length - k)).map V.int)) := zB
         generalize upd H10 p8 (.lst ((ds.take (ds.length - k)).map V.int)) = H11 at e11 h118 ⊢
         refine ⟨small (by decide), fun p9 hp9 => ?_⟩
         have e12 : Same H11 (upd H11 p9 (.lst [.int (maxI (ds.drop (ds.length - k)) + 1)])) := zE hp9 _
         have h129 : upd H11 p9 (.lst [.int (maxI (ds.drop (ds.length - k)) + 1)]) p9 = some (.lst [.int (maxI (ds.drop (ds.length - k)) + 1)]) := zB
         generalize upd H11 p9 (.lst [.int (maxI (ds.drop (ds.length - k)) + 1)]) = H12 at e12 h129 ⊢
         refine ⟨_, e12 _ _ h118, _, h129, small (by rw [List.length_map, List.length_take, List.length_singleton]; omega), fun p10 hp10 => ?_⟩
         have e13 : Same H12 (upd H12 p10 (.lst ((ds.take (ds.length - k)).map V.int ++ [.int (maxI (ds.drop (ds.length - k)) + 1)]))) := zE hp10 _
         have h1310 : upd H12 p10 (.lst ((ds.take (ds.length - k)).map V.int ++ [.int (maxI (ds.drop (ds.length - k)) + 1)])) p10 = some (.lst ((ds.take (ds.length - k)).map V.int ++ [.int (maxI (ds.drop (ds.length - k)) + 1)])) := zB
         have h7_12 : H12 p7 = some (.lst (vs.take (vs.length - k) ++ [.ref p5])) := (e11.trans e12) _ _ h107
         have n710 : p7 ≠ p10 := zU h7_12 hp10
         have eH : Same H H12 := (((hs.trans e2).trans e2_10).trans e11).trans e12
         generalize upd H12 p10 (.lst ((ds.take (ds.length - k)).map V.int ++ [.int (maxI (ds.drop (ds.length - k)) + 1)])) = H13 at e13 h1310 ⊢
         have e2_13 : Same H2 H13 := ((e2_10.trans e11).trans e12).trans e13
         have mge : ∀ d ∈ ds.drop (ds.length - k), d <= maxI (ds.drop (ds.length - k)) := fun d hd => maxI_ge hd
         have mnn : 0 <= maxI (ds.drop (ds.length - k)) := by
           have hm := maxI_mem dne
           have fdd := FD.drop (ds.length - k) sk2.fd
           have : ∀ {ts : List Tm} {ds : List Int} {d : Int}, FD ts ds -> d ∈ ds -> 0 <= d := by
             intro ts
             induction ts with
             | nil => intro ds d h hd; have h : ds = [] := h; rw [h] at hd; cases hd
             | cons t ts ih =>
               intro ds d h hd
               obtain ⟨d', r, e, a, b, c, h⟩ := h
               subst e
               rcases List.mem_cons.mp hd with rfl | hd
               · exact a
               · exact ih h hd
           exact this fdd hm
         have hdts : ds.length = ts.length := hdl
         refine fin (eH.trans e13) n7 (eH.free hp10) (ts := ts.take (ts.length - k) ++ [.node wd (ts.drop (ts.length - k))]) (ds := ds.take (ds.length - k) ++ [maxI (ds.drop (ds.length - k)) + 1])
           ⟨n710, ⟨_, e13 _ _ h7_12, ?_⟩, by rw [h1310, List.map_append]; rfl, ?_⟩ ?_
         · rw [hlv]
           refine TAts.append (TAts.take _ (TAts.tups e2_13.tups hts)) (TAts.one (TAt.mkNode (vs := vs.drop (vs.length - k)) ?_ ?_))
           · exact (((((e9.trans e10).trans e11).trans e12).trans e13) _ _ h85)
           · rw [hlv]
             exact TAts.drop _ (TAts.tups e2_13.tups hts)
         · rw [hdts]
           refine FD.append (FD.take _ sk2.fd) (FD.one (by rw [← hdts]; omega) (by rw [← hdts]; omega) ?_)
           rw [show (maxI (ds.drop (ts.length - k)) + 1).toNat = (maxI (ds.drop (ts.length - k))).toNat + 1 by rw [← hdts]; omega]
           refine ⟨?_, fun u hu => ?_⟩
           · have hl2 : 2 <= (ts.drop (ts.length - k)).length := by rw [List.length_drop]; omega
             rcases hwd with h | h
             · exact .inr (.inr (.inr (.inl ⟨h, hl2⟩)))
             · exact .inr (.inr (.inr (.inr ⟨h, hl2⟩)))
           obtain ⟨d, hd, d0, d1, fu⟩ := FD.fit (FD.drop (ts.length - k) sk2.fd) hu
           have := mge d (by rw [hdts]; exact hd)
           rw [hdts] at this
           exact fu.mono (by omega)
         · have e := wts_append (ts.take (ts.length - k)) (ts.drop (ts.length - k))
           rw [List.take_append_drop] at e
           rw [wts_append, wts, wts, wt]
           omega
       simp only [tSeq, tFor_eq, tLC_eq, iRng1, iRng2, iList, iTup, iStr, tIfS, tRet, tRetN, tNext, tAsg, gName, tVar, tC, tOp, rI0, rI, tTest, tB, rEq, rNe, tCall, tCons, tNil, tCB, tLst, tTup, tAnd, tOr, tNot, tAndV, tOrV, tNotV, tIf, tDrop, tSl, tPart, tNoPart, tChain, tUn, rU, L2.start, cx_K, bk_K, cx_calm, bk_calm, lenV_str, and_assoc, Option.join, List.length_map, List.length_append, decide_eq_true_eq, Bool.false_eq_true, if_false, if_true, Bool.not_true, Bool.not_false, Bool.not_eq_true', decide_eq_false_iff_not, Bool.true_eq_false, List.length_cons, List.length_nil, List.map_cons, List.map_nil, List.replicate, List.cons_append, List.nil_append, List.append_nil, List.getElem?_cons_zero, List.getElem?_cons_succ, List.set_cons_zero, List.set_cons_succ, Nat.reduceSub, Nat.reduceAdd, Option.some.injEq, V.int.injEq, V.str.injEq, V.bl.injEq, V.ref.injEq, List.cons.injEq, and_true, true_and, exists_eq_left', exists_eq_left, exists_and_left, exists_eq_right, exists_const, tBM, tBM0, rAppend, rPop, rIxL, rIxT, rIxS, rSlL, rSlT, rSlS, rCat, rCatT]
       have sk1 := sk.same e1
       obtain ⟨vs, hsv, hts⟩ := sk1.st
       have hlv := hts.length
       split
       · rename_i h5
         split
         · rename_i h0
           obtain ⟨k, hk2, hke⟩ : ∃ k : Nat, (k = 2 \/ k = 3) /\ 0 - 2 - n % 9 / 3 = -(k : Int) := by
             have : n % 9 / 3 = 0 \/ n % 9 / 3 = 1 := by omega
             rcases this with h | h
             · exact ⟨2, .inl rfl, by omega⟩
             · exact ⟨3, .inr rfl, by omega⟩
           refine ⟨_, .inl ⟨_, SqL.of hsv, rfl⟩, ⟨by decide, by decide⟩, ?_⟩
           split
           · rename_i hlen
             have hk : k <= ts.length := by omega
             have hlm : (ds.map V.int).length = ds.length := List.length_map _
             have cv : yM (ds.map V.int) (some (-(k : Int))) none = (ds.drop (ds.length - k)).map V.int := by rw [jO _ k (by omega) (by omega), hlm, List.map_drop]
             refine ⟨⟨by decide, by decide⟩, _, SqL.of sk1.dp, fun p1 hp1 => ?_⟩
             rw [hke, cv]
             refine ⟨_, SqL.of zB, ?_, ?_⟩
             · intro z
               have := congrArg List.length z
               rw [List.length_drop, List.length_nil] at this
               omega
             · split
               · rename_i hm
                 exact hT2' _ (e1.trans (zE hp1 _)) k hk2 hke hk hm
               · exact hU2' _ (e1.trans (zE hp1 _))
           · exact hU2' _ e1
         · exact hU2' _ e1
       · exact hU2' _ e1
     simp only [tSeq, tFor_eq, tLC_eq, iRng1, iRng2, iList, iTup, iStr, tIfS, tRet, tRetN, tNext, tAsg, gName, tVar, tC, tOp, rI0, rI, tTest, tB, rEq, rNe, tCall, tCons, tNil, tCB, tLst, tTup, tAnd, tOr, tNot, tAndV, tOrV, tNotV, tIf, tDrop, tSl, tPart, tNoPart, tChain, tUn, rU, L2.start, cx_K, bk_K, cx_calm, bk_calm, lenV_str, and_assoc, Option.join, List.length_map, List.length_append, decide_eq_true_eq, Bool.false_eq_true, if_false, if_true, Bool.not_true, Bool.not_false, Bool.not_eq_true', decide_eq_false_iff_not, Bool.true_eq_false, List.length_cons, List.length_nil, List.map_cons, List.map_nil, List.replicate, List.cons_append, List.nil_append, List.append_nil, List.getElem?_cons_zero, List.getElem?_cons_succ, List.set_cons_zero, List.set_cons_succ, Nat.reduceSub, Nat.reduceAdd, Option.some.injEq, V.int.injEq, V.str.injEq, V.bl.injEq, V.ref.injEq, List.cons.injEq, and_true, true_and, exists_eq_left', exists_eq_left, exists_and_left, exists_eq_right, exists_const, tBM, tBM0, rAppend, rPop, rIxL, rIxT, rIxS, rSlL, rSlT, rSlS, rCat, rCatT]
     obtain ⟨vs, hsv, hts⟩ := sk.st
     have hlv := hts.length
     refine ⟨rfl, ?_⟩
     split
     · refine ⟨_, .inl ⟨_, SqL.of hsv, rfl⟩, ?_⟩
       split
       · rename_i hpos
         have hne : ts ≠ [] := by intro z; subst z; rw [hlv] at hpos; exact absurd hpos (by decide)
         obtain ⟨ts', t, ds', d, vs', v, e1, e2, hsv', hts', htv, hfd', d0, d1, ft⟩ := sk.top hne
         refine ⟨_, SqL.of sk.dp, .int d, by rw [e2]; exact last_int _ _, d, rfl, ?_⟩
         split
         · rename_i h17
           refine hT' _ (Same.refl _) hne fun ds'' d'' e3 => ?_
           have e4 := e2.symm.trans e3
           have e5 := List.append_inj_right' e4 rfl
           cases e5
           exact h17
         · exact hU' _ (Same.refl _)
       · exact hU' _ (Same.refl _)
     · exact hU' _ (Same.refl _)
   · obtain ⟨hs, sa, da, ts, ds, o1, o2, o3, o4, nsa, nda, sk, hw, rfl⟩ := h
     rw [List.length_map] at hw
     exact hN _ _ ⟨hs, sa, da, ts, ds, _, _, _, _, nsa, nda, sk, hw, rfl⟩
 · obtain ⟨hs, sa, da, ts, ds, o1, o2, o3, o4, nsa, nda, sk, hw, rfl⟩ := h
   obtain ⟨vs, hsv, hts⟩ := sk.st
   have hlv := hts.length
   have f17 : ∀ t ∈ ts, Fit 17 t := fun t ht => by
     obtain ⟨d, _, d0, d1, h⟩ := sk.fd.fit ht
     exact h.mono (by omega)
   simp only [tSeq, tFor_eq, tLC_eq, iRng1, iRng2, iList, iTup, iStr, tIfS, tRet, tRetN, tNext, tAsg, gName, tVar, tC, tOp, rI0, rI, tTest, tB, rEq, rNe, tCall, tCons, tNil, tCB, tLst, tTup, tAnd, tOr, tNot, tAndV, tOrV, tNotV, tIf, tDrop, tSl, tPart, tNoPart, tChain, tUn, rU, L2.start, cx_K, bk_K, cx_calm, bk_calm, lenV_str, and_assoc, Option.join, List.length_map, List.length_append, decide_eq_true_eq, Bool.false_eq_true, if_false, if_true, Bool.not_true, Bool.not_false, Bool.not_eq_true', decide_eq_false_iff_not, Bool.true_eq_false, List.length_cons, List.length_nil, List.map_cons, List.map_nil, List.replicate, List.cons_append, List.nil_append, List.append_nil, List.getElem?_cons_zero, List.getElem?_cons_succ, List.set_cons_zero, List.set_cons_succ, Nat.reduceSub, Nat.reduceAdd, Option.some.injEq, V.int.injEq, V.str.injEq, V.bl.injEq, V.ref.injEq, List.cons.injEq, and_true, true_and, exists_eq_left', exists_eq_left, exists_and_left, exists_eq_right, exists_const, tBM, tBM0, rAppend, rPop, rIxL, rIxT, rIxS, rSlL, rSlT, rSlS, rCat, rCatT]
   refine ⟨_, .inl ⟨_, SqL.of hsv, rfl⟩, rfl, ?_⟩
   split
   · rename_i h0
     have hv : vs = [] := List.eq_nil_of_length_eq_zero (by omega)
     subst hv
     refine ⟨.inl ⟨rfl, _, SqL.of hsv⟩, small (by decide), fun p1 hp1 => ⟨[], zE hp1 _ _ _ hsv, zR (by decide), ?_⟩⟩
     have n1 : H p1 = none := hs.free hp1
     refine q sa [.ref p1] [.node "all" []] _ ((hs.upd n1).upd nsa) zB (TAts.one (TAt.mkNode (vs := []) ?_ rfl)) (by simp) (fun t ht => ?_) (by rw [wts, wts, wt, wts]; omega)
     · rw [zH (Ne.symm (zU hsv hp1))]
       exact zB
     · rw [List.mem_singleton.mp ht]
       exact ⟨.inr (.inl ⟨rfl, rfl⟩), fun _ z => nomatch z⟩
   · rename_i h0
     refine q sa vs ts H' hs hsv hts ?_ f17 (by omega)
     intro z
     subst z
     have : vs = [] := List.eq_nil_of_length_eq_zero hlv
     subst this
     exact h0 rfl
end
def tnM (n : Nat) : Nat := n + 1 - 2 * (n % 2)
def tnB (e : Bool) (n : Nat) : Nat := if e then tnM n else n
def rix (rows : List Rw) (r : Rw) : Option Nat := rows.findIdx? fun x => deq (dRw x) (dRw r)
def xD (rows : List Rw) (r : Rw) : List Rw × Nat := match rix rows r with
 | some k => (rows, 2 * k)
 | none => (rows ++ [r], 2 * rows.length)
mutual
def num (rows : List Rw) : Tm -> Option Nat
 | .name x => (rix rows (.nm x)).map (2 * ·)
 | .node w ts => if w = "none" then some 0 else if w = "all" then some 1 else if w = "not" then (xW rows false ts).map tnM else (xW rows (decide (w = "either")) ts).map (tnB (decide (w = "either")))
def xW (rows : List Rw) (e : Bool) : List Tm -> Option Nat
 | [] => none
 | t :: ts => (num rows t).bind fun m => xV rows e (tnB e m) ts
def xV (rows : List Rw) (e : Bool) : Nat -> List Tm -> Option Nat
 | m, [] => some m
 | m, t :: ts => (num rows t).bind fun n => (rix rows (.bo (m : Int) (tnB e n : Nat))).bind fun k => xV rows e (2 * k) ts
end
mutual
def bld : Tm -> List Rw -> List Rw × Nat
 | .name x, rows => xD rows (.nm x)
 | .node w ts, rows => if w = "none" then (rows, 0) else if w = "all" then (rows, 1) else if w = "not" then ((xM false ts rows).1, tnM (xM false ts rows).2) else ((xM (decide (w = "either")) ts rows).1, tnB (decide (w = "either")) (xM (decide (w = "either")) ts rows).2)
def xM (e : Bool) : List Tm -> List Rw -> List Rw × Nat
 | [], rows => (rows, 0)
 | t :: ts, rows => xG e ts (bld t rows).1 (tnB e (bld t rows).2)
def xG (e : Bool) : List Tm -> List Rw -> Nat -> List Rw × Nat
 | [], rows, m => (rows, m)
 | t :: ts, rows, m => xG e ts (xD (bld t rows).1 (.bo (m : Int) (tnB e (bld t rows).2 : Nat))).1 (xD (bld t rows).1 (.bo (m : Int) (tnB e (bld t rows).2 : Nat))).2
end
theorem rix_snoc {rows : List Rw} {r : Rw} (h : rix rows r = none) : rix (rows ++ [r]) r = some rows.length := by
 unfold rix at h ⊢
 rw [List.findIdx?_append, h]
 simp [List.findIdx?_cons, deq_refl]
theorem rput_at (rows : List Rw) (r : Rw) : ∃ k, rix (xD rows r).1 r = some k /\ (xD rows r).2 = 2 * k := by
 unfold xD
 split
 · rename_i k h
   exact ⟨k, h, rfl⟩
 · rename_i h
   exact ⟨_, rix_snoc h, rfl⟩
structure Sht (rows : List Rw) : Prop where
 in_ : ∀ (k : Nat) (i j : Int), rows[k]? = some (.bo i j) -> (0 <= i /\ i < 2 * (k : Int)) /\ 0 <= j /\ j < 2 * (k : Int)
 hd : rows[0]? = some .no
 few : ∀ k, rows[k]? = some .no -> k = 0
 nm : ∀ (k : Nat) (x : Str), rows[k]? = some (.nm x) -> Nm x
theorem Sht.pos {rows : List Rw} (h : Sht rows) : 1 <= rows.length := (List.getElem?_eq_some_iff.mp h.hd).1
theorem Sht.one : Sht [.no] := by
 have o : ∀ (k : Nat) (r : Rw), ([Rw.no] : List Rw)[k]? = some r -> k = 0 /\ r = .no := fun k r h => by
   cases k with
   | zero => simp at h; exact ⟨rfl, h.symm⟩
   | succ k => simp at h
 exact ⟨fun k i j h => (by cases (o k _ h).2), rfl, fun k h => (o k _ h).1, fun k x h => (by cases (o k _ h).2)⟩
def RNext (n : Nat) : Rw -> Prop
 | .no => False
 | .nm x => Nm x
 | .bo i j => (0 <= i /\ i < 2 * (n : Int)) /\ 0 <= j /\ j < 2 * (n : Int)
theorem Sht.snoc {rows : List Rw} {r : Rw} (h : Sht rows) (hr : RNext rows.length r) : Sht (rows ++ [r]) := by
 have o : ∀ (k : Nat) (q : Rw), (rows ++ [r])[k]? = some q -> rows[k]? = some q \/ (k = rows.length /\ q = r) := fun k q hq => by
   by_cases c : k < rows.length
   · rw [List.getElem?_append_left c] at hq
     exact .inl hq
   · have := (List.getElem?_eq_some_iff.mp hq).1
     rw [List.length_append, List.length_singleton] at this
     have e : k = rows.length := by omega
     subst e
     rw [List.getElem?_append_right (Nat.le_refl _)] at hq
     simp at hq
     exact .inr ⟨rfl, hq.symm⟩
 refine ⟨fun k i j hk => ?_, ?_, fun k hk => ?_, fun k x hk => ?_⟩
 · rcases o k _ hk with h1 | ⟨rfl, rfl⟩
   · exact h.in_ k i j h1
   · exact hr
 · rw [List.getElem?_append_left (by have := h.pos; omega)]
   exact h.hd
 · rcases o k _ hk with h1 | ⟨rfl, rfl⟩
   · exact h.few k h1
   · exact hr.elim
 · rcases o k _ hk with h1 | ⟨rfl, rfl⟩
   · exact h.nm k x h1
   · exact hr
def Grw (rows : List Rw) (m : Nat) (p : List Rw × Nat) : Prop := Sht p.1 /\ rows.length <= p.1.length /\ p.1.length <= rows.length + m /\ p.2 < 2 * p.1.length
theorem tnM_lt {n m : Nat} (h : n < 2 * m) : tnM n < 2 * m := by unfold tnM; omega
theorem jE {e : Bool} {n m : Nat} (h : n < 2 * m) : tnB e n < 2 * m := by
 cases e
 · exact h
 · exact tnM_lt h
theorem rix_lt {rows : List Rw} {r : Rw} {k : Nat} (h : rix rows r = some k) : k < rows.length := by
 unfold rix at h
 exact (List.findIdx?_eq_some_iff_getElem.mp h).1
theorem jG {rows : List Rw} {r : Rw} (h : Sht rows) (hr : RNext rows.length r) : Grw rows 1 (xD rows r) := by
 unfold xD
 split
 · rename_i k hk
   have := rix_lt hk
   exact ⟨h, Nat.le_refl _, Nat.le_succ _, by show 2 * k < 2 * rows.length; omega⟩
 · refine ⟨h.snoc hr, ?_, ?_, ?_⟩
   · simp
   · simp
   · show 2 * rows.length < 2 * (rows ++ [r]).length
     rw [List.length_append, List.length_singleton]
     omega
mutual
theorem bld_grw : ∀ (t : Tm) (n : Nat) (rows : List Rw), Fit n t -> Sht rows -> Grw rows (2 * wt t - 1) (bld t rows)
 | .name x, n, rows, hf, h => by
   rw [bld, wt]
   exact jG h (by unfold Fit at hf; exact hf)
 | .node w ts, n, rows, hf, h => by
   have hf' : ∀ t ∈ ts, ∃ m, Fit m t := fun t ht => by
     cases n with
     | zero => unfold Fit at hf; rw [hf.2] at ht; cases ht
     | succ n => unfold Fit at hf; exact ⟨n, hf.2 t ht⟩
   have hp := h.pos
   rw [bld, wt]
   split
   · exact ⟨h, Nat.le_refl _, by show rows.length <= _; omega, by show 0 < 2 * rows.length; omega⟩
   · split
     · exact ⟨h, Nat.le_refl _, by show rows.length <= _; omega, by show 1 < 2 * rows.length; omega⟩
     · split
       · obtain ⟨h1, h2, h3, h4⟩ := bldH_grw false ts rows hf' h
         exact ⟨h1, h2, by show (xM false ts rows).1.length <= _; omega, tnM_lt h4⟩
       · obtain ⟨h1, h2, h3, h4⟩ := bldH_grw (decide (w = "either")) ts rows hf' h
         exact ⟨h1, h2, by show (xM _ ts rows).1.length <= _; omega, jE h4⟩
theorem bldH_grw (e : Bool) : ∀ (ts : List Tm) (rows : List Rw), (∀ t ∈ ts, ∃ m, Fit m t) -> Sht rows -> Grw rows (2 * wts ts) (xM e ts rows)
 | [], rows, _, h => by
   rw [xM]
   have := h.pos
   exact ⟨h, Nat.le_refl _, Nat.le_add_right _ _, by show 0 < 2 * rows.length; omega⟩
 | t :: ts, rows, hf, h => by
   rw [xM, wts]
   obtain ⟨m, hm⟩ := hf t List.mem_cons_self
   obtain ⟨a1, a2, a3, a4⟩ := bld_grw t m rows hm h
   obtain ⟨b1, b2, b3, b4⟩ := bldJ_grw e ts (bld t rows).1 (tnB e (bld t rows).2) (fun u hu => hf u (List.mem_cons_of_mem _ hu)) a1 (jE a4)
   have hw := wt_pos t
   exact ⟨b1, by omega, by omega, b4⟩
theorem bldJ_grw (e : Bool) : ∀ (ts : List Tm) (rows : List Rw) (m : Nat), (∀ t ∈ ts, ∃ m, Fit m t) -> Sht rows -> m < 2 * rows.length -> Grw rows (2 * wts ts) (xG e ts rows m)
 | [], rows, m, _, h, hm => by
   rw [xG]
   exact ⟨h, Nat.le_refl _, Nat.le_add_right _ _, hm⟩
 | t :: ts, rows, m, hf, h, hm => by
   rw [xG, wts]
   obtain ⟨n, hn⟩ := hf t List.mem_cons_self
   obtain ⟨a1, a2, a3, a4⟩ := bld_grw t n rows hn h
   have a5 := jE (e := e) a4
   obtain ⟨c1, c2, c3, c4⟩ := jG (r := .bo (m : Int) (tnB e (bld t rows).2 : Nat)) a1 ⟨⟨by omega, by omega⟩, by omega, by omega⟩
   obtain ⟨b1, b2, b3, b4⟩ := bldJ_grw e ts _ _ (fun u hu => hf u (List.mem_cons_of_mem _ hu)) c1 c4
   have hw := wt_pos t
   exact ⟨b1, by omega, by omega, b4⟩
end
abbrev s_i : Stmt := top 1
theorem sc_i : FnScope ["sheet"] ["sheet"] (zI s_i) := ⟨rfl, rfl, rfl, by decide +kernel, rfl, by decide +kernel, by decide +kernel⟩
abbrev s_o : Stmt := top 2
theorem sc_o : FnScope ["places", "row", "place"] ["places", "row"] (zI s_o) := ⟨rfl, rfl, rfl, by decide +kernel, rfl, by decide +kernel, by decide +kernel⟩
abbrev s_m : Stmt := top 3
theorem sc_m : FnScope ["n", "turn"] ["n", "turn"] (zI s_m) := ⟨rfl, rfl, rfl, by decide +kernel, rfl, by decide +kernel, by decide +kernel⟩
abbrev RwAts (H : Hp) (rows : List Rw) (us : List V) : Prop := DAts H (rows.map dRw) us
theorem xA {α : Type} {H : Hp} {f : α -> Dt} {xs : List α} {us : List V} {i : Nat} {v : V} (h : DAts H (xs.map f) us) (hv : us[i]? = some v) : ∃ x, xs[i]? = some x /\ DAt H (f x) v := by
 have hl := DAts.length h
 rw [List.length_map] at hl
 have hi : i < xs.length := by rw [← hl]; exact (List.getElem?_eq_some_iff.mp hv).1
 obtain ⟨u, h1, h2⟩ := DAts.get (d := f xs[i]) h (by rw [List.getElem?_map, List.getElem?_eq_getElem hi]; rfl)
 rw [hv] at h1
 cases h1
 exact ⟨_, List.getElem?_eq_getElem hi, h2⟩
theorem RwAt.out {H : Hp} {r : Rw} {v : V} (h : DAt H (dRw r) v) : ∃ a x us, v = .ref a /\ H a = some (.tup (.str x :: us)) /\ (match r with | .no => x = "none" /\ us = [] | .nm y => x = "name" /\ us = [.str y] | .bo i j => x = "both" /\ us = [.int i, .int j]) := by
 cases r with
 | no =>
   obtain ⟨a, vs, e1, e2, u1, r1, q1, h1, h2⟩ := h
   have h1 : u1 = .str "none" := h1
   have h2 : r1 = [] := h2
   subst h2 q1 h1
   exact ⟨a, _, _, e1, e2, rfl, rfl⟩
 | nm y =>
   obtain ⟨a, vs, e1, e2, u1, r1, q1, h1, u2, r2, q2, h2, h3⟩ := h
   have h1 : u1 = .str "name" := h1
   have h2 : u2 = .str y := h2
   have h3 : r2 = [] := h3
   subst h3 q2 q1 h1 h2
   exact ⟨a, _, _, e1, e2, rfl, rfl⟩
 | bo i j =>
   obtain ⟨a, vs, e1, e2, u1, r1, q1, h1, u2, r2, q2, h2, u3, r3, q3, h3, h4⟩ := h
   have h1 : u1 = .str "both" := h1
   have h2 : u2 = .int i := h2
   have h3 : u3 = .int j := h3
   have h4 : r3 = [] := h4
   subst h4 q3 q2 q1 h1 h2 h3
   exact ⟨a, _, _, e1, e2, rfl, rfl⟩
theorem hu2_of {A : Around} {k : Nat} (hr : Room k A) : A.units + 2 < cLine := Nat.lt_of_le_of_lt (Nat.add_le_add_left (by decide : 2 <= 64) _) hr.units
theorem tnB_xor (e : Bool) (n : Nat) : Builtin.bitXor (n : Int) (if e = true then 1 else 0) = ((tnB e n : Nat) : Int) := by
 cases e with
 | false => exact PyProof.Rows.bitXor_zero _
 | true =>
   rw [if_pos rfl, xor1]
   unfold tn1 tnB tnM
   rw [if_pos rfl]
   omega
def keyR : Rw -> List Key
 | .no => [.inr "none"]
 | .nm x => [.inr "name", .inr x]
 | .bo i j => [.inr "both", .inl i, .inl j]
theorem keyR_inj {r q : Rw} (h : keyR r = keyR q) : r = q := by
 cases r <;> cases q <;> simp [keyR] at h ⊢ <;> first | exact h | exact h.elim
theorem RwAt.key {H : Hp} {r : Rw} {v : V} (h : DAt H (dRw r) v) : ∃ a, v = .ref a /\ H a = some (.tup ((keyR r).map kV)) := by
 obtain ⟨a, x, us, e, g, m⟩ := RwAt.out h
 refine ⟨a, e, ?_⟩
 cases r with
 | no => obtain ⟨rfl, rfl⟩ := m; exact g
 | nm y => obtain ⟨rfl, rfl⟩ := m; exact g
 | bo i j => obtain ⟨rfl, rfl⟩ := m; exact g
theorem deq_rw (r q : Rw) : deq (dRw r) (dRw q) = true ↔ r = q := by
 constructor
 · intro h
   cases r <;> cases q <;> simp [dRw, deq, deqs] at h ⊢ <;> first | exact h | exact h.elim | exact absurd h.1 (by decide) | exact absurd h (by decide) | skip
 · rintro rfl
   exact deq_refl _
def plF : List Rw -> Nat -> List (List Key × V)
 | [], _ => []
 | r :: rows, k => (keyR r, V.int (k : Nat)) :: plF rows (k + 1)
theorem plF_len : ∀ (rows : List Rw) (k : Nat), (plF rows k).length = rows.length
 | [], _ => rfl
 | r :: rows, k => congrArg (· + 1) (plF_len rows (k + 1))
theorem plF_get : ∀ (rows : List Rw) (k i : Nat), (plF rows k)[i]? = (rows[i]?).map fun r => (keyR r, V.int ((k + i : Nat) : Int))
 | [], _, _ => rfl
 | r :: rows, k, 0 => rfl
 | r :: rows, k, i + 1 => by
   show (plF rows (k + 1))[i]? = _
   rw [plF_get rows (k + 1) i, show k + 1 + i = k + (i + 1) by omega]
   rfl
theorem plF_keys : ∀ (rows : List Rw) (k : Nat), (plF rows k).map (·.1) = rows.map keyR
 | [], _ => rfl
 | r :: rows, k => congrArg (keyR r :: ·) (plF_keys rows (k + 1))
theorem qS (r : Rw) : ∀ (rows : List Rw) (k : Nat), yV (plF rows k) (keyR r) = (rix rows r).map fun i => V.int ((k + i : Nat) : Int)
 | [], _ => rfl
 | q :: rows, k => by
   have ih := qS r rows (k + 1)
   unfold yV rix at ih ⊢
   rw [plF, List.find?_cons, List.findIdx?_cons]
   by_cases c : q = r
   · subst c
     rw [decide_eq_true rfl, deq_refl]
     rfl
   · rw [decide_eq_false (fun z => c (keyR_inj z)), Bool.eq_false_iff.mpr (fun z => c ((deq_rw q r).mp z))]
     show Option.map _ (List.find? _ (plF rows (k + 1))) = _
     rw [ih]
     cases List.findIdx? (fun x => deq (dRw x) (dRw r)) rows with
     | none => rfl
     | some i => show some (V.int ((k + 1 + i : Nat) : Int)) = some (V.int ((k + (i + 1) : Nat) : Int)); rw [show k + 1 + i = k + (i + 1) by omega]
def vO : Option Nat -> V
 | some n => .int n
 | none => .non
def spPo : Sp := fun vs H Q _ => ∃ (sa : Addr) (us : List V) (rows : List Rw), vs = [.ref sa] /\ H sa = some (.lst us) /\ RwAts H rows us /\ rows.Nodup /\ rows.length <= 500 /\ ∀ p H', Same H H' -> H' p = some (.dT (plF rows 0)) -> Q (.ref p) H'
def kO : Option Nat -> Option Key
 | some n => some (.inl (n : Int))
 | none => none
theorem oV_kO (o : Option Nat) : oV (kO o) = vO o := by cases o <;> rfl
def spFd : Sp := fun vs H Q _ => ∃ (pa b : Addr) (rows : List Rw) (ks : List (Option Key)) (r : Option Rw), vs = [.ref pa, .ref b] /\ H pa = some (.dT (plF rows 0)) /\ H b = some (.tup (ks.map oV)) /\ unO ks = r.map keyR /\ Q (vO (r.bind fun r => (rix rows r).map (2 * ·))) H
def spTu : Sp := fun vs H Q _ => ∃ (o : Option Nat) (e : Bool), vs = [vO o, .int (if e then 1 else 0)] /\ Q (vO (o.map (tnB e))) H
section
variable {P : Program} {w : World} {K : PySem.W.Frag} {mg : Str -> Option Value} {base : Heap} {f : Addr} {fd : FuncData}
theorem ok_found (bi : Bi mg) (F : Fun K "found" "found" s_o f fd) : FnOk P w K mg base CX0 1 f fd ["places", "row"] spFd := by
 refine F.ok sc_o (fun vs H Q E h => ?_) (fun cdv A outer s H vs Q E hr h => ?_)
 · obtain ⟨pa, b, rows, ks, r, rfl, _⟩ := h
   rfl
 obtain ⟨pa, b, rows, ks, r, rfl, hp, hb, hks, q⟩ := h
 refine ⟨_, (zD (zO (i := 2) sc_o.nd rfl (Or.inl rfl) (pe_dgetO (hu_of hr) (pv 0) (pv 1) ⟨rfl, rfl, rfl, rfl⟩)) (zF (zP (jJ (zK op_isN (pv 2) jI (zN _)) jI (zM op_mul zC (pv 2)))))), ?_⟩
 refine zG fun N hN => ?_
 simp! [tDGetO]
 refine ⟨.inr ⟨_, .inl hp⟩, _, DGetO.mk hp hb, hN _ _ ?_⟩
 clear hN
 unfold valO
 rw [hks]
 simp! []
 cases r with
 | none =>
   rw [if_pos (show ((Option.map keyR (none : Option Rw)).bind (yV (plF rows 0))).getD V.non = V.non from rfl)]
   exact q
 | some r =>
   show if ((yV (plF rows 0) (keyR r)).getD V.non = V.non) then _ else _
   rw [qS]
   have q : Q (vO ((rix rows r).map (2 * ·))) H := q
   cases c : rix rows r with
   | none =>
     rw [c] at q
     rw [if_pos (show (Option.map (fun i : Nat => V.int ((0 + i : Nat) : Int)) none).getD V.non = V.non from rfl)]
     exact q
   | some i =>
     rw [c] at q
     rw [if_neg (fun z => by cases z)]
     refine ⟨((0 + i : Nat) : Int), ?_, .inl ⟨by decide, by decide⟩, ?_⟩
     · show (yV (plF rows 0) (keyR r)).getD V.non = _
       rw [qS, c]
       rfl
     · rw [show (2 : Int) * ((0 + i : Nat) : Int) = ((2 * i : Nat) : Int) by omega]
       exact q
theorem ok_turned (bi : Bi mg) (F : Fun K "turned" "turned" s_m f fd) : FnOk P w K mg base CX0 1 f fd ["n", "turn"] spTu := by
 refine F.ok sc_m (fun vs H Q E h => ?_) (fun cdv A outer s H vs Q E hr h => ?_)
 · obtain ⟨o, e, rfl, _⟩ := h
   rfl
 obtain ⟨o, e, rfl, q⟩ := h
 refine ⟨_, (zF (zP (jJ (zK op_isN (pv 0) jI (zN _)) jI (zM op_xor (pv 0) (pv 1))))), ?_⟩
 simp! []
 cases o with
 | none =>
   rw [if_pos (show vO none = V.non from rfl)]
   exact q
 | some n =>
   rw [if_neg (fun z => by cases z)]
   refine ⟨_, rfl, ?_⟩
   rw [tnB_xor]
   exact q
theorem ok_places (bi : Bi mg) (be : mg "enumerate" = none) (F : Fun K "places_of" "places_of" s_i f fd) : FnOk P w K mg base CX0 1 f fd ["sheet"] spPo := by
 refine F.ok sc_i (fun vs H Q E h => ?_) (fun cdv A outer s H vs Q E hr h => ?_)
 · obtain ⟨sa, us, rows, rfl, _⟩ := h
   rfl
 obtain ⟨sa, us, rows, rfl, hsa, hrw, hnd, hrl, q⟩ := h
 have hul : us.length = rows.length := by have := DAts.length hrw; rwa [List.length_map] at this
 refine ⟨_, (zF (zP (yQ (call_dictPT (hu2_of hr)) rfl bi.dict bt_dict (zA (pe_comp ["k", "row"] [] [] (pi_enum rfl be (zA (pv 0) pa_nil)) (fun _ _ _ _ nd => pg_tupK (K := K) (n := 2) rfl (pgs_cons (yH (i := 0) nd rfl (Or.inl rfl)) (pgs_cons (yH (i := 1) nd rfl (Or.inl rfl)) pgs_nil))) (fun _ _ _ _ => qT) (fun _ _ _ _ => (zS (zA (pv 1) (zA (pv 0) pa_nil))))) pa_nil)))), ?_⟩
 simp! [iEnum]
 refine ⟨us, hsa, ?_⟩
 refine lc_enum (xs := us) (fun i ys σ H' => Same H H' /\ (∃ as : List Addr, ys = as.map V.ref /\ as.length = i /\ ∀ (j : Nat) (a : Addr) (r : Rw), as[j]? = some a -> rows[j]? = some r -> ∃ b, H' a = some (.tup [.ref b, .int (j : Nat)]) /\ H' b = some (.tup ((keyR r).map kV))) /\ ∃ o1 o2, σ = [o1, o2]) ⟨Same.refl _, ⟨[], rfl, rfl, fun j a r h => by simp at h⟩, _, _, rfl⟩ (small (by omega)) (fun i ys σ H' e => ?_) (fun i ys σ H' e => e.1 _ _ hsa) (fun i x ys σ H' p C hx e hp hC => ?_) (fun ys σ H' e p hp => ?_)
 · obtain ⟨_, ⟨as, rfl, h1, _⟩, _⟩ := e
   rw [List.length_map, h1]; exact Nat.le_refl _
 · obtain ⟨es, ⟨as, rfl, h1, h3⟩, o1, o2, rfl⟩ := e
   obtain ⟨r, hr1, hx'⟩ := xA hrw hx
   obtain ⟨b, rfl, hb⟩ := RwAt.key hx'
   have e1 := zE hp (.tup [V.int i, V.ref b])
   simp! [gTup, gCons, gNil]
   refine ⟨_, SqT.of zB, rfl, _, _, rfl, _, _, rfl, rfl, ?_⟩
   generalize upd H' p (.tup [V.int i, V.ref b]) = H1 at e1 ⊢
   refine ⟨small (by decide), fun a' ha' => hC _ _ _ ?_⟩
   have e2 := zE ha' (.tup [V.ref b, V.int i])
   refine ⟨es.trans (e1.trans e2), ⟨as ++ [a'], by rw [List.map_append]; rfl, by rw [List.length_append, h1]; rfl, fun j a r' ha hr' => ?_⟩, _, _, rfl⟩
   by_cases hj : j < i
   · rw [List.getElem?_append_left (by omega)] at ha
     obtain ⟨b', k1, k2⟩ := h3 j a r' ha hr'
     exact ⟨b', (e1.trans e2) _ _ k1, (e1.trans e2) _ _ k2⟩
   · have ej : j = i := by
       have := (List.getElem?_eq_some_iff.mp ha).1
       rw [List.length_append] at this
       simp at this
       omega
     rw [ej, ← h1, List.getElem?_append_right (Nat.le_refl _)] at ha
     simp at ha
     subst ha
     rw [ej, hr1] at hr'
     cases hr'
     rw [ej]
     exact ⟨b, zB, (es.trans (e1.trans e2)) _ _ hb⟩
 obtain ⟨es, ⟨as, rfl, h1, h3⟩, o1, o2, rfl⟩ := e
 have e1 := zE hp (.lst (as.map V.ref))
 refine ⟨p, rfl, as, SqL.of zB, plF rows 0, by rw [plF_len]; omega, by rw [plF_keys]; exact List.pairwise_map.mpr (hnd.imp fun hne z => hne (keyR_inj z)), fun i k v hi => ?_, fun d hd => ?_⟩
 · rw [plF_get] at hi
   obtain ⟨r, hr1, er⟩ := Option.map_eq_some_iff.mp hi
   cases er
   have hil := (List.getElem?_eq_some_iff.mp hr1).1
   obtain ⟨b, k1, k2⟩ := h3 i (as[i]'(by omega)) r (List.getElem?_eq_getElem (by omega)) hr1
   exact ⟨_, List.getElem?_eq_getElem (by omega), b, SqT.of (e1 _ _ (by rw [Nat.zero_add]; exact k1)), e1 _ _ k2⟩
 · exact q d _ (es.trans (e1.trans (zE hd _))) zB
end
abbrev s_h : Stmt := top 4
theorem sc_h : FnScope ["row_number", "places", "t"] ["row_number", "places", "t"] (zI s_h) := ⟨rfl, rfl, rfl, by decide +kernel, rfl, by decide +kernel, by decide +kernel⟩
abbrev s_a : Stmt := top 5
theorem sc_a : FnScope ["row_number", "places", "t", "turn", "whole", "part", "last"] ["row_number", "places", "t"] (zI s_a) := ⟨rfl, rfl, rfl, by decide +kernel, rfl, by decide +kernel, by decide +kernel⟩
abbrev s_n : Stmt := top 6
theorem sc_n : FnScope ["sheet", "t"] ["sheet", "t"] (zI s_n) := ⟨rfl, rfl, rfl, by decide +kernel, rfl, by decide +kernel, by decide +kernel⟩
def FitP : Nat -> Tm -> Prop
 | 0, _ => False
 | n + 1, t => Fit n t
theorem FitP.node {n : Nat} {wd : Str} {ts : List Tm} (h : FitP (n + 1) (.node wd ts)) : Sh wd ts.length /\ ∀ t ∈ ts, FitP n t := by
 have h : Fit n (.node wd ts) := h
 cases n with
 | zero => unfold Fit at h; exact ⟨h.1, fun t ht => by rw [h.2] at ht; cases ht⟩
 | succ n => unfold Fit at h; exact h
theorem yP (a b : Str) : deq (.str a) (.str b) = decide (a = b) := by
 rw [Bool.eq_iff_iff, decide_eq_true_eq]
 simp [deq]
theorem cut_two (x y : V) (xs : List V) : yM (x :: y :: xs) (some 2) none = xs := by
 unfold yM
 have e : HT.sIx (x :: y :: xs).length 0 (some 2) = 2 := by
   unfold HT.sIx
   simp only [List.length_cons]
   rw [if_neg (by omega)]
   omega
 rw [e, HT.sIx_none, List.take_of_length_le (by simp)]
 rfl
def boO (rows : List Rw) (i j : Option Nat) : Option Nat := (i.bind fun i => j.map fun j => Rw.bo (i : Int) (j : Int)).bind fun r => (rix rows r).map (2 * ·)
def jK (rows : List Rw) (e : Bool) : Option Nat -> List Tm -> Option Nat
 | o, [] => o
 | o, t :: ts => jK rows e (boO rows o ((num rows t).map (tnB e))) ts
theorem yY (rows : List Rw) (e : Bool) : ∀ ts, jK rows e none ts = none
 | [] => rfl
 | t :: ts => yY rows e ts
theorem qC (rows : List Rw) (e : Bool) : ∀ (ts : List Tm) (m : Nat), jK rows e (some m) ts = xV rows e m ts
 | [], m => by rw [xV]; rfl
 | t :: ts, m => by
   rw [jK, xV]
   cases num rows t with
   | none => exact yY rows e ts
   | some n =>
     show jK rows e ((rix rows (.bo (m : Int) (tnB e n : Nat))).map (2 * ·)) ts = (rix rows (.bo (m : Int) (tnB e n : Nat))).bind fun k => xV rows e (2 * k) ts
     cases rix rows (.bo (m : Int) (tnB e n : Nat)) with
     | none => exact yY rows e ts
     | some k => exact qC rows e ts (2 * k)
theorem numH_O (rows : List Rw) (e : Bool) (t : Tm) (ts : List Tm) : xW rows e (t :: ts) = jK rows e ((num rows t).map (tnB e)) ts := by
 rw [xW]
 cases num rows t with
 | none => exact (yY rows e ts).symm
 | some m => exact (qC rows e ts _).symm
def spNb (ff : Addr) (n : Nat) : Sp := fun vs H Q _ => ∃ (pa : Addr) (v : V) (rows : List Rw) (t : Tm), vs = [.ref ff, .ref pa, v] /\ H pa = some (.dT (plF rows 0)) /\ TAt H t v /\ FitP n t /\ ∀ H', Same H H' -> Q (vO (num rows t)) H'
def spJn (ff : Addr) (n : Nat) : Sp := fun vs H Q _ => ∃ (pa ta : Addr) (us : List V) (rows : List Rw) (e : Bool) (ts : List Tm), vs = [.ref ff, .ref pa, .ref ta] /\ H pa = some (.dT (plF rows 0)) /\ H ta = some (.tup (.str (if e then "either" else "both") :: us)) /\ TAts H ts us /\ (∀ t ∈ ts, FitP n t) /\ ts ≠ [] /\ ∀ H', Same H H' -> Q (vO ((xW rows e ts).map (tnB e))) H'
def spNo : Sp := fun vs H Q _ => ∃ (sa : Addr) (us : List V) (v : V) (rows : List Rw) (t : Tm), vs = [.ref sa, v] /\ H sa = some (.lst us) /\ RwAts H rows us /\ rows.Nodup /\ rows.length <= 500 /\ TAt H t v /\ FitP 22 t /\ ∀ H', Same H H' -> Q (vO (num rows t)) H'
section
variable {P : Program} {w : World} {K : PySem.W.Frag} {mg : Str -> Option Value} {base : Heap} {f ff : Addr} {fd : FuncData} {k n : Nat}
theorem ok_joined (hf_row_number : HasF P w K mg base 1 ff ["places", "row"] spFd) (h_m : Has P w K mg base 1 "turned" ["n", "turn"] spTu) (h_h : Has P w K mg base (k + 1) "number_by" ["row_number", "places", "t"] (spNb ff n)) (F : Fun K "joined_number" "joined_number" s_a f fd) : FnOk P w K mg base CX0 (k + 2) f fd ["row_number", "places", "t"] (spJn ff n) := by
 refine F.ok sc_a (fun vs H Q E h => ?_) (fun cdv A outer s H vs Q E hr h => ?_)
 · obtain ⟨pa, ta, us, rows, e, ts, rfl, _⟩ := h
   rfl
 obtain ⟨pa, ta, us, rows, e, ts, rfl, hpa, hta, hts, hf, hne, q⟩ := h
 refine ⟨_, (zD (zO (i := 3) sc_a.nd rfl (Or.inl rfl) (jJ (zK (yF hr.units) (zZ ix_tup (pv 2) zC (fun _ _ => rfl)) zL (zN _)) zC zC)) (zD (zO (i := 4) sc_a.nd rfl (Or.inl rfl) (zJ h_m (hr.mono (by omega)) rfl (zA (zJ h_h (hr.mono (by omega)) rfl (zA (pv 0) (zA (pv 1) (zA (zZ ix_tup (pv 2) zC (fun _ _ => rfl)) pa_nil)))) (zA (pv 3) pa_nil)))) (zD (yT PassesOwn.never rfl (qU (yC sl_tupG (pv 2) (yE zC) po_none)) (yH (i := 5) sc_a.nd rfl (Or.inl rfl)) (zD (zO (i := 6) sc_a.nd rfl (Or.inl rfl) (zJ h_m (hr.mono (by omega)) rfl (zA (zJ h_h (hr.mono (by omega)) rfl (zA (pv 0) (zA (pv 1) (zA (pv 5) pa_nil)))) (zA (pv 3) pa_nil)))) (zF (zO (i := 4) sc_a.nd rfl (Or.inl rfl) (pe_callL (i := 0) hf_row_number (hr.mono (by omega)) (zA (pv 1) (zA (zS (zA zL (zA (pv 4) (zA (pv 6) pa_nil)))) pa_nil))))))) (zF (zP (zJ h_m (hr.mono (by omega)) rfl (zA (pv 4) (zA (pv 3) pa_nil)))))))), ?_⟩
 obtain ⟨t0, ts', rfl⟩ : ∃ t0 ts', ts = t0 :: ts' := by
   cases ts with
   | nil => exact absurd rfl hne
   | cons t0 ts' => exact ⟨t0, ts', rfl⟩
 obtain ⟨u0, us', rfl, hu0, hus⟩ := hts
 rw [numH_O] at q
 have hul : us'.length = ts'.length := by have := DAts.length hus; rwa [List.length_map] at this
 refine zG fun N hN => ?_
 simp! [rEqG]
 have cont : N [some (V.ref ff), some (V.ref pa), some (V.ref ta), some (V.int (if e then 1 else 0)), none, none, none] H := hN _ _ (by
   clear hN
   refine zG fun N hN => ?_
   simp! []
   refine ⟨_, SqT.of hta, _, yI (j := 1) rfl, pa, u0, rows, t0, rfl, hpa, hu0, hf t0 List.mem_cons_self, fun H1 s1 => ⟨num rows t0, e, rfl, hN _ _ ?_⟩⟩
   clear hN
   generalize (num rows t0).map (tnB e) = w0 at q ⊢
   refine yA (fun σ H' => ∃ (o5 o6 : Option V), Same H H' /\ σ = [some (V.ref ff), some (V.ref pa), some (V.ref ta), some (V.int (if e then 1 else 0)), some (vO (jK rows e w0 ts')), o5, o6]) (fun N hN => ?_) (fun σ H' h => ?_)
   · simp! [rSlG]
     refine ⟨_, s1 _ _ hta, fun p H2 s2 kp => ?_⟩
     rw [cut_two] at kp
     refine ⟨⟨_, SqT.of kp⟩, ?_⟩
     refine qZ (xs := us') (fun i σ H' => ∃ (wi : Option Nat) (o5 o6 : Option V), Same H2 H' /\ jK rows e wi (ts'.drop i) = jK rows e w0 ts' /\ σ = [some (V.ref ff), some (V.ref pa), some (V.ref ta), some (V.int (if e then 1 else 0)), some (vO wi), o5, o6]) ⟨w0, _, _, Same.refl _, rfl, rfl⟩ (fun i σ H' _ h => by obtain ⟨_, _, _, h, _⟩ := h; exact SqT.of (h _ _ kp)) (fun i x σ H' hx h => ?_) (fun σ H' h => ?_)
     · obtain ⟨wi, o5, o6, es, hj, rfl⟩ := h
       obtain ⟨t, hti, hx'⟩ := xA (f := toD) hus hx
       obtain ⟨hil, hie⟩ := List.getElem?_eq_some_iff.mp hti
       rw [List.drop_eq_getElem_cons hil, hie, jK] at hj
       have sA := (s1.trans s2).trans es
       refine zG fun N hN => ?_
       simp! []
       refine ⟨pa, x, rows, t, rfl, sA _ _ hpa, DAt.same sA hx', hf t (List.mem_cons_of_mem _ (List.mem_of_getElem? hti)), fun H3 s3 => ⟨num rows t, e, rfl, hN _ _ ?_⟩⟩
       clear hN
       generalize (num rows t).map (tnB e) = lo at hj ⊢
       simp! [qL]
       refine ⟨small (by decide), fun p2 hp2 => ⟨pa, p2, rows, [some (.inr "both"), kO wi, kO lo], (wi.bind fun i => lo.map fun j => Rw.bo (i : Int) (j : Int)), rfl, (sA.trans (s3.trans (zE hp2 _))) _ _ hpa, ?_, ?_, es.trans (s3.trans (zE hp2 _)), _, hj, rfl, _, rfl⟩⟩
       · rw [List.map_cons, List.map_cons, List.map_cons, oV_kO, oV_kO]
         exact zB
       · cases wi with
         | none => rfl
         | some i =>
           cases lo with
           | none => rfl
           | some j => rfl
     · obtain ⟨wi, o5, o6, es, hj, rfl⟩ := h
       rw [hul, List.drop_length] at hj
       refine hN _ _ ⟨o5, o6, (s1.trans s2).trans es, ?_⟩
       rw [← hj]
       rfl
   obtain ⟨o5, o6, es, rfl⟩ := h
   simp! []
   exact ⟨jK rows e w0 ts', e, rfl, q _ es⟩)
 cases e with
 | true => exact ⟨_, SqT.of hta, _, at0, 0, .str "either", rfl, .str "either", rfl, trivial, by decide, by rw [deq_refl, if_pos rfl]; exact cont⟩
 | false => exact ⟨_, SqT.of hta, _, at0, 0, .str "both", rfl, .str "either", rfl, trivial, by decide, by rw [show deq (.str "both") (.str "either") = false from by simp [deq]; decide, if_neg (by decide)]; exact cont⟩
theorem ok_number (hf_row_number : HasF P w K mg base 1 ff ["places", "row"] spFd) (h_m : Has P w K mg base 1 "turned" ["n", "turn"] spTu) (h_h : Has P w K mg base (k + 2) "number_by" ["row_number", "places", "t"] (spNb ff n)) (h_a : Has P w K mg base (k + 2) "joined_number" ["row_number", "places", "t"] (spJn ff n)) (F : Fun K "number_by" "number_by" s_h f fd) : FnOk P w K mg base CX0 (k + 3) f fd ["row_number", "places", "t"] (spNb ff (n + 1)) := by
 refine F.ok sc_h (fun vs H Q E h => ?_) (fun cdv A outer s H vs Q E hr h => ?_)
 · obtain ⟨pa, v, rows, t, rfl, _⟩ := h
   rfl
 obtain ⟨pa, v, rows, t, rfl, hpa, hv, hf, q⟩ := h
 refine ⟨_, (zD (zY (zK (yF hr.units) (zZ ix_tup (pv 2) zC (fun _ _ => rfl)) zL (zN _)) (zF (zP zC)) pss_nil) (zD (zY (zK (yF hr.units) (zZ ix_tup (pv 2) zC (fun _ _ => rfl)) zL (zN _)) (zF (zP zC)) pss_nil) (zD (zY (zK (yF hr.units) (zZ ix_tup (pv 2) zC (fun _ _ => rfl)) zL (zN _)) (zF (zP (pe_callL (i := 0) hf_row_number (hr.mono (by omega)) (zA (pv 1) (zA (zS (zA zL (zA (zZ ix_tup (pv 2) zC (fun _ _ => rfl)) pa_nil))) pa_nil))))) pss_nil) (zD (zY (zK (yF hr.units) (zZ ix_tup (pv 2) zC (fun _ _ => rfl)) zL (zN _)) (zF (zP (zJ h_m (hr.mono (by omega)) rfl (zA (zJ h_h hr rfl (zA (pv 0) (zA (pv 1) (zA (zZ ix_tup (pv 2) zC (fun _ _ => rfl)) pa_nil)))) (zA zC pa_nil))))) pss_nil) (zF (zP (zJ h_a (hr.mono (by omega)) rfl (zA (pv 0) (zA (pv 1) (zA (pv 2) pa_nil)))))))))), ?_⟩
 cases t with
 | name x =>
   obtain ⟨a, vs, rfl, ha, u1, r1, rfl, h1, u2, r2, rfl, h2, h3⟩ := hv
   have h1 : u1 = .str "name" := h1
   have h2 : u2 = .str x := h2
   have h3 : r2 = [] := h3
   subst h1 h2 h3
   simp! [rEqG, qL]
   rw [num] at q
   refine ⟨_, SqT.of ha, _, at0, 0, .str "name", rfl, .str "none", rfl, trivial, by decide, ?_⟩
   rw [yP, if_neg (by decide)]
   refine ⟨_, SqT.of ha, _, at0, 0, .str "name", rfl, .str "all", rfl, trivial, by decide, ?_⟩
   rw [yP, if_neg (by decide)]
   refine ⟨_, SqT.of ha, _, at0, 0, .str "name", rfl, .str "name", rfl, trivial, by decide, ?_⟩
   rw [yP, if_pos (by decide)]
   exact ⟨_, SqT.of ha, _, at1, small (by decide), fun p2 hp2 => ⟨pa, p2, rows, [some (.inr "name"), some (.inr x)], some (.nm x), rfl, zE hp2 _ _ _ hpa, zB, rfl, q _ (zE hp2 _)⟩⟩
 | node wd ts =>
   obtain ⟨a, vs, rfl, ha, u1, us, rfl, h1, hus⟩ := hv
   have h1 : u1 = .str wd := h1
   subst h1
   obtain ⟨hs, hfs⟩ := hf.node
   have step : ∀ {c : Str} {A B : Prop}, (wd = c -> A) -> (wd ≠ c -> B) -> ∃ x, SqT K H a x /\ ∃ x_1, atI x 0 = some x_1 /\ ∃ n_1 d, DAt H d x_1 /\ ∃ x, DAt H x (V.str c) /\ DFit (n_1 + 1) d /\ n_1 <= 60 /\ if deq d x = true then A else B := fun {c A B} h1 h2 => by
     refine ⟨_, SqT.of ha, _, at0, 0, .str wd, rfl, .str c, rfl, trivial, by decide, ?_⟩
     rw [yP]
     by_cases e : wd = c
     · rw [if_pos (decide_eq_true e)]; exact h1 e
     · rw [if_neg (by simp [e])]; exact h2 e
   simp! [rEqG, qL]
   rw [num] at q
   refine step (fun e => ?_) (fun e1 => step (fun e => ?_) (fun e2 => step (fun e => ?_) (fun e3 => step (fun e => ?_) (fun e4 => ?_))))
   · rw [if_pos e] at q
     exact q _ (Same.refl _)
   · rw [if_neg e1, if_pos e] at q
     exact q _ (Same.refl _)
   · subst e
     rcases hs with h | h | h | h | h <;> exact absurd h.1 (by decide)
   · subst e
     rw [if_neg e1, if_neg e2, if_pos rfl] at q
     have hl : ts.length = 1 := by
       rcases hs with h | h | h | h | h
       · exact absurd h.1 (by decide)
       · exact absurd h.1 (by decide)
       · exact h.2
       · exact absurd h.1 (by decide)
       · exact absurd h.1 (by decide)
     obtain ⟨t, rfl⟩ : ∃ t, ts = [t] := by
       cases ts with
       | nil => simp at hl
       | cons t r =>
         cases r with
         | nil => exact ⟨t, rfl⟩
         | cons _ _ => simp at hl
     obtain ⟨u, r, rfl, hu, _⟩ := hus
     have e5 : xW rows false [t] = num rows t := by
       rw [numH_O]
       cases num rows t <;> rfl
     rw [e5] at q
     exact ⟨_, SqT.of ha, _, yI (j := 1) rfl, pa, u, rows, t, rfl, hpa, hu, hfs t List.mem_cons_self, fun H1 s1 => ⟨num rows t, true, rfl, q _ s1⟩⟩
   · rw [if_neg e1, if_neg e2, if_neg e4] at q
     refine ⟨pa, a, us, rows, decide (wd = "either"), ts, rfl, hpa, ?_, (by rw [toDs_map] at hus; exact hus), hfs, fun z => ?_, q⟩
     · rw [ha]
       rcases hs with h | h | h | h | h
       · exact absurd h.1 e1
       · exact absurd h.1 e2
       · exact absurd h.1 e4
       · rw [h.1]; rfl
       · rw [h.1]; rfl
     · subst z
       rcases hs with h | h | h | h | h
       · exact absurd h.1 e1
       · exact absurd h.1 e2
       · exact absurd h.1 e4
       · exact absurd h.2 (by decide)
       · exact absurd h.2 (by decide)
theorem ok_number0 (hf_row_number : HasF P w K mg base 1 ff ["places", "row"] spFd) (F : Fun K "number_by" "number_by" s_h f fd) : FnOk P w K mg base CX0 1 f fd ["row_number", "places", "t"] (spNb ff 0) := by
 refine F.ok sc_h (fun vs H Q E h => ?_) (fun cdv A outer s H vs Q E hr h => ?_)
 · obtain ⟨pa, v, rows, t, rfl, _⟩ := h
   rfl
 · obtain ⟨pa, v, rows, t, rfl, hpa, hv, hf, _⟩ := h
   exact hf.elim
theorem jM {g : Addr} {gd : FuncData} (hf_row_number : HasF P w K mg base 1 ff ["places", "row"] spFd) (h_m : Has P w K mg base 1 "turned" ["n", "turn"] spTu) (F : Fun K "number_by" "number_by" s_h f fd) (b : Binds K fd ["row_number", "places", "t"] []) (m : mg "number_by" = some (.ref f)) (G : Fun K "joined_number" "joined_number" s_a g gd) (bg : Binds K gd ["row_number", "places", "t"] []) (mgg : mg "joined_number" = some (.ref g)) : ∀ n, Has P w K mg base (2 * n + 2) "number_by" ["row_number", "places", "t"] (spNb ff n)
 | 0 => (yG F (ok_number0 hf_row_number F) b m).mono (by omega)
 | n + 1 => by
   have ih := jM hf_row_number h_m F b m G bg mgg n
   have hj := yG G (ok_joined (k := 2 * n + 1) hf_row_number h_m ih G) bg mgg
   exact yG F (ok_number (k := 2 * n + 1) hf_row_number h_m (ih.mono (by omega)) hj F) b m
theorem ok_num (mf_found : mg "found" = some (.ref ff)) (h_i : Has P w K mg base 1 "places_of" ["sheet"] spPo) (h_h : Has P w K mg base 46 "number_by" ["row_number", "places", "t"] (spNb ff 22)) (F : Fun K "number" "number" s_n f fd) : FnOk P w K mg base CX0 47 f fd ["sheet", "t"] spNo := by
 refine F.ok sc_n (fun vs H Q E h => ?_) (fun cdv A outer s H vs Q E hr h => ?_)
 · obtain ⟨sa, us, v, rows, t, rfl, _⟩ := h
   rfl
 obtain ⟨sa, us, v, rows, t, rfl, hsa, hrw, hnd, hrl, hv, hf, q⟩ := h
 refine ⟨_, (zF (zP (zJ h_h (hr.mono (by omega)) rfl (zA (pe_fnv mf_found rfl) (zA (zJ h_i (hr.mono (by omega)) rfl (zA (pv 0) pa_nil)) (zA (pv 1) pa_nil)))))), ?_⟩
 simp! []
 exact ⟨sa, us, rows, rfl, hsa, hrw, hnd, hrl, fun d H1 s1 kd => ⟨d, v, rows, t, rfl, kd, DAt.same s1 hv, hf, fun H2 s2 => q _ (s1.trans s2)⟩⟩
end
abbrev s_e : Stmt := top 13
theorem sc_e : FnScope ["n"] ["n"] (zI s_e) := ⟨rfl, rfl, rfl, by decide +kernel, rfl, by decide +kernel, by decide +kernel⟩
def spLt : Sp := fun vs H Q _ => ∃ n : Nat, vs = [.int n] /\ Q (.int (tnM n : Nat)) H
theorem wt_part : ∀ {ts : List Tm} {i : Nat} {t : Tm}, ts[i]? = some t -> wt t <= wts ts
 | [], _, _, h => by simp at h
 | u :: ts, 0, t, h => by
   simp at h
   subst h
   rw [wts]
   omega
 | u :: ts, i + 1, t, h => by
   rw [wts]
   have := wt_part (ts := ts) (i := i) (t := t) (by simpa using h)
   omega
def jn (rows : List Rw) : Nat -> List Nat -> Option Nat
 | m, [] => some m
 | m, n :: ns => (rix rows (.bo (m : Int) (n : Int))).bind fun k => jn rows (2 * k) ns
theorem numJ_jn {rows : List Rw} {e : Bool} : ∀ {ts : List Tm} {ms : List Nat} {m : Nat}, ts.map (num rows) = ms.map some -> xV rows e m ts = jn rows m (ms.map (tnB e))
 | [], [], m, _ => by rw [xV]; rfl
 | [], _ :: _, _, h => by cases h
 | _ :: _, [], _, h => by cases h
 | t :: ts, a :: ms, m, h => by
   obtain ⟨h1, h2⟩ := List.cons.inj h
   rw [xV, h1]
   show (rix rows _).bind _ = (rix rows _).bind _
   congr 1
   funext k
   exact numJ_jn h2
section
variable {P : Program} {w : World} {K : PySem.W.Frag} {mg : Str -> Option Value} {base : Heap} {f : Addr} {fd : FuncData}
theorem ok_lturned (F : Fun K "_law_turned" "_law_turned" s_e f fd) : FnOk P w K mg base CX0 1 f fd ["n"] spLt := by
 refine F.ok sc_e (fun vs H Q E h => ?_) (fun cdv A outer s H vs Q E hr h => ?_)
 · obtain ⟨n, rfl, _⟩ := h
   rfl
 obtain ⟨n, rfl, q⟩ := h
 refine ⟨_, (zF (zP (zM op_sub (zM op_add (pv 0) zC) (zM op_mul zC (zM op_mod (pv 0) zC))))), ?_⟩
 simp! []
 refine ⟨by decide, .inl ⟨by decide, by decide⟩, ?_⟩
 rw [show (n : Int) + 1 - 2 * ((n : Int) % 2) = ((tnM n : Nat) : Int) by unfold tnM; omega]
 exact q
end
abbrev s_f : Stmt := top 15
theorem sc_f : FnScope ["rows", "t", "made", "part", "n"] ["rows", "t"] (zI s_f) := ⟨rfl, rfl, rfl, by decide +kernel, rfl, by decide +kernel, by decide +kernel⟩
structure Ov (H J : Hp) (lg : Addr) (us : List V) : Prop where
 eq : H = upd J lg (.lst us)
 no : J lg = none
theorem Ov.at {H J : Hp} {lg : Addr} {us : List V} (h : Ov H J lg us) : H lg = some (.lst us) := by rw [h.eq]; exact zB
theorem Ov.sub {H J : Hp} {lg : Addr} {us : List V} (h : Ov H J lg us) : Same J H := by rw [h.eq]; exact zE h.no _
theorem Ov.ne {H J : Hp} {lg p : Addr} {us : List V} (h : Ov H J lg us) (hp : H p = none) : p ≠ lg := fun z => by
 rw [z, h.at] at hp
 cases hp
theorem Ov.free {H J : Hp} {lg p : Addr} {us : List V} (h : Ov H J lg us) (hp : H p = none) : J p = none := h.sub.free hp
theorem Ov.new {H J : Hp} {lg p : Addr} {us : List V} (h : Ov H J lg us) (hp : H p = none) (o : HO) : Ov (upd H p o) (upd J p o) lg us := by
 have hne := h.ne hp
 refine ⟨?_, by rw [zH (Ne.symm hne)]; exact h.no⟩
 rw [h.eq]
 funext b
 by_cases h1 : b = p
 · subst h1
   rw [zB, zH hne, zB]
 · rw [zH h1]
   by_cases h2 : b = lg
   · subst h2
     rw [zB, zB]
   · rw [zH h2, zH h2, zH h1]
theorem Ov.set {H J : Hp} {lg : Addr} {us : List V} (h : Ov H J lg us) (vs : List V) : Ov (upd H lg (.lst vs)) J lg vs := ⟨by rw [h.eq, qK], h.no⟩
theorem Ov.mk0 {H : Hp} {lg : Addr} (h : H lg = none) (us : List V) : Ov (upd H lg (.lst us)) H lg us := ⟨rfl, h⟩
theorem Ov.ext {H J H' : Hp} {lg : Addr} {us : List V} (h : Ov H J lg us) (e : Same H H') : ∃ J', Ov H' J' lg us /\ Same J J' := by
 refine ⟨fun b => if b = lg then none else H' b, ⟨?_, if_pos rfl⟩, fun b o hb => ?_⟩
 · funext b
   by_cases hb : b = lg
   · subst hb
     rw [zB]
     exact e _ _ h.at
   · rw [zH hb]
     exact (if_neg hb).symm
 · have hne : b ≠ lg := fun z => by rw [z, h.no] at hb; cases hb
   show (if b = lg then none else H' b) = some o
   rw [if_neg hne]
   exact e _ _ (h.sub _ _ hb)
theorem Ov.in_ {H J : Hp} {lg p : Addr} {us : List V} {o : HO} (h : Ov H J lg us) (hp : H p = some o) (hn : p ≠ lg) : J p = some o := by
 rw [h.eq, zH hn] at hp
 exact hp
theorem Ov.tup {H J : Hp} {lg p : Addr} {us vs : List V} (h : Ov H J lg us) (hp : H p = some (.tup vs)) : J p = some (.tup vs) := h.in_ hp fun z => by
 rw [z, h.at] at hp
 cases hp
theorem yL (rows : List Rw) : ∀ e ∈ rows.map dRw, DFit 2 e := fun e he => by
 obtain ⟨r, _, rfl⟩ := List.mem_map.mp he
 cases r <;> refine ⟨by simp, fun d hd => ?_⟩ <;> simp at hd
 · subst hd; trivial
 · rcases hd with rfl | rfl <;> trivial
 · rcases hd with rfl | rfl | rfl <;> trivial
theorem xZ {rows : List Rw} {r : Rw} {k : Nat} (h : rix rows r = some k) : ((rows.map dRw).any fun e => deq e (dRw r)) = true := by
 have hr2 := List.findIdx?_eq_some_iff_getElem.mp h
 exact List.any_eq_true.mpr ⟨_, List.mem_map.mpr ⟨_, List.getElem_mem hr2.1, rfl⟩, hr2.2.1⟩
theorem qQ {rows : List Rw} {r : Rw} (h : rix rows r = none) : ((rows.map dRw).any fun e => deq e (dRw r)) = false := by
 rw [List.any_map]
 exact List.any_eq_false.mpr (fun x hx => Bool.eq_false_iff.mp (List.findIdx?_eq_none_iff.mp h x hx))
theorem jH {rows : List Rw} {r : Rw} {k : Nat} (h : rix rows r = some k) : (∃ d', (rows.map dRw)[k]? = some d' /\ deq d' (dRw r) = true) /\ ∀ (m' : Nat) (d' : Dt), m' < k -> (rows.map dRw)[m']? = some d' -> deq d' (dRw r) = false := by
 have hr2 := List.findIdx?_eq_some_iff_getElem.mp h
 refine ⟨⟨_, by rw [List.getElem?_map, List.getElem?_eq_getElem hr2.1]; rfl, hr2.2.1⟩, fun m' d' hm' hd' => ?_⟩
 rw [List.getElem?_map] at hd'
 obtain ⟨r, hr3, rfl⟩ := Option.map_eq_some_iff.mp hd'
 obtain ⟨hl, he⟩ := List.getElem?_eq_some_iff.mp hr3
 have := hr2.2.2 m' hm'
 rw [he] at this
 exact Bool.eq_false_iff.mpr this
def spBd : Nat -> Sp
 | 0 => fun _ _ _ _ => False
 | 1 => fun _ _ _ _ => False
 | n + 2 => fun vs H Q _ => ∃ (ra : Addr) (us : List V) (v : V) (rows : List Rw) (t : Tm) (J : Hp), vs = [.ref ra, v] /\ Ov H J ra us /\ RwAts J rows us /\ Sht rows /\ rows.length + (2 * wt t - 1) <= 500 /\ TAt J t v /\ Fit n t /\ ∀ H' J' us', Same J J' -> Ov H' J' ra us' -> RwAts J' (bld t rows).1 us' -> Q (.int (bld t rows).2) H'
theorem RwAts.snoc {H : Hp} {rows : List Rw} {us : List V} {r : Rw} {v : V} (h : RwAts H rows us) (hv : DAt H (dRw r) v) : RwAts H (rows ++ [r]) (us ++ [v]) := by
 show DAts H ((rows ++ [r]).map dRw) _
 rw [List.map_append]
 exact DAts.append h ⟨_, _, rfl, hv, rfl⟩
section
variable {P : Program} {w : World} {K : PySem.W.Frag} {mg : Str -> Option Value} {base : Heap} {f : Addr} {fd : FuncData}
theorem ok_lbuild (bi : Bi mg) (h_e : Has P w K mg base 1 "_law_turned" ["n"] spLt) (F : Fun K "_law_build" "_law_build" s_f f fd) (b : Binds K fd ["rows", "t"] []) (m : mg "_law_build" = some (.ref f)) : ∀ n, FnOk P w K mg base CX0 n f fd ["rows", "t"] (spBd n) := by
 refine rec_ok F b m (fun vs H Q E h => h) (fun n h_f => ?_)
 cases n with
 | zero => exact F.ok sc_f (fun vs H Q E h => h.elim) (fun cdv A outer s H vs Q E hr h => h.elim)
 | succ n =>
 refine F.ok sc_f (fun vs H Q E h => ?_) (fun cdv A outer s H vs Q E hr h => ?_)
 · obtain ⟨ra, us, v, rows, t, J, rfl, _⟩ := h
   rfl
 obtain ⟨ra, us, v, rows, t, J, rfl, ov, hrw, hsh, hrl, hv, hf, q⟩ := h
 refine ⟨_, (zD (zY (zK (yF hr.units) (zZ ix_tup (pv 1) zC (fun _ _ => rfl)) zL (zN _)) (zF (zP zC)) pss_nil) (zD (zY (zK (yF hr.units) (zZ ix_tup (pv 1) zC (fun _ _ => rfl)) zL (zN _)) (zF (zP zC)) pss_nil) (zD (zY (zK (yF hr.units) (zZ ix_tup (pv 1) zC (fun _ _ => rfl)) zL (zN _)) (zD (zY (zK (xQ hr.units) (pv 1) (pv 0) (by with_unfolding_all rfl)) (zF (zV (yJ PySem.F.plainAttrs_list PySem.F.slot_list_append PySem.F.type_list_append mt_append (pv 0) (zA (pv 1) pa_nil)))) pss_nil) (zF (zP (zM op_mul zC (yJ PySem.F.plainAttrs_list PySem.F.slot_list_index PySem.F.type_list_index (yZ hr.units) (pv 0) (zA (pv 1) pa_nil)))))) pss_nil) (zD (zO (i := 2) sc_f.nd rfl (Or.inl rfl) (zJ h_f hr rfl (zA (pv 0) (zA (zZ ix_tup (pv 1) zC (fun _ _ => rfl)) pa_nil)))) (zD (zY (zK (yF hr.units) (zZ ix_tup (pv 1) zC (fun _ _ => rfl)) zL (zN _)) (zF (zP (zJ h_e (hr.mono (by omega)) rfl (zA (pv 2) pa_nil)))) pss_nil) (zD (zY (zK (yF hr.units) (zZ ix_tup (pv 1) zC (fun _ _ => rfl)) zL (zN _)) (zF (zO (i := 2) sc_f.nd rfl (Or.inl rfl) (zJ h_e (hr.mono (by omega)) rfl (zA (pv 2) pa_nil)))) pss_nil) (zD (yT PassesOwn.never rfl (qU (yC sl_tupG (pv 1) (yE zC) po_none)) (yH (i := 3) sc_f.nd rfl (Or.inl rfl)) (zD (zO (i := 4) sc_f.nd rfl (Or.inl rfl) (zJ h_f hr rfl (zA (pv 0) (zA (pv 3) pa_nil)))) (zD (zY (zK (yF hr.units) (zZ ix_tup (pv 1) zC (fun _ _ => rfl)) zL (zN _)) (zF (zO (i := 4) sc_f.nd rfl (Or.inl rfl) (zJ h_e (hr.mono (by omega)) rfl (zA (pv 4) pa_nil)))) pss_nil) (zD (zY (zK (xQ hr.units) (zS (zA zL (zA (pv 2) (zA (pv 4) pa_nil)))) (pv 0) (by with_unfolding_all rfl)) (zF (zV (yJ PySem.F.plainAttrs_list PySem.F.slot_list_append PySem.F.type_list_append mt_append (pv 0) (zA (zS (zA zL (zA (pv 2) (zA (pv 4) pa_nil)))) pa_nil)))) pss_nil) (zF (zO (i := 2) sc_f.nd rfl (Or.inl rfl) (zM op_mul zC (yJ PySem.F.plainAttrs_list PySem.F.slot_list_index PySem.F.type_list_index (yZ hr.units) (pv 0) (zA (zS (zA zL (zA (pv 2) (zA (pv 4) pa_nil)))) pa_nil))))))))) (zD (zY (zK (yF hr.units) (zZ ix_tup (pv 1) zC (fun _ _ => rfl)) zL (zN _)) (zF (zP (zJ h_e (hr.mono (by omega)) rfl (zA (pv 2) pa_nil)))) pss_nil) (zF (zP (pv 2))))))))))), ?_⟩
 have hra := ov.at
 cases t with
 | name x =>
   obtain ⟨a, vs, rfl, ha, u1, r1, rfl, h1, u2, r2, rfl, h2, h3⟩ := id hv
   have h1 : u1 = .str "name" := h1
   have h2 : u2 = .str x := h2
   have h3 : r2 = [] := h3
   subst h1 h2 h3
   rw [bld] at q
   replace ha := ov.sub _ _ ha
   refine zG fun N hN => ?_
   simp! [rEqG]
   refine ⟨_, SqT.of ha, _, at0, 0, .str "name", rfl, .str "none", rfl, trivial, by decide, ?_⟩
   rw [yP, if_neg (by decide)]
   refine hN _ _ ?_
   clear hN
   refine zG fun N hN => ?_
   simp! [rEqG]
   refine ⟨_, SqT.of ha, _, at0, 0, .str "name", rfl, .str "all", rfl, trivial, by decide, ?_⟩
   rw [yP, if_neg (by decide)]
   refine hN _ _ ?_
   clear hN
   refine zG fun N hN => ?_
   simp! [rEqG, rInG, rIndexG]
   refine ⟨_, SqT.of ha, _, at0, 0, .str "name", rfl, .str "name", rfl, trivial, by decide, ?_⟩
   rw [yP, if_pos (by decide)]
   have hda : DAt J (dRw (.nm x)) (.ref a) := hv
   have hdh := DAt.same ov.sub hda
   refine ⟨2, _, hdh, rows.map dRw, .inl ⟨ra, us, rfl, hra, DAts.same ov.sub hrw⟩, yL rows, by decide, ?_⟩
   cases c : rix rows (.nm x) with
   | some k =>
     have hk := rix_lt c
     obtain ⟨i1, i2⟩ := jH c
     rw [xZ c, if_neg (by decide)]
     unfold xD at q
     rw [c] at q
     refine ⟨.inl ⟨rfl, _, SqL.of hra⟩, _, hra, _, DAts.same ov.sub hrw, _, hdh, 2, yL rows, by decide, by rw [List.length_map]; omega, k, i1, i2, .inl ⟨by decide, by decide⟩, ?_⟩
     rw [show (2 : Int) * (k : Int) = ((2 * k : Nat) : Int) by omega]
     exact q _ _ _ (Same.refl _) ov hrw
   | none =>
     rw [qQ c, if_pos (by decide)]
     unfold xD at q
     rw [c] at q
     have hul : us.length = rows.length := by have := DAts.length hrw; rwa [List.length_map] at this
     rw [wt] at hrl
     have ov2 := ov.set (us ++ [V.ref a])
     have hrw2 := hrw.snoc hda
     have c2 := rix_snoc c
     obtain ⟨i1, i2⟩ := jH c2
     refine ⟨.inl ⟨rfl, _, SqL.of hra⟩, us, hra, zR (by omega), ?_⟩
     generalize upd H ra (.lst (us ++ [V.ref a])) = H2 at ov2 ⊢
     refine ⟨.inl ⟨rfl, _, SqL.of ov2.at⟩, _, ov2.at, _, DAts.same ov2.sub hrw2, _, DAt.same ov2.sub hda, 2, yL _, by decide, by rw [List.length_map, List.length_append, List.length_singleton]; omega, _, i1, i2, .inl ⟨by decide, by decide⟩, ?_⟩
     rw [show (2 : Int) * (rows.length : Int) = ((2 * rows.length : Nat) : Int) by omega]
     exact q _ _ _ (Same.refl _) ov2 hrw2
 | node wd ts =>
   obtain ⟨a, vs, rfl, ha, u1, ws, rfl, h1, hws⟩ := id hv
   have h1 : u1 = .str wd := h1
   subst h1
   have hf' : FitP (n + 1) (.node wd ts) := hf
   obtain ⟨hs, hfs⟩ := hf'.node
   rw [toDs_map] at hws
   rw [wt] at hrl
   rw [bld] at q
   have step : ∀ {G : Hp} {c : Str} {A B : Prop}, G a = some (.tup (.str wd :: ws)) -> (wd = c -> A) -> (wd ≠ c -> B) -> ∃ x, SqT K G a x /\ ∃ x_1, atI x 0 = some x_1 /\ ∃ n_1 d, DAt G d x_1 /\ ∃ x, DAt G x (V.str c) /\ DFit (n_1 + 1) d /\ n_1 <= 60 /\ if deq d x = true then A else B := fun {G c A B} hg h1 h2 => by
     refine ⟨_, SqT.of hg, _, at0, 0, .str wd, rfl, .str c, rfl, trivial, by decide, ?_⟩
     rw [yP]
     by_cases e : wd = c
     · rw [if_pos (decide_eq_true e)]; exact h1 e
     · rw [if_neg (by simp [e])]; exact h2 e
   refine zG fun N hN => ?_
   simp! [rEqG]
   refine step (ov.sub _ _ ha) (fun e => ?_) (fun e1 => hN _ _ ?_)
   · rw [if_pos e] at q
     exact q _ _ _ (Same.refl _) ov hrw
   clear hN
   refine zG fun N hN => ?_
   simp! [rEqG]
   refine step (ov.sub _ _ ha) (fun e => ?_) (fun e2 => hN _ _ ?_)
   · rw [if_neg e1, if_pos e] at q
     exact q _ _ _ (Same.refl _) ov hrw
   clear hN
   refine zG fun N hN => ?_
   simp! [rEqG]
   refine step (ov.sub _ _ ha) (fun e => ?_) (fun e3 => hN _ _ ?_)
   · subst e
     rcases hs with h | h | h | h | h <;> exact absurd h.1 (by decide)
   clear hN
   rw [if_neg e1, if_neg e2] at q
   obtain ⟨t0, ts', rfl⟩ : ∃ t0 ts', ts = t0 :: ts' := by
     cases ts with
     | nil =>
       rcases hs with h | h | h | h | h
       · exact absurd h.1 e1
       · exact absurd h.1 e2
       · cases h.2
       · exact absurd h.2 (by decide)
       · exact absurd h.2 (by decide)
     | cons t0 ts' => exact ⟨t0, ts', rfl⟩
   have hws0 := hws
   obtain ⟨u0, ws', rfl, hu0, hws'⟩ := hws
   have hwl : ws'.length = ts'.length := by have := DAts.length hws'; rwa [List.length_map] at this
   have hft0 := hfs t0 List.mem_cons_self
   rw [wts] at hrl
   cases n with
   | zero => exact hft0.elim
   | succ n =>
   obtain ⟨g1, g2, g3, g4⟩ := bld_grw t0 n rows hft0 hsh
   refine zG fun N hN => ?_
   simp! []
   refine ⟨_, SqT.of (ov.sub _ _ ha), _, yI (j := 1) rfl, ra, us, u0, rows, t0, J, rfl, ov, hrw, hsh, by omega, hu0, hft0, fun H1 J1 us1 s1 ov1 hrw1 => hN _ _ ?_⟩
   clear hN
   have hw0 := wt_pos t0
   generalize hr1 : (bld t0 rows).1 = rows1 at g1 g2 g3 g4 hrw1
   generalize hm1 : (bld t0 rows).2 = m1 at g4 ⊢
   have ha1 := s1 _ _ ha
   refine zG fun N hN => ?_
   simp! [rEqG]
   refine step (ov1.sub _ _ ha1) (fun e => ?_) (fun e4 => hN _ _ ?_)
   · rw [if_pos e] at q
     have hl : ts' = [] := by
       rcases hs with h | h | h | h | h
       · exact absurd h.1 e1
       · exact absurd h.1 e2
       · exact List.length_eq_zero_iff.mp (Nat.succ.inj h.2)
       · rw [h.1] at e; exact absurd e (by decide)
       · rw [h.1] at e; exact absurd e (by decide)
     subst hl
     rw [xM, xG, hr1, hm1] at q
     exact ⟨m1, rfl, q _ _ _ s1 ov1 hrw1⟩
   clear hN
   rw [if_neg e4] at q
   obtain ⟨ee, hee⟩ : ∃ ee, ee = decide (wd = "either") := ⟨_, rfl⟩
   rw [← hee, xM, hr1, hm1] at q
   refine yA (fun σ G => G = H1 /\ σ = [some (V.ref ra), some (V.ref a), some (V.int (tnB ee m1 : Nat)), none, none]) (fun N hN => ?_) (fun σ G h => ?_)
   · simp! [rEqG]
     refine step (ov1.sub _ _ ha1) (fun e => ?_) (fun e5 => hN _ _ ?_)
     · rw [decide_eq_true e] at hee
       subst hee
       exact ⟨m1, rfl, hN _ _ ⟨rfl, rfl⟩⟩
     · rw [decide_eq_false e5] at hee
       subst hee
       exact ⟨rfl, rfl⟩
   obtain ⟨rfl, rfl⟩ := h
   have g5 : tnB ee m1 < 2 * rows1.length := jE g4
   generalize hm2 : tnB ee m1 = m2 at g5 q ⊢
   refine yA (fun σ G => ∃ (J' : Hp) (us' : List V) (o3 o4 : Option V), Same J1 J' /\ Ov G J' ra us' /\ RwAts J' (xG ee ts' rows1 m2).1 us' /\ σ = [some (V.ref ra), some (V.ref a), some (V.int ((xG ee ts' rows1 m2).2 : Nat)), o3, o4]) (fun N hN => ?_) (fun σ G h => ?_)
   · simp! [rSlG]
     refine ⟨_, ov1.sub _ _ ha1, fun p H2 s2 kp => ?_⟩
     rw [cut_two] at kp
     obtain ⟨J2, ov2, s2'⟩ := ov1.ext s2
     have kp2 := ov2.tup kp
     refine ⟨⟨_, SqT.of kp⟩, ?_⟩
     refine qZ (xs := ws') (fun i σ G => ∃ (J' : Hp) (us' : List V) (rows' : List Rw) (mi : Nat) (o3 o4 : Option V), Same J2 J' /\ Ov G J' ra us' /\ RwAts J' rows' us' /\ Sht rows' /\ rows'.length + 2 * wts (ts'.drop i) <= 500 /\ mi < 2 * rows'.length /\ xG ee (ts'.drop i) rows' mi = xG ee ts' rows1 m2 /\ σ = [some (V.ref ra), some (V.ref a), some (V.int (mi : Nat)), o3, o4]) ⟨J2, us1, rows1, m2, _, _, Same.refl _, ov2, DAts.same s2' hrw1, g1, by rw [List.drop_zero]; omega, g5, by rw [List.drop_zero], rfl⟩ (fun i σ G _ h => by obtain ⟨_, _, _, _, _, _, sg, og, _⟩ := h; exact SqT.of (og.sub _ _ (sg _ _ kp2))) (fun i x σ G hx h => ?_) (fun σ G h => ?_)
     · obtain ⟨J3, us3, rows3, mi, o3, o4, s3, ov3, hrw3, hsh3, hl3, hmi, hb3, rfl⟩ := h
       obtain ⟨t, hti, hx'⟩ := xA (f := toD) hws' hx
       obtain ⟨hil, hie⟩ := List.getElem?_eq_some_iff.mp hti
       rw [List.drop_eq_getElem_cons hil, hie, wts] at hl3
       rw [List.drop_eq_getElem_cons hil, hie, xG] at hb3
       have hft := hfs t (List.mem_cons_of_mem _ (List.mem_of_getElem? hti))
       obtain ⟨d1, d2, d3, d4⟩ := bld_grw t n rows3 hft hsh3
       have hw1 := wt_pos t
       refine zG fun N hN => ?_
       simp! []
       refine ⟨ra, us3, x, rows3, t, J3, rfl, ov3, hrw3, hsh3, by omega, DAt.same (s1.trans (s2'.trans s3)) hx', hft, fun H4 J4 us4 s4 ov4 hrw4 => hN _ _ ?_⟩
       clear hN
       generalize hr4 : (bld t rows3).1 = rows4 at d1 d2 d3 d4 hrw4 hb3
       generalize hm4 : (bld t rows3).2 = m4 at d4 hb3 ⊢
       have ha4 := (s2'.trans (s3.trans s4)) _ _ ha1
       refine yA (fun σ G => G = H4 /\ σ = [some (V.ref ra), some (V.ref a), some (V.int (mi : Nat)), some x, some (V.int (tnB ee m4 : Nat))]) (fun N hN => ?_) (fun σ G h => ?_)
       · simp! [rEqG]
         refine step (ov4.sub _ _ ha4) (fun e => ?_) (fun e5 => hN _ _ ?_)
         · rw [decide_eq_true e] at hee
           subst hee
           exact ⟨m4, rfl, hN _ _ ⟨rfl, rfl⟩⟩
         · rw [decide_eq_false e5] at hee
           subst hee
           exact ⟨rfl, rfl⟩
       obtain ⟨rfl, rfl⟩ := h
       have d5 : tnB ee m4 < 2 * rows4.length := jE d4
       generalize hm5 : tnB ee m4 = m5 at d5 hb3 ⊢
       have hnx : RNext rows4.length (.bo (mi : Int) (m5 : Int)) := ⟨⟨by omega, by omega⟩, by omega, by omega⟩
       obtain ⟨f1, f2, f3, f4⟩ := jG (r := .bo (mi : Int) (m5 : Int)) d1 hnx
       refine yA (fun σ G => ∃ (J' : Hp) (us' : List V), Same J4 J' /\ Ov G J' ra us' /\ RwAts J' (xD rows4 (.bo (mi : Int) (m5 : Int))).1 us' /\ σ = [some (V.ref ra), some (V.ref a), some (V.int (mi : Nat)), some x, some (V.int (m5 : Nat))]) (fun N hN => ?_) (fun σ G h => ?_)
       · simp! [rInG]
         refine ⟨small (by decide), fun p4 hp4 => ?_⟩
         have ov5 := ov4.new hp4 (.tup [V.str "both", V.int (mi : Int), V.int (m5 : Int)])
         have s5 := zE (ov4.free hp4) (.tup [V.str "both", V.int (mi : Int), V.int (m5 : Int)])
         have hd5 : DAt (upd J4 p4 (.tup [V.str "both", V.int (mi : Int), V.int (m5 : Int)])) (dRw (.bo (mi : Int) (m5 : Int))) (.ref p4) := ⟨p4, _, rfl, zB, _, _, rfl, rfl, _, _, rfl, rfl, _, _, rfl, rfl, rfl⟩
         generalize upd J4 p4 (.tup [V.str "both", V.int (mi : Int), V.int (m5 : Int)]) = J5 at ov5 s5 hd5
         generalize upd G p4 (.tup [V.str "both", V.int (mi : Int), V.int (m5 : Int)]) = H5 at ov5 ⊢
         refine ⟨2, _, DAt.same ov5.sub hd5, rows4.map dRw, .inl ⟨ra, us4, rfl, ov5.at, DAts.same (s5.trans ov5.sub) hrw4⟩, yL rows4, by decide, ?_⟩
         cases c : rix rows4 (.bo (mi : Int) (m5 : Int)) with
         | some k =>
           rw [xZ c, if_neg (by decide)]
           refine hN _ _ ⟨J5, us4, s5, ov5, ?_, rfl⟩
           unfold xD
           rw [c]
           exact DAts.same s5 hrw4
         | none =>
           rw [qQ c, if_pos (by decide)]
           have hul : us4.length = rows4.length := by have := DAts.length hrw4; rwa [List.length_map] at this
           refine ⟨.inl ⟨rfl, _, SqL.of ov5.at⟩, small (by decide), fun p5 hp5 => ?_⟩
           have ov6 := ov5.new hp5 (.tup [V.str "both", V.int (mi : Int), V.int (m5 : Int)])
           have s6 := zE (ov5.free hp5) (.tup [V.str "both", V.int (mi : Int), V.int (m5 : Int)])
           have hd6 : DAt (upd J5 p5 (.tup [V.str "both", V.int (mi : Int), V.int (m5 : Int)])) (dRw (.bo (mi : Int) (m5 : Int))) (.ref p5) := ⟨p5, _, rfl, zB, _, _, rfl, rfl, _, _, rfl, rfl, _, _, rfl, rfl, rfl⟩
           generalize upd J5 p5 (.tup [V.str "both", V.int (mi : Int), V.int (m5 : Int)]) = J6 at ov6 s6 hd6
           generalize upd H5 p5 (.tup [V.str "both", V.int (mi : Int), V.int (m5 : Int)]) = H6 at ov6 ⊢
           refine ⟨us4, ov6.at, zR (by omega), hN _ _ ⟨J6, us4 ++ [V.ref p5], s5.trans s6, ov6.set _, ?_, rfl⟩⟩
           unfold xD
           rw [c]
           exact RwAts.snoc (DAts.same (s5.trans s6) hrw4) hd6
       obtain ⟨J6, us6, s6, ov6, hrw6, rfl⟩ := h
       obtain ⟨k, hk1, hk2⟩ := rput_at rows4 (.bo (mi : Int) (m5 : Int))
       generalize hr6 : (xD rows4 (.bo (mi : Int) (m5 : Int))).1 = rows6 at f1 f2 f3 f4 hrw6 hb3 hk1
       rw [hk2] at hb3 f4
       obtain ⟨i1, i2⟩ := jH hk1
       simp! [rIndexG]
       refine ⟨.inl ⟨rfl, _, SqL.of ov6.at⟩, small (by decide), fun p5 hp5 => ?_⟩
       have ov7 := ov6.new hp5 (.tup [V.str "both", V.int (mi : Int), V.int (m5 : Int)])
       have s7 := zE (ov6.free hp5) (.tup [V.str "both", V.int (mi : Int), V.int (m5 : Int)])
       have hd7 : DAt (upd J6 p5 (.tup [V.str "both", V.int (mi : Int), V.int (m5 : Int)])) (dRw (.bo (mi : Int) (m5 : Int))) (.ref p5) := ⟨p5, _, rfl, zB, _, _, rfl, rfl, _, _, rfl, rfl, _, _, rfl, rfl, rfl⟩
       generalize upd J6 p5 (.tup [V.str "both", V.int (mi : Int), V.int (m5 : Int)]) = J7 at ov7 s7 hd7
       generalize upd G p5 (.tup [V.str "both", V.int (mi : Int), V.int (m5 : Int)]) = H7 at ov7 ⊢
       refine ⟨_, ov7.at, _, DAts.same (s7.trans ov7.sub) hrw6, dRw (.bo (mi : Int) (m5 : Int)), DAt.same ov7.sub hd7, 2, yL _, by decide, by rw [List.length_map]; omega, k, i1, i2, .inl ⟨by decide, by decide⟩, ?_⟩
       exact ⟨J7, s3.trans (s4.trans (s6.trans s7)), us6, ov7, rows6, DAts.same s7 hrw6, f1, by omega, 2 * k, f4, hb3, by omega, _, rfl⟩
     · obtain ⟨J3, us3, rows3, mi, o3, o4, s3, ov3, hrw3, hsh3, hl3, hmi, hb3, rfl⟩ := h
       rw [hwl, List.drop_length, xG] at hb3
       refine hN _ _ ⟨J3, us3, o3, o4, s2'.trans s3, ov3, ?_, ?_⟩
       · rw [← hb3]; exact hrw3
       · rw [← hb3]
   obtain ⟨J', us', o3, o4, sJ, ov', hrw', rfl⟩ := h
   simp! [rEqG]
   refine step (ov'.sub _ _ (sJ _ _ ha1)) (fun e => ?_) (fun e5 => ?_)
   · rw [decide_eq_true e] at hee
     subst hee
     exact ⟨_, rfl, q _ _ _ (s1.trans sJ) ov' hrw'⟩
   · rw [decide_eq_false e5] at hee
     subst hee
     exact q _ _ _ (s1.trans sJ) ov' hrw'
end
abbrev s_d : Stmt := top 14
theorem sc_d : FnScope ["rows", "t", "numbers", "made", "n"] ["rows", "t"] (zI s_d) := ⟨rfl, rfl, rfl, by decide +kernel, rfl, by decide +kernel, by decide +kernel⟩
abbrev s_l : Stmt := top 16
theorem sc_l : FnScope ["found_v", "due"] ["found_v", "due"] (zI s_l) := ⟨rfl, rfl, rfl, by decide +kernel, rfl, by decide +kernel, by decide +kernel⟩
def dI : Option Nat -> Int
 | some n => n
 | none => -1
theorem qD {rows : List Rw} {e : Bool} : ∀ {ts : List Tm} (m : Nat), (∃ t ∈ ts, num rows t = none) -> xV rows e m ts = none
 | [], m, h => by obtain ⟨t, ht, _⟩ := h; cases ht
 | t :: ts, m, h => by
   rw [xV]
   cases c : num rows t with
   | none => rfl
   | some n =>
     obtain ⟨u, hu, hn⟩ := h
     rcases List.mem_cons.mp hu with rfl | hu
     · rw [c] at hn; cases hn
     · show (rix rows _).bind _ = none
       cases rix rows (.bo (m : Int) (tnB e n : Nat)) with
       | none => rfl
       | some k => exact qD (2 * k) ⟨u, hu, hn⟩
theorem qE {rows : List Rw} {e : Bool} {ts : List Tm} (h : ∃ t ∈ ts, num rows t = none) : xW rows e ts = none := by
 cases ts with
 | nil => rw [xW]
 | cons t ts =>
   rw [xW]
   cases c : num rows t with
   | none => rfl
   | some n =>
     obtain ⟨u, hu, hn⟩ := h
     rcases List.mem_cons.mp hu with rfl | hu
     · rw [c] at hn; cases hn
     · exact qD _ ⟨u, hu, hn⟩
theorem all_num (rows : List Rw) : ∀ ts : List Tm, (∃ t ∈ ts, num rows t = none) \/ ∃ ms : List Nat, ts.map (num rows) = ms.map some
 | [] => .inr ⟨[], rfl⟩
 | t :: ts => by
   cases c : num rows t with
   | none => exact .inl ⟨t, List.mem_cons_self, c⟩
   | some n =>
     rcases all_num rows ts with ⟨u, hu, hn⟩ | ⟨ms, hm⟩
     · exact .inl ⟨u, List.mem_cons_of_mem _ hu, hn⟩
     · exact .inr ⟨n :: ms, by rw [List.map_cons, List.map_cons, c, hm]⟩
def spLn : Nat -> Sp
 | 0 => fun _ _ _ _ => False
 | 1 => fun _ _ _ _ => False
 | n + 2 => fun vs H Q _ => ∃ (ra : Addr) (us : List V) (v : V) (rows : List Rw) (t : Tm), vs = [.ref ra, v] /\ H ra = some (.lst us) /\ RwAts H rows us /\ rows.length <= 500 /\ TAt H t v /\ Fit n t /\ wt t <= 400 /\ ∀ H', Same H H' -> Q (.int (dI (num rows t))) H'
def spSm : Sp := fun vs H Q _ => ∃ o : Option Nat, vs = [vO o, .int (dI o)] /\ Q (.bl true) H
section
variable {P : Program} {w : World} {K : PySem.W.Frag} {mg : Str -> Option Value} {base : Heap} {f : Addr} {fd : FuncData}
theorem ok_lnumber (bi : Bi mg) (bmn : mg "min" = none) (h_e : Has P w K mg base 1 "_law_turned" ["n"] spLt) (F : Fun K "_law_number" "_law_number" s_d f fd) (b : Binds K fd ["rows", "t"] []) (m : mg "_law_number" = some (.ref f)) : ∀ n, FnOk P w K mg base CX0 n f fd ["rows", "t"] (spLn n) := by
 refine rec_ok F b m (fun vs H Q E h => h) (fun n h_d => ?_)
 cases n with
 | zero => exact F.ok sc_d (fun vs H Q E h => h.elim) (fun cdv A outer s H vs Q E hr h => h.elim)
 | succ n =>
 refine F.ok sc_d (fun vs H Q E h => ?_) (fun cdv A outer s H vs Q E hr h => ?_)
 · obtain ⟨ra, us, v, rows, t, rfl, _⟩ := h
   rfl
 obtain ⟨ra, us, v, rows, t, rfl, hra, hrw, hrl, hv, hf, hwt, q⟩ := h
 refine ⟨_, (zD (zY (zK (yF hr.units) (zZ ix_tup (pv 1) zC (fun _ _ => rfl)) zL (zN _)) (zF (zP zC)) pss_nil) (zD (zY (zK (yF hr.units) (zZ ix_tup (pv 1) zC (fun _ _ => rfl)) zL (zN _)) (zF (zP zC)) pss_nil) (zD (zY (zK (yF hr.units) (zZ ix_tup (pv 1) zC (fun _ _ => rfl)) zL (zN _)) (zD (zY (zK (op_inG hr.units) (pv 1) (pv 0) (by with_unfolding_all rfl)) (zF (zP (zM op_mul zC (yJ PySem.F.plainAttrs_list PySem.F.slot_list_index PySem.F.type_list_index (yZ hr.units) (pv 0) (zA (pv 1) pa_nil))))) pss_nil) (zF (zP (pe_un un_neg zC)))) pss_nil) (zD (ps_comp (i := 2) ["part"] ["rows"] [0] sc_d.nd rfl (qU (yC sl_tupG (pv 1) (yE zC) po_none)) (fun _ _ _ _ nd => yH (i := 0) nd rfl (Or.inl rfl)) (fun _ _ _ _ => qT) (fun _ _ _ _ => (zJ h_d hr rfl (zA (pv 1) (zA (pv 0) pa_nil))))) (zD (zY (zK op_lt (yB call_minI rfl bmn bt_min (zA (pv 2) pa_nil)) zC (zN _)) (zF (zP (pe_un un_neg zC))) pss_nil) (zD (zY (zK (yF hr.units) (zZ ix_tup (pv 1) zC (fun _ _ => rfl)) zL (zN _)) (zF (zP (zJ h_e (hr.mono (by omega)) rfl (zA (zZ ix_list (pv 2) zC (fun _ _ => rfl)) pa_nil)))) pss_nil) (zD (zY (zK (yF hr.units) (zZ ix_tup (pv 1) zC (fun _ _ => rfl)) zL (zN _)) (zF (ps_comp (i := 2) ["n"] [] [] sc_d.nd rfl (jA (pv 2)) (fun _ _ _ _ nd => yH (i := 0) nd rfl (Or.inl rfl)) (fun _ _ _ _ => qT) (fun _ _ _ _ => (zJ h_e (hr.mono (by omega)) rfl (zA (pv 0) pa_nil))))) pss_nil) (zD (zO (i := 3) sc_d.nd rfl (Or.inl rfl) (zZ ix_list (pv 2) zC (fun _ _ => rfl))) (zD (yT PassesOwn.never rfl (jA (yC sl_list (pv 2) (yE zC) po_none)) (yH (i := 4) sc_d.nd rfl (Or.inl rfl)) (zD (zY (zK (xQ hr.units) (zS (zA zL (zA (pv 3) (zA (pv 4) pa_nil)))) (pv 0) (by with_unfolding_all rfl)) (zF (zP (pe_un un_neg zC))) pss_nil) (zF (zO (i := 3) sc_d.nd rfl (Or.inl rfl) (zM op_mul zC (yJ PySem.F.plainAttrs_list PySem.F.slot_list_index PySem.F.type_list_index (yZ hr.units) (pv 0) (zA (zS (zA zL (zA (pv 3) (zA (pv 4) pa_nil)))) pa_nil))))))) (zD (zY (zK (yF hr.units) (zZ ix_tup (pv 1) zC (fun _ _ => rfl)) zL (zN _)) (zF (zP (zJ h_e (hr.mono (by omega)) rfl (zA (pv 3) pa_nil)))) pss_nil) (zF (zP (pv 3))))))))))))), ?_⟩
 cases t with
 | name x =>
   obtain ⟨a, vs, rfl, ha, u1, r1, rfl, h1, u2, r2, rfl, h2, h3⟩ := id hv
   have h1 : u1 = .str "name" := h1
   have h2 : u2 = .str x := h2
   have h3 : r2 = [] := h3
   subst h1 h2 h3
   rw [num] at q
   refine zG fun N hN => ?_
   simp! [rEqG]
   refine ⟨_, SqT.of ha, _, at0, 0, .str "name", rfl, .str "none", rfl, trivial, by decide, ?_⟩
   rw [yP, if_neg (by decide)]
   refine hN _ _ ?_
   clear hN
   refine zG fun N hN => ?_
   simp! [rEqG]
   refine ⟨_, SqT.of ha, _, at0, 0, .str "name", rfl, .str "all", rfl, trivial, by decide, ?_⟩
   rw [yP, if_neg (by decide)]
   refine hN _ _ ?_
   clear hN
   refine zG fun N hN => ?_
   simp! [rEqG, rInG, rIndexG]
   refine ⟨_, SqT.of ha, _, at0, 0, .str "name", rfl, .str "name", rfl, trivial, by decide, ?_⟩
   rw [yP, if_pos (by decide)]
   have hda : DAt H (dRw (.nm x)) (.ref a) := hv
   refine ⟨2, _, hda, rows.map dRw, .inl ⟨ra, us, rfl, hra, hrw⟩, yL rows, by decide, ?_⟩
   cases c : rix rows (.nm x) with
   | some k =>
     have hk := rix_lt c
     obtain ⟨i1, i2⟩ := jH c
     rw [c] at q
     rw [xZ c, if_pos (by decide)]
     refine ⟨.inl ⟨rfl, _, SqL.of hra⟩, _, hra, _, hrw, _, hda, 2, yL rows, by decide, by rw [List.length_map]; omega, k, i1, i2, .inl ⟨by decide, by decide⟩, ?_⟩
     rw [show (2 : Int) * (k : Int) = ((2 * k : Nat) : Int) by omega]
     exact q _ (Same.refl _)
   | none =>
     rw [c] at q
     rw [qQ c, if_neg (by decide)]
     exact q _ (Same.refl _)
 | node wd ts =>
   obtain ⟨a, vs, rfl, ha, u1, ws, rfl, h1, hws⟩ := id hv
   have h1 : u1 = .str wd := h1
   subst h1
   have hf' : FitP (n + 1) (.node wd ts) := hf
   obtain ⟨hs, hfs⟩ := hf'.node
   rw [toDs_map] at hws
   rw [wt] at hwt
   have hwts := wts_len ts
   have hwl : ws.length = ts.length := by have := DAts.length hws; rwa [List.length_map] at this
   rw [num] at q
   have step : ∀ {J : Hp} {c : Str} {A B : Prop}, Same H J -> (wd = c -> A) -> (wd ≠ c -> B) -> ∃ x, SqT K J a x /\ ∃ x_1, atI x 0 = some x_1 /\ ∃ n_1 d, DAt J d x_1 /\ ∃ x, DAt J x (V.str c) /\ DFit (n_1 + 1) d /\ n_1 <= 60 /\ if deq d x = true then A else B := fun {J c A B} sj h1 h2 => by
     refine ⟨_, SqT.of (sj _ _ ha), _, at0, 0, .str wd, rfl, .str c, rfl, trivial, by decide, ?_⟩
     rw [yP]
     by_cases e : wd = c
     · rw [if_pos (decide_eq_true e)]; exact h1 e
     · rw [if_neg (by simp [e])]; exact h2 e
   refine zG fun N hN => ?_
   simp! [rEqG]
   refine step (Same.refl _) (fun e => ?_) (fun e1 => hN _ _ ?_)
   · rw [if_pos e] at q
     exact q _ (Same.refl _)
   clear hN
   refine zG fun N hN => ?_
   simp! [rEqG]
   refine step (Same.refl _) (fun e => ?_) (fun e2 => hN _ _ ?_)
   · rw [if_neg e1, if_pos e] at q
     exact q _ (Same.refl _)
   clear hN
   refine zG fun N hN => ?_
   simp! [rEqG]
   refine step (Same.refl _) (fun e => ?_) (fun e3 => hN _ _ ?_)
   · subst e
     rcases hs with h | h | h | h | h <;> exact absurd h.1 (by decide)
   clear hN
   rw [if_neg e1, if_neg e2] at q
   obtain ⟨mm, hmm⟩ : ∃ mm : List Int, mm = ts.map fun t => dI (num rows t) := ⟨_, rfl⟩
   have hml : mm.length = ts.length := by rw [hmm, List.length_map]
   have hne : ts ≠ [] := fun z => by
     subst z
     rcases hs with h | h | h | h | h
     · exact e1 h.1
     · exact e2 h.1
     · cases h.2
     · exact absurd h.2 (by decide)
     · exact absurd h.2 (by decide)
   have hmne : mm ≠ [] := fun z => hne (by rw [z] at hml; exact List.length_eq_zero_iff.mp hml.symm)
   refine zG fun N hN => ?_
   simp! [rSlG]
   refine ⟨_, ha, fun p H2 s2 kp => ?_⟩
   rw [xL] at kp
   refine ⟨⟨_, SqT.of kp⟩, ?_⟩
   refine lc_tup (xs := ws) (fun i ys σ H' => Same H2 H' /\ ys = (mm.take i).map V.int /\ ∃ o, σ = [o, some (V.ref ra)]) ⟨Same.refl _, rfl, _, rfl⟩ ?_ (fun i ys σ H' e => ?_) (fun i ys σ H' e => SqT.of (e.1 _ _ kp)) (fun i x ys σ H' C hx e hC => ?_) (fun ys σ H' e p2 hp2 => hN _ _ ?_)
   · exact small (by omega)
   · rw [e.2.1, List.length_map, List.length_take]; omega
   · obtain ⟨es, rfl, o, rfl⟩ := e
     obtain ⟨t, hti, hx'⟩ := xA (f := toD) hws hx
     obtain ⟨hil, hie⟩ := List.getElem?_eq_some_iff.mp hti
     have hnt : mm[i]'(by omega) = dI (num rows t) := by
       have h1 : mm[i]? = some (dI (num rows t)) := by rw [hmm, List.getElem?_map, hti]; rfl
       exact (List.getElem?_eq_some_iff.mp h1).2
     have hft := hfs t (List.mem_of_getElem? hti)
     have sA := s2.trans es
     simp! []
     cases n with
     | zero => exact hft.elim
     | succ n =>
       refine ⟨ra, us, x, rows, t, rfl, sA _ _ hra, DAts.same sA hrw, hrl, DAt.same sA hx', hft, (by have := wt_part hti; omega), fun H3 s3 => hC _ _ _ ⟨es.trans s3, ?_, _, rfl⟩⟩
       rw [List.take_succ_eq_append_getElem (by omega), List.map_append, hnt]
       rfl
   clear hN
   obtain ⟨es, rfl, o, rfl⟩ := e
   rw [List.take_of_length_le (by omega)]
   have kn : upd H' p2 (.lst (mm.map V.int)) p2 = some (.lst (mm.map V.int)) := zB
   have sB := (s2.trans es).trans (zE hp2 (.lst (mm.map V.int)))
   generalize upd H' p2 (.lst (mm.map V.int)) = H4 at kn sB ⊢
   refine zG fun N hN => ?_
   simp! []
   refine ⟨mm, SqL.of kn, hmne, ?_⟩
   rcases all_num rows ts with hno | ⟨ms, hms⟩
   · have hlt : minI mm < 0 := by
       obtain ⟨t, ht, hn⟩ := hno
       have : (-1 : Int) ∈ mm := by
         rw [hmm]
         exact List.mem_map.mpr ⟨t, ht, by rw [hn]; rfl⟩
       have := minI_le this
       omega
     rw [if_pos hlt]
     rw [qE hno, qE hno, Option.map_none, Option.map_none, ite_self] at q
     exact q _ sB
   have emm : mm = ms.map fun x : Nat => (x : Int) := by
     rw [hmm]
     have h1 : (ts.map fun t => dI (num rows t)) = (ts.map (num rows)).map dI := by rw [List.map_map]; rfl
     rw [h1, hms, List.map_map]
     rfl
   have hmin : ¬ minI mm < 0 := fun z => by
     have := minI_mem (ns := mm) hmne
     rw [emm] at this
     obtain ⟨x, _, hx⟩ := List.mem_map.mp this
     rw [← emm] at hx
     omega
   rw [if_neg hmin]
   refine hN _ _ ?_
   clear hN hmin
   obtain ⟨m0, ms', ems⟩ : ∃ m0 ms', ms = m0 :: ms' := by
     cases ms with
     | nil =>
       rw [emm] at hmne
       exact absurd rfl hmne
     | cons m0 ms' => exact ⟨m0, ms', rfl⟩
   have emV : mm.map V.int = ms.map fun x : Nat => V.int (x : Int) := by rw [emm, List.map_map]; rfl
   rw [emV] at kn
   have hmsl : ms.length = ts.length := by have := congrArg List.length hms; rw [List.length_map, List.length_map] at this; exact this.symm
   refine zG fun N hN => ?_
   simp! [rEqG]
   refine step sB (fun e => ?_) (fun e4 => hN _ _ ?_)
   · rw [if_pos e] at q
     have hl : ts.length = 1 := by
       rcases hs with h | h | h | h | h
       · exact absurd h.1 e1
       · exact absurd h.1 e2
       · exact h.2
       · rw [h.1] at e; exact absurd e (by decide)
       · rw [h.1] at e; exact absurd e (by decide)
     obtain ⟨t, et⟩ : ∃ t, ts = [t] := by
       cases ts with
       | nil => simp at hl
       | cons t r =>
         cases r with
         | nil => exact ⟨t, rfl⟩
         | cons _ _ => simp at hl
     rw [et, ems] at hms
     have h0 : num rows t = some m0 := (List.cons.inj hms).1
     have e5 : xW rows false ts = some m0 := by
       rw [et, numH_O, h0]
       rfl
     rw [e5] at q
     exact ⟨_, SqL.of kn, V.int (m0 : Nat), by rw [ems]; exact yI (j := 0) rfl, m0, rfl, q _ sB⟩
   clear hN
   rw [if_neg e4] at q
   refine yA (fun σ J => ∃ (pn : Addr), Same H4 J /\ J pn = some (.lst ((ms.map (tnB (decide (wd = "either")))).map fun x : Nat => V.int (x : Int))) /\ σ = [some (V.ref ra), some (V.ref a), some (V.ref pn), none, none]) (fun N hN => ?_) (fun σ J h => ?_)
   · simp! [rEqG]
     refine step sB (fun e => ?_) (fun e5 => hN _ _ ?_)
     · refine ⟨⟨_, SqL.of kn⟩, ?_⟩
       refine lc_list (xs := ms.map fun x : Nat => V.int (x : Int)) (fun i ys σ J => Same H4 J /\ ys = (((ms.take i).map tnM).map fun x : Nat => V.int (x : Int)) /\ ∃ o, σ = [o]) ⟨Same.refl _, rfl, _, rfl⟩ (small (by rw [List.length_map]; omega)) (fun i ys σ J e => ?_) (fun i ys σ J e => SqL.of (e.1 _ _ kn)) (fun i x ys σ J C hx e hC => ?_) (fun ys σ J ej p3 hp3 => hN _ _ ?_)
       · rw [e.2.1, List.length_map, List.length_map, List.length_take]; omega
       · obtain ⟨es, rfl, o, rfl⟩ := e
         rw [List.getElem?_map] at hx
         obtain ⟨y, hy, rfl⟩ := Option.map_eq_some_iff.mp hx
         obtain ⟨hyl, hye⟩ := List.getElem?_eq_some_iff.mp hy
         simp! []
         refine ⟨y, rfl, hC _ _ _ ⟨es, ?_, _, rfl⟩⟩
         rw [List.take_succ_eq_append_getElem hyl, hye, List.map_append, List.map_append]
         rfl
       · obtain ⟨es, rfl, o, rfl⟩ := ej
         refine ⟨p3, es.trans (zE hp3 _), ?_, rfl⟩
         rw [zB, List.length_map, List.take_of_length_le (Nat.le_refl _), decide_eq_true e]
         rfl
     · refine ⟨p2, Same.refl _, ?_, rfl⟩
       rw [kn, decide_eq_false e5, show ms.map (tnB false) = ms from (List.map_congr_left fun _ _ => rfl).trans (List.map_id _)]
   obtain ⟨pn, sJ, kpn, rfl⟩ := h
   generalize hee : decide (wd = "either") = ee at kpn q
   have hjn : xW rows ee ts = jn rows (tnB ee m0) (ms'.map (tnB ee)) := by
     cases ts with
     | nil => exact absurd rfl hne
     | cons t ts =>
       rw [ems] at hms
       obtain ⟨h1, h2⟩ := List.cons.inj hms
       rw [xW, h1]
       show xV rows ee (tnB ee m0) ts = _
       exact numJ_jn h2
   rw [hjn] at q
   generalize hR : jn rows (tnB ee m0) (ms'.map (tnB ee)) = R at hjn q
   rw [ems] at kpn
   have sC := sB.trans sJ
   refine zG fun N hN => ?_
   simp! []
   refine ⟨_, SqL.of kpn, V.int ((tnB ee m0 : Nat) : Int), yI (j := 0) rfl, hN _ _ ?_⟩
   clear hN
   refine yA (fun σ J' => ∃ (b : Nat) (o4 : Option V), R = some b /\ Same J J' /\ σ = [some (V.ref ra), some (V.ref a), some (V.ref pn), some (V.int (b : Nat)), o4]) (fun N hN => ?_) (fun σ J' h => ?_)
   · simp! []
     refine ⟨_, SqL.of kpn, fun p3 hp3 => ?_⟩
     rw [List.map_cons, List.map_cons, xL]
     have s5 := zE hp3 (.lst ((ms'.map (tnB ee)).map fun x : Nat => V.int (x : Int)))
     have k3 : upd J p3 (.lst ((ms'.map (tnB ee)).map fun x : Nat => V.int (x : Int))) p3 = some (.lst ((ms'.map (tnB ee)).map fun x : Nat => V.int (x : Int))) := zB
     generalize upd J p3 (.lst ((ms'.map (tnB ee)).map fun x : Nat => V.int (x : Int))) = J5 at s5 k3 ⊢
     refine ⟨⟨_, SqL.of k3⟩, ?_⟩
     refine uA (xs := (ms'.map (tnB ee)).map fun x : Nat => V.int (x : Int)) (fun i σ J' => ∃ (wi : Nat) (o4 : Option V), Same J5 J' /\ jn rows wi ((ms'.map (tnB ee)).drop i) = R /\ σ = [some (V.ref ra), some (V.ref a), some (V.ref pn), some (V.int (wi : Nat)), o4]) ⟨_, _, Same.refl _, ?_, rfl⟩ (fun i σ J' _ h => by obtain ⟨_, _, h, _⟩ := h; exact SqL.of (h _ _ k3)) (fun i x σ J' hx h => ?_) (fun σ J' h => ?_)
     · rw [List.drop_zero]; exact hR
     · obtain ⟨wi, o4, s6, hj, rfl⟩ := h
       rw [List.getElem?_map] at hx
       obtain ⟨y, hy, rfl⟩ := Option.map_eq_some_iff.mp hx
       obtain ⟨hyl, hye⟩ := List.getElem?_eq_some_iff.mp hy
       rw [List.drop_eq_getElem_cons hyl, hye, jn] at hj
       have sD := (sC.trans s5).trans s6
       refine zG fun N hN => ?_
       simp! [rInG]
       refine ⟨small (by decide), fun p4 hp4 => ?_⟩
       have hd4 : DAt (upd J' p4 (.tup [V.str "both", V.int (wi : Int), V.int (y : Int)])) (dRw (.bo (wi : Int) (y : Int))) (.ref p4) := ⟨p4, _, rfl, zB, _, _, rfl, rfl, _, _, rfl, rfl, _, _, rfl, rfl, rfl⟩
       have s7 := zE hp4 (.tup [V.str "both", V.int (wi : Int), V.int (y : Int)])
       generalize upd J' p4 (.tup [V.str "both", V.int (wi : Int), V.int (y : Int)]) = J7 at hd4 s7 ⊢
       have sE := sD.trans s7
       refine ⟨2, _, hd4, rows.map dRw, .inl ⟨ra, us, rfl, sE _ _ hra, DAts.same sE hrw⟩, yL rows, by decide, ?_⟩
       cases c : rix rows (.bo (wi : Int) (y : Int)) with
       | none =>
         rw [c] at hj
         rw [qQ c, if_pos (by decide)]
         rw [← hj] at q
         exact q _ sE
       | some k =>
         rw [c] at hj
         rw [xZ c, if_neg (by decide)]
         refine hN _ _ ?_
         clear hN
         obtain ⟨i1, i2⟩ := jH c
         simp! [rIndexG]
         refine ⟨.inl ⟨rfl, _, SqL.of (sE _ _ hra)⟩, small (by decide), fun p5 hp5 => ?_⟩
         have s8 := zE hp5 (.tup [V.str "both", V.int (wi : Int), V.int (y : Int)])
         have sF := sE.trans s8
         exact ⟨_, sF _ _ hra, _, DAts.same sF hrw, dRw (.bo (wi : Int) (y : Int)), ⟨p5, _, rfl, zB, _, _, rfl, rfl, _, _, rfl, rfl, _, _, rfl, rfl, rfl⟩, 2, yL rows, by decide, by rw [List.length_map]; omega, k, i1, i2, .inl ⟨by decide, by decide⟩, s6.trans (s7.trans s8), 2 * k, hj, by omega, _, rfl⟩
     · obtain ⟨wi, o4, s6, hj, rfl⟩ := h
       rw [List.length_map, List.drop_length, jn] at hj
       exact hN _ _ ⟨wi, o4, hj.symm, s5.trans s6, rfl⟩
   obtain ⟨b, o4, hb, s4, rfl⟩ := h
   rw [hb] at q
   simp! [rEqG]
   refine step (sC.trans s4) (fun e => ?_) (fun e5 => ?_)
   · rw [decide_eq_true e] at hee
     subst hee
     exact ⟨b, rfl, q _ (sC.trans s4)⟩
   · rw [decide_eq_false e5] at hee
     subst hee
     exact q _ (sC.trans s4)
theorem ok_same (bi : Bi mg) (F : Fun K "_law_same" "_law_same" s_l f fd) : FnOk P w K mg base CX0 1 f fd ["found_v", "due"] spSm := by
 refine F.ok sc_l (fun vs H Q E h => ?_) (fun cdv A outer s H vs Q E hr h => ?_)
 · obtain ⟨o, rfl, _⟩ := h
   rfl
 obtain ⟨o, rfl, q⟩ := h
 refine ⟨_, (zD (zY (zK op_lt (pv 1) zC (zN _)) (zF (zP (qV op_isN (pv 0) jI (zN _)))) pss_nil) (zF (zP (pe_and (yB (call_isi (T := "int")) rfl bi.isinstance bt_isinstance (zA (pv 0) (zA (pe_ty bi.int bt_int rfl) pa_nil))) (pe_and (pe_not (yB (call_isi (T := "bool")) rfl bi.isinstance bt_isinstance (zA (pv 0) (zA (pe_ty bi.bool bt_bool rfl) pa_nil)))) (pe_one (qV (yF hr.units) (pv 0) (pv 1) (zN _)))))))), ?_⟩
 cases o with
 | none =>
   simp! []
   rw [if_pos (show dI none < 0 by decide), show decide (vO none = V.non) = true from decide_eq_true rfl]
   exact q
 | some n =>
   simp! []
   rw [if_neg (show ¬ dI (some n) < 0 by show ¬ (n : Int) < 0; omega)]
   refine ⟨_, TyOf.int (n : Int), true, kit_same, ?_⟩
   rw [if_pos rfl]
   refine ⟨_, TyOf.int (n : Int), false, kit_ib, ?_⟩
   rw [if_pos rfl]
   refine ⟨0, .int (n : Int), .int (n : Int), rfl, rfl, trivial, by decide, ?_⟩
   rw [deq_refl]
   exact q
end
abbrev s_p : Stmt := top 17
theorem sc_p : FnScope ["script", "pool", "stack", "rows", "step", "k", "asked", "one", "other", "part", "handed", "t"] ["script"] (zI s_p) := ⟨rfl, rfl, rfl, by decide +kernel, rfl, by decide +kernel, by decide +kernel⟩
theorem rput_nd {rows : List Rw} (r : Rw) (h : rows.Nodup) : (xD rows r).1.Nodup := by
 unfold xD
 split
 · exact h
 · rename_i c
   show (rows ++ [r]).Nodup
   rw [List.nodup_append]
   refine ⟨h, by simp, fun a ha b hb z => ?_⟩
   rw [List.mem_singleton.mp hb] at z
   subst z
   have := List.findIdx?_eq_none_iff.mp c a ha
   rw [deq_refl] at this
   cases this
mutual
theorem bld_nd : ∀ (t : Tm) (rows : List Rw), rows.Nodup -> (bld t rows).1.Nodup
 | .name x, rows, h => by rw [bld]; exact rput_nd _ h
 | .node w ts, rows, h => by
   rw [bld]
   split
   · exact h
   · split
     · exact h
     · split
       · exact bldH_nd _ ts rows h
       · exact bldH_nd _ ts rows h
theorem bldH_nd (e : Bool) : ∀ (ts : List Tm) (rows : List Rw), rows.Nodup -> (xM e ts rows).1.Nodup
 | [], rows, h => by rw [xM]; exact h
 | t :: ts, rows, h => by
   rw [xM]
   exact bldJ_nd e ts _ _ (bld_nd t rows h)
theorem bldJ_nd (e : Bool) : ∀ (ts : List Tm) (rows : List Rw) (m : Nat), rows.Nodup -> (xG e ts rows m).1.Nodup
 | [], rows, m, h => by rw [xG]; exact h
 | t :: ts, rows, m, h => by
   rw [xG]
   exact bldJ_nd e ts _ _ (rput_nd _ (bld_nd t rows h))
end
theorem yW (ts : List Tm) : ∀ {i j : Nat}, i <= j -> wts (ts.drop j) <= wts (ts.drop i) := fun {i j} h => by
 obtain ⟨d, rfl⟩ := Nat.exists_eq_add_of_le h
 clear h
 induction d with
 | zero => exact Nat.le_refl _
 | succ d ih =>
   refine Nat.le_trans ?_ ih
   by_cases c : i + d < ts.length
   · rw [List.drop_eq_getElem_cons c, wts]
     exact Nat.le_add_left _ _
   · rw [List.drop_eq_nil_of_le (by omega)]
     exact Nat.zero_le _
theorem wts_take_le : ∀ (ts : List Tm) (i : Nat), wts (ts.take i) <= wts ts
 | [], i => by rw [List.take_nil]; exact Nat.le_refl _
 | t :: ts, 0 => by rw [List.take_zero]; exact Nat.zero_le _
 | t :: ts, i + 1 => by
   rw [List.take_succ_cons, wts, wts]
   have := wts_take_le ts i
   omega
theorem wts_app : ∀ (ts us : List Tm), wts (ts ++ us) = wts ts + wts us
 | [], us => by rw [List.nil_append]; show _ = 0 + _; omega
 | t :: ts, us => by rw [List.cons_append, wts, wts, wts_app ts us]; omega
theorem wts_rev : ∀ ts : List Tm, wts ts.reverse = wts ts
 | [] => rfl
 | t :: ts => by
   rw [List.reverse_cons, wts_app, wts_rev ts, wts, wts, wts]
   omega
theorem cut_hdN (xs : List V) (n : Nat) : yM xs none (some (n : Int)) = xs.take n := by
 unfold yM
 have e1 : HT.sIx xs.length 0 none = 0 := rfl
 have e2 : HT.sIx xs.length xs.length (some (n : Int)) = min n xs.length := by
   unfold HT.sIx
   show (if (n : Int) < 0 then _ else min (n : Int).toNat xs.length) = min n xs.length
   rw [if_neg (by omega)]
   rfl
 rw [e1, e2, List.drop_zero, Nat.sub_zero]
 rcases Nat.le_total n xs.length with h | h
 · rw [Nat.min_eq_left h]
 · rw [Nat.min_eq_right h, List.take_of_length_le (Nat.le_refl _), List.take_of_length_le h]
theorem cut_5 (xs : List V) : yM xs none (some 5) = xs.take 5 := cut_hdN xs 5
theorem cut_4 (xs : List V) : yM xs none (some 4) = xs.take 4 := cut_hdN xs 4
theorem DAts.rev {H : Hp} : ∀ {ds : List Dt} {vs : List V}, DAts H ds vs -> DAts H ds.reverse vs.reverse
 | [], _, h => by
   have h : _ = [] := h
   subst h
   rfl
 | d :: ds, _, h => by
   obtain ⟨v, r, rfl, h1, h2⟩ := h
   rw [List.reverse_cons, List.reverse_cons]
   exact DAts.append (DAts.rev h2) (DAts.one h1)
theorem TAts.take5 {H : Hp} {ts : List Tm} {vs : List V} (n : Nat) (h : TAts H ts vs) : TAts H (ts.take n) (vs.take n) := by
 show DAts H ((ts.take n).map toD) _
 rw [List.map_take]
 exact DAts.take n h
theorem TAts.rev {H : Hp} {ts : List Tm} {vs : List V} (h : TAts H ts vs) : TAts H ts.reverse vs.reverse := by
 show DAts H (ts.reverse.map toD) _
 rw [List.map_reverse]
 exact DAts.rev h
theorem TAt.node {H : Hp} {w : Str} {ts : List Tm} {a : Addr} {vs : List V} (h : H a = some (.tup (.str w :: vs))) (ht : TAts H ts vs) : TAt H (.node w ts) (.ref a) := by
 refine ⟨a, _, rfl, h, _, _, rfl, rfl, ?_⟩
 show DAts H (toDs ts) vs
 rw [toDs_map]
 exact ht
def Ask (t : Tm) : Prop := Fit 19 t /\ wt t <= 400
theorem Ask.node {w : Str} {ts : List Tm} {n : Nat} (hn : n <= 18) (hs : Sh w ts.length) (hf : ∀ t ∈ ts, Fit n t) (hw : wts ts <= 399) : Ask (.node w ts) := by
 refine ⟨Fit.mono (n := n + 1) ?_ (by omega), by rw [wt]; omega⟩
 unfold Fit
 exact ⟨hs, hf⟩
structure Sub (J H J' H' : Hp) : Prop where
 j : Same J J'
 h : Same H H'
 s : Same J' H'
 o : ∀ a, H a ≠ none -> J a = none -> J' a = none
theorem Sub.refl {J H : Hp} (s : Same J H) : Sub J H J H := ⟨Same.refl _, Same.refl _, s, fun _ _ h => h⟩
theorem Sub.new {J H : Hp} {p : Addr} (s : Same J H) (hp : H p = none) (o : HO) : Sub J H (upd J p o) (upd H p o) := by
 refine ⟨zE (s.free hp) o, zE hp o, fun b x hb => ?_, fun a ha hj => ?_⟩
 · by_cases c : b = p
   · subst c
     rw [zB] at hb ⊢
     exact hb
   · rw [zH c] at hb ⊢
     exact s _ _ hb
 · have : a ≠ p := fun z => ha (by rw [z]; exact hp)
   rw [zH this]
   exact hj
theorem Sub.trans {J H J' H' J'' H'' : Hp} (a : Sub J H J' H') (b : Sub J' H' J'' H'') : Sub J H J'' H'' :=
 ⟨a.j.trans b.j, a.h.trans b.h, b.s, fun x hx hj => b.o x (fun z => by
   cases c : H x with
   | none => exact hx c
   | some y => rw [a.h _ _ c] at z; cases z) (a.o x hx hj)⟩
theorem Same.take {J G : Hp} {a : Addr} {o : HO} (s : Same J G) (ha : G a = some o) : Same (upd J a o) G := fun b x hb => by
 by_cases c : b = a
 · subst c
   rw [zB] at hb
   cases hb
   exact ha
 · rw [zH c] at hb
   exact s _ _ hb
theorem xY {α : Type} {o : Option α} {x : α} (h : o = some x) : o ≠ none := fun z => by rw [h] at z; cases z
def AkAt (G0 G : Hp) (pa : Addr) (n : Nat) : Prop := ∃ (J : Hp) (ws : List V) (as : List Tm), Same G0 J /\ Same J G /\ J pa = none /\ G pa = some (.lst ws) /\ TAts J as ws /\ (∀ t ∈ as, Ask t) /\ as.length <= n
theorem xH {G0 J G J1 G1 : Hp} {pa : Addr} {ws : List V} {as : List Tm} {n : Nat} {t : Tm} {v : V} (h0 : Same G0 J) (hJ : J pa = none) (hk : G pa = some (.lst ws)) (ha : TAts J as ws) (hA : ∀ t ∈ as, Ask t) (hn : as.length <= n) (S : Sub J G J1 G1) (ht : TAt J1 t v) (hA' : Ask t) : AkAt G0 (upd G1 pa (.lst (ws ++ [v]))) pa (n + 1) := by
 refine ⟨J1, _, as ++ [t], h0.trans S.j, S.s.upd (S.o _ (xY hk) hJ), S.o _ (xY hk) hJ, zB, TAts.append (DAts.same S.j ha) (TAts.one ht), fun u hu => ?_, by rw [List.length_append]; show as.length + 1 <= n + 1; omega⟩
 rcases List.mem_append.mp hu with hu | hu
 · exact hA u hu
 · rw [List.mem_singleton.mp hu]
   exact hA'
theorem ak_put2 {G0 J J1 G1 : Hp} {pa : Addr} {ws : List V} {as : List Tm} {n : Nat} {t : Tm} {v : V} (h0 : Same G0 J) (ha : TAts J as ws) (hA : ∀ t ∈ as, Ask t) (hn : as.length <= n) (hj : Same J J1) (hs : Same J1 G1) (hJ1 : J1 pa = none) (ht : TAt J1 t v) (hA' : Ask t) : AkAt G0 (upd G1 pa (.lst (ws ++ [v]))) pa (n + 1) := by
 refine ⟨J1, _, as ++ [t], h0.trans hj, hs.upd hJ1, hJ1, zB, TAts.append (DAts.same hj ha) (TAts.one ht), fun u hu => ?_, by rw [List.length_append]; show as.length + 1 <= n + 1; omega⟩
 rcases List.mem_append.mp hu with hu | hu
 · exact hA u hu
 · rw [List.mem_singleton.mp hu]
   exact hA'
theorem jV {J G : Hp} {a : Addr} {o : HO} (s : Same J G) (ha : G a = some o) : Same J (upd J a o) := fun b x hb => by
 by_cases c : b = a
 · subst c
   have := s _ _ hb
   rw [ha] at this
   cases this
   exact zB
 · rw [zH c]
   exact hb
theorem AkAt.ext {G0 G G' : Hp} {pa : Addr} {n : Nat} (h : AkAt G0 G pa n) (e : Same G G') : AkAt G0 G' pa n := by
 obtain ⟨J, ws, as, b1, b2, b3, b4, b5, b6, b7⟩ := h
 exact ⟨J, ws, as, b1, b2.trans e, b3, e _ _ b4, b5, b6, b7⟩
theorem AkAt.mono {G0 G : Hp} {pa : Addr} {n m : Nat} (h : AkAt G0 G pa n) (e : n <= m) : AkAt G0 G pa m := by
 obtain ⟨J, ws, as, b1, b2, b3, b4, b5, b6, b7⟩ := h
 exact ⟨J, ws, as, b1, b2, b3, b4, b5, b6, Nat.le_trans b7 e⟩
theorem AkAt.sub {G0 G : Hp} {pa : Addr} {n : Nat} (h : AkAt G0 G pa n) : Same G0 G := by
 obtain ⟨J, ws, as, b1, b2, _⟩ := h
 exact b1.trans b2
theorem Ask.of {t : Tm} (hf : Fit 17 t) (hw : wt t <= 21) : Ask t := ⟨hf.mono (by decide), by omega⟩
theorem xK {n : Nat} {t : Tm} (h : Fit n t) : Fit (n + 1) (.node "not" [t]) := by
 unfold Fit
 exact ⟨.inr (.inr (.inl ⟨rfl, rfl⟩)), fun u hu => by rw [List.mem_singleton.mp hu]; exact h⟩
theorem jB (t : Tm) : wt (.node "not" [t]) = 1 + wt t := by rw [wt, wts, wts]; omega
def spLaw (K : PySem.W.Frag) : Sp := fun vs H Q _ => ∃ (a : Addr) (ns : List Int), vs = [.ref a] /\ SqL K H a (ns.map V.int) /\ ns.length <= 63 /\ ∀ H', Q (.bl true) H'
section
variable {P : Program} {w : World} {K : PySem.W.Frag} {mg : Str -> Option Value} {base : Heap} {f : Addr} {fd : FuncData}
theorem ok_law (bi : Bi mg) (brv : mg "reversed" = none) (h_c : Has P w K mg base 1 "_law_cell_at" ["script", "k"] (xO K)) (h_j : Has P w K mg base 2 "_law_pool" ["script"] (spPool K)) (h_g : Has P w K mg base 2 "_law_stack" ["cells", "pool"] (qN K)) (h_f : Has P w K mg base 21 "_law_build" ["rows", "t"] (spBd 21)) (h_d : Has P w K mg base 21 "_law_number" ["rows", "t"] (spLn 21)) (h_l : Has P w K mg base 1 "_law_same" ["found_v", "due"] spSm) (h_n : Has P w K mg base 47 "number" ["sheet", "t"] spNo) (F : Fun K "law" "law" s_p f fd) : FnOk P w K mg base CX0 65 f fd ["script"] (spLaw K) := by
 refine F.ok sc_p (fun vs H Q E h => ?_) (fun cdv A outer s H vs Q E hr h => ?_)
 · obtain ⟨a, ns, rfl, _⟩ := h
   rfl
 obtain ⟨a, ns, rfl, hS, h63, q⟩ := h
 refine ⟨_, (zD (zO (i := 1) sc_p.nd rfl (Or.inl rfl) (zJ h_j (hr.mono (by omega)) rfl (zA (pv 0) pa_nil))) (zD (zO (i := 2) sc_p.nd rfl (Or.inl rfl) (zJ h_g (hr.mono (by omega)) rfl (zA (yC sl_list (pv 0) (yE zC) (yE zC)) (zA (pv 1) pa_nil)))) (zD (zO (i := 3) sc_p.nd rfl (Or.inl rfl) (xF (zA (zS (zA zL pa_nil)) pa_nil))) (zD (zO (i := 4) sc_p.nd rfl (Or.inl rfl) (zM op_add zC (zM op_mod (zJ h_c (hr.mono (by omega)) rfl (zA (pv 0) (zA zC pa_nil))) zC))) (zD (yT PassesOwn.never rfl (pi_by rfl bi.range (zA zC (zA (yB call_len rfl bi.len bt_len (zA (pv 2) pa_nil)) (zA (pv 4) pa_nil)))) (yH (i := 5) sc_p.nd rfl (Or.inl rfl)) (zF (zV (zJ h_f (hr.mono (by omega)) rfl (zA (pv 3) (zA (zZ ix_list (pv 2) (zM op_sub (zM op_sub (yB call_len rfl bi.len bt_len (zA (pv 2) pa_nil)) zC) (pv 5)) (fun _ _ => rfl)) pa_nil)))))) (zD (zY (PW.pt (xP (zK op_gt (yB call_len rfl bi.len bt_len (zA (pv 2) pa_nil)) zC (zN _)) (qR (zK op_eq (pv 4) zC (zN _))))) (zD (zV (zJ h_f (hr.mono (by omega)) rfl (zA (pv 3) (zA (zM op_catG (zS (zA zL pa_nil)) (yQ call_tuple_of rfl bi.tuple bt_tuple (zA (yC sl_list (pv 2) po_none (yE zC)) pa_nil))) pa_nil)))) (zF (zV (zJ h_f (hr.mono (by omega)) rfl (zA (pv 3) (zA (zM op_catG (zS (zA zL pa_nil)) (jZ rfl bi.tuple rfl brv rfl (zA (yC sl_list (pv 2) po_none (yE zC)) pa_nil))) pa_nil)))))) pss_nil) (zD (zO (i := 6) sc_p.nd rfl (Or.inl rfl) (yQ call_list_of rfl bi.list bt_list (zA (pv 2) pa_nil))) (zD (yT PassesOwn.never rfl (jY rfl bi.range (zA (yB call_len rfl bi.len bt_len (zA (pv 2) pa_nil)) pa_nil)) (yH (i := 5) sc_p.nd rfl (Or.inl rfl)) (zD (zO (i := 7) sc_p.nd rfl (Or.inl rfl) (zZ ix_list (pv 2) (pv 5) (fun _ _ => rfl))) (zD (zO (i := 8) sc_p.nd rfl (Or.inl rfl) (zZ ix_list (pv 2) (zM op_mod (zM op_add (pv 5) (pv 4)) (yB call_len rfl bi.len bt_len (zA (pv 2) pa_nil))) (fun _ _ => rfl))) (zD (zV (yJ PySem.F.plainAttrs_list PySem.F.slot_list_append PySem.F.type_list_append mt_append (pv 6) (zA (zS (zA zL (zA (zS (zA zL (zA (pv 7) pa_nil))) pa_nil))) pa_nil))) (zD (zV (yJ PySem.F.plainAttrs_list PySem.F.slot_list_append PySem.F.type_list_append mt_append (pv 6) (zA (zS (zA zL (zA (pv 7) pa_nil))) pa_nil))) (zD (zV (yJ PySem.F.plainAttrs_list PySem.F.slot_list_append PySem.F.type_list_append mt_append (pv 6) (zA (zS (zA zL (zA (pv 7) (zA (pv 8) pa_nil)))) pa_nil))) (zD (zV (yJ PySem.F.plainAttrs_list PySem.F.slot_list_append PySem.F.type_list_append mt_append (pv 6) (zA (zS (zA zL (zA (pv 8) (zA (pv 7) pa_nil)))) pa_nil))) (zD (zV (yJ PySem.F.plainAttrs_list PySem.F.slot_list_append PySem.F.type_list_append mt_append (pv 6) (zA (zS (zA zL (zA (pv 8) (zA (pv 7) (zA (zZ ix_list (pv 2) zC (fun _ _ => rfl)) pa_nil))))) pa_nil))) (zD (zV (yJ PySem.F.plainAttrs_list PySem.F.slot_list_append PySem.F.type_list_append mt_append (pv 6) (zA (zS (zA zL (zA (zS (zA zL (zA (pv 7) pa_nil))) (zA (zS (zA zL (zA (pv 8) pa_nil))) pa_nil)))) pa_nil))) (zF (yT PassesOwn.never rfl (qU (yC sl_tupG (pv 7) (yE zC) po_none)) (yH (i := 9) sc_p.nd rfl (Or.inl rfl)) (zF (zY (zK (op_neG hr.units) (zZ ix_tup (pv 7) zC (fun _ _ => rfl)) zL (zN _)) (zF (zV (yJ PySem.F.plainAttrs_list PySem.F.slot_list_append PySem.F.type_list_append mt_append (pv 6) (zA (pv 9) pa_nil)))) pss_nil))))))))))))) (zD (zY (zK op_gt (yB call_len rfl bi.len bt_len (zA (pv 2) pa_nil)) zC (zN _)) (zD (zV (yJ PySem.F.plainAttrs_list PySem.F.slot_list_append PySem.F.type_list_append mt_append (pv 6) (zA (zM op_catG (zS (zA zL pa_nil)) (yQ call_tuple_of rfl bi.tuple bt_tuple (zA (yC sl_list (pv 2) po_none (yE zC)) pa_nil))) pa_nil))) (zF (zV (yJ PySem.F.plainAttrs_list PySem.F.slot_list_append PySem.F.type_list_append mt_append (pv 6) (zA (zM op_catG (zS (zA zL pa_nil)) (jZ rfl bi.tuple rfl brv rfl (zA (yC sl_list (pv 2) po_none (yE zC)) pa_nil))) pa_nil))))) pss_nil) (zD (zO (i := 10) sc_p.nd rfl (Or.inl rfl) (yQ call_list_of rfl bi.list bt_list (zA (pv 3) pa_nil))) (zD (yT PassesOwn.never rfl (jA (pv 6)) (yH (i := 11) sc_p.nd rfl (Or.inl rfl)) (zF (zY (pt_not (pt_val (zJ h_l (hr.mono (by omega)) rfl (zA (zJ h_n (hr.mono (by omega)) rfl (zA (pv 10) (zA (pv 11) pa_nil))) (zA (zJ h_d (hr.mono (by omega)) rfl (zA (pv 3) (zA (pv 11) pa_nil))) pa_nil))))) (zF (zP pe_bl)) pss_nil))) (zF (zP (qV (yF hr.units) (pv 10) (pv 3) (zN _))))))))))))))), ?_⟩
 refine zG fun N hN => ?_
 simp! [spPool]
 refine ⟨ns, hS, fun pp H1 e1 hP => hN _ _ ?_⟩
 clear hN
 refine zG fun N hN => ?_
 simp! [qN]
 refine ⟨_, Same.seq e1 hS, fun p hp => ?_⟩
 rw [cut_ints]
 have hcl : (cutI ns (some 3) (some 23)).length <= 20 := cutI_len2 ns 3 23
 generalize cutI ns (some 3) (some 23) = cs at hcl
 have e2 := zE hp (.lst (cs.map V.int))
 refine ⟨cs, SqL.of zB, by omega, Pool.same e2 hP, fun sa us ts H2 e2' hsa hts hne hf hw => hN _ _ ?_⟩
 clear hN
 have eA : Same H H2 := (e1.trans e2).trans e2'
 clear e1 hP hp e2 e2'
 have hw21 : wts ts <= 21 := by omega
 have hul : us.length = ts.length := by have := DAts.length hts; rwa [List.length_map] at this
 have htl := wts_len ts
 have hpos : 1 <= ts.length := List.length_pos_iff.mpr hne
 refine zG fun N hN => ?_
 simp! []
 refine ⟨small (by decide), fun p1 hp1 => ⟨small (by decide), fun ra hra0 => hN _ _ ?_⟩⟩
 clear hN
 have s1 := zE hp1 (.tup [V.str "none"])
 have k1 : upd H2 p1 (.tup [V.str "none"]) p1 = some (.tup [V.str "none"]) := zB
 generalize upd H2 p1 (.tup [V.str "none"]) = H3 at s1 k1 hra0 ⊢
 have ov0 := Ov.mk0 hra0 [V.ref p1]
 generalize upd H3 ra (.lst [V.ref p1]) = H4 at ov0 ⊢
 refine zG fun N hN => ?_
 simp! []
 have sH4 : Same H2 H4 := s1.trans ov0.sub
 refine ⟨a, ns, 0, rfl, Same.seq (eA.trans sH4) hS, _, rfl, by decide, hN _ _ ?_⟩
 clear hN
 obtain ⟨st, hst, hst1, hst3⟩ : ∃ st : Nat, 1 + ns.getD 0 0 % 3 = (st : Int) /\ 1 <= st /\ st <= 3 := ⟨(1 + ns.getD 0 0 % 3).toNat, by omega, by omega, by omega⟩
 rw [hst]
 refine yA (fun σ G => ∃ (J : Hp) (vs : List V) (rows : List Rw) (o5 : Option V), Same H3 J /\ Ov G J ra vs /\ RwAts J rows vs /\ Sht rows /\ rows.Nodup /\ rows.length <= 43 /\ σ = [some (V.ref a), some (V.ref pp), some (V.ref sa), some (V.ref ra), some (V.int st), o5, none, none, none, none, none, none]) (fun N hN => ?_) (fun σ G h => ?_)
 · simp! [iBy]
   refine ⟨ts.length, .inl ⟨_, SqL.of (sH4 _ _ hsa), hul.symm⟩, ts.length, rfl, st, rfl, by omega, hst1, by omega, ?_⟩
   have hn : ∀ i, i < (ts.length + st - 1) / st -> i * st < ts.length := fun i hi => by
     have h1 : (i + 1) * st <= ts.length + st - 1 := Nat.le_trans (Nat.mul_le_mul_right st hi) (Nat.div_mul_le_self _ _)
     rw [Nat.add_mul, Nat.one_mul] at h1
     omega
   refine fw_by (n := (ts.length + st - 1) / st) (fun i σ G => ∃ (J : Hp) (vs : List V) (rows : List Rw) (o5 : Option V), Same H3 J /\ Ov G J ra vs /\ RwAts J rows vs /\ Sht rows /\ rows.Nodup /\ rows.length <= 1 + 2 * wts (ts.drop (ts.length - i * st)) /\ σ = [some (V.ref a), some (V.ref pp), some (V.ref sa), some (V.ref ra), some (V.int st), o5, none, none, none, none, none, none]) ⟨H3, _, [.no], _, Same.refl _, ov0, ⟨_, _, rfl, ⟨p1, _, rfl, k1, _, _, rfl, rfl, rfl⟩, rfl⟩, Sht.one, by simp, by show 1 <= _; omega, rfl⟩ (fun i σ G hi h => ?_) (fun σ G h => ?_)
   · obtain ⟨J, vs, rows, o5, sJ, ov, hrw, hsh, hnd, hrl, rfl⟩ := h
     have hx := hn i hi
     have hx2 : (i + 1) * st = i * st + st := by rw [Nat.add_mul, Nat.one_mul]
     generalize i * st = x at hx hx2 hrl ⊢
     simp! []
     have hsaG := (s1.trans (sJ.trans ov.sub)) _ _ hsa
     have hlt : ts.length - 1 - x < ts.length := by omega
     obtain ⟨v, hv1, hv2⟩ := DAts.get (d := toD ts[ts.length - 1 - x]) hts (by rw [List.getElem?_map, List.getElem?_eq_getElem hlt]; rfl)
     have hft := hf _ (List.getElem_mem hlt)
     have hdr : wts (ts.drop (ts.length - 1 - x)) = wt ts[ts.length - 1 - x] + wts (ts.drop (ts.length - x)) := by
       rw [List.drop_eq_getElem_cons hlt, wts, show ts.length - 1 - x + 1 = ts.length - x by omega]
     have hle := yW ts (show ts.length - (i + 1) * st <= ts.length - 1 - x by omega)
     have hle0 := yW ts (Nat.zero_le (ts.length - 1 - x))
     rw [List.drop_zero] at hle0
     generalize ts[ts.length - 1 - x] = t at hv2 hft hdr
     obtain ⟨g1, g2, g3, g4⟩ := bld_grw t 17 rows hft hsh
     have hwp := wt_pos t
     refine ⟨us.length, .inl ⟨_, SqL.of hsaG, rfl⟩, us, SqL.of hsaG, v, by rw [show (us.length : Int) - 1 - (x : Int) = ((ts.length - 1 - x : Nat) : Int) by omega]; exact yI hv1, ?_⟩
     refine ⟨ra, vs, v, rows, t, J, rfl, ov, hrw, hsh, by omega, DAt.same (s1.trans sJ) hv2, hft.mono (by decide), fun H' J' us' sJ' ov' hrw' => ?_⟩
     exact ⟨J', sJ.trans sJ', us', ov', (bld t rows).1, hrw', g1, bld_nd t rows hnd, by omega, _, rfl⟩
   · obtain ⟨J, vs, rows, o5, sJ, ov, hrw, hsh, hnd, hrl, rfl⟩ := h
     have hle0 := yW ts (Nat.zero_le (ts.length - (ts.length + st - 1) / st * st))
     rw [List.drop_zero] at hle0
     exact hN _ _ ⟨J, vs, rows, _, sJ, ov, hrw, hsh, hnd, by omega, rfl⟩
 obtain ⟨J, vs, rows, o5, sJ, ov, hrw, hsh, hnd, hrl, rfl⟩ := h
 have hts3 : TAts J ts us := DAts.same (s1.trans sJ) hts
 have hsa3 : J sa = some (.lst us) := (s1.trans sJ) _ _ hsa
 have hnsa : sa ≠ ra := fun z => by rw [z, ov.no] at hsa3; cases hsa3
 have h5 := wts_take_le ts 5
 have h4 := wts_take_le ts 4
 refine yA (fun σ G' => ∃ (J' : Hp) (vs : List V) (rows : List Rw), Same J J' /\ Ov G' J' ra vs /\ RwAts J' rows vs /\ rows.Nodup /\ rows.length <= 140 /\ σ = [some (V.ref a), some (V.ref pp), some (V.ref sa), some (V.ref ra), some (V.int st), o5, none, none, none, none, none, none]) (fun N hN => ?_) (fun σ G' h => ?_)
 · simp! [tTR, rCatG]
   have hno : N [some (V.ref a), some (V.ref pp), some (V.ref sa), some (V.ref ra), some (V.int st), o5, none, none, none, none, none, none] G := hN _ _ ⟨J, vs, rows, Same.refl _, ov, hrw, hnd, by omega, rfl⟩
   refine ⟨us.length, .inl ⟨_, SqL.of (ov.sub _ _ hsa3), rfl⟩, ?_⟩
   by_cases c1 : 2 < us.length
   · rw [if_pos (by omega)]
     refine ⟨rfl, ?_⟩
     by_cases c2 : st = 1
     · rw [if_pos (by omega)]
       clear hno
       refine ⟨small (by decide), fun q1 hq1 => ?_⟩
       have ov1 := ov.new hq1 (.tup [V.str "both"])
       have t1 := zE (ov.free hq1) (.tup [V.str "both"])
       have k1 : upd J q1 (.tup [V.str "both"]) q1 = some (.tup [V.str "both"]) := zB
       generalize upd J q1 (.tup [V.str "both"]) = J1 at ov1 t1 k1
       generalize upd G q1 (.tup [V.str "both"]) = G1 at ov1 ⊢
       refine ⟨us, SqL.of ((t1.trans ov1.sub) _ _ hsa3), fun q2 hq2 => ?_⟩
       rw [cut_5]
       have ov2 := ov1.new hq2 (.lst (us.take 5))
       have t2 := zE (ov1.free hq2) (.lst (us.take 5))
       have k2 : upd J1 q2 (.lst (us.take 5)) q2 = some (.lst (us.take 5)) := zB
       generalize upd J1 q2 (.lst (us.take 5)) = J2 at ov2 t2 k2
       generalize upd G1 q2 (.lst (us.take 5)) = G2 at ov2 ⊢
       refine ⟨us.take 5, .inl ⟨SqL.of (ov2.sub _ _ k2), fun q3 hq3 => ?_⟩⟩
       have ov3 := ov2.new hq3 (.tup (us.take 5))
       have t3 := zE (ov2.free hq3) (.tup (us.take 5))
       have k3 : upd J2 q3 (.tup (us.take 5)) q3 = some (.tup (us.take 5)) := zB
       generalize upd J2 q3 (.tup (us.take 5)) = J3 at ov3 t3 k3
       generalize upd G2 q3 (.tup (us.take 5)) = G3 at ov3 ⊢
       refine ⟨_, ov3.sub _ _ ((t2.trans t3) _ _ k1), _, ov3.sub _ _ k3, small (by rw [List.length_take]; simp; omega), fun q4 G4 s4 k4 => ?_⟩
       obtain ⟨J4, ov4, t4⟩ := ov3.ext s4
       have k4J := ov4.tup k4
       have tA := t1.trans (t2.trans (t3.trans t4))
       have hT : TAt J4 (.node "both" (ts.take 5)) (.ref q4) := TAt.node k4J (DAts.same tA (TAts.take5 5 hts3))
       have hl5 : (ts.take 5).length = min 5 ts.length := List.length_take
       have hF : Fit 18 (.node "both" (ts.take 5)) := by
         unfold Fit
         exact ⟨.inr (.inr (.inr (.inl ⟨rfl, by omega⟩))), fun t ht => hf t (List.mem_of_mem_take ht)⟩
       have hW : wt (.node "both" (ts.take 5)) <= 22 := by rw [wt]; omega
       generalize Tm.node "both" (ts.take 5) = T1 at hT hF hW
       obtain ⟨g1, g2, g3, g4⟩ := bld_grw T1 18 rows hF hsh
       refine ⟨ra, vs, _, rows, T1, J4, rfl, ov4, DAts.same tA hrw, hsh, by omega, hT, hF.mono (by decide), fun G5 J5 vs5 t5 ov5 hrw5 => ?_⟩
       have tB := tA.trans t5
       have nd1 := bld_nd T1 rows hnd
       generalize (bld T1 rows).1 = rows1 at g1 g2 g3 nd1 hrw5
       have hr1 : rows1.length <= 86 := by omega
       clear hT hF hW k1 k2 k3 k4 k4J ov1 ov2 ov3 ov4 t1 t2 t3 t4 t5 tA s4 hq1 hq2 hq3 g4
       refine ⟨small (by decide), fun q1 hq1 => ?_⟩
       have ov1 := ov5.new hq1 (.tup [V.str "either"])
       have t1 := zE (ov5.free hq1) (.tup [V.str "either"])
       have k1 : upd J5 q1 (.tup [V.str "either"]) q1 = some (.tup [V.str "either"]) := zB
       generalize upd J5 q1 (.tup [V.str "either"]) = J1' at ov1 t1 k1
       generalize upd G5 q1 (.tup [V.str "either"]) = G1' at ov1 ⊢
       refine ⟨us, SqL.of ((tB.trans (t1.trans ov1.sub)) _ _ hsa3), fun q2 hq2 => ?_⟩
       rw [cut_4]
       have ov2 := ov1.new hq2 (.lst (us.take 4))
       have t2 := zE (ov1.free hq2) (.lst (us.take 4))
       have k2 : upd J1' q2 (.lst (us.take 4)) q2 = some (.lst (us.take 4)) := zB
       generalize upd J1' q2 (.lst (us.take 4)) = J2' at ov2 t2 k2
       generalize upd G1' q2 (.lst (us.take 4)) = G2' at ov2 ⊢
       refine ⟨us.take 4, ov2.sub _ _ k2, fun q3 hq3 => ?_⟩
       have ov3 := ov2.new hq3 (.tup (us.take 4).reverse)
       have t3 := zE (ov2.free hq3) (.tup (us.take 4).reverse)
       have k3 : upd J2' q3 (.tup (us.take 4).reverse) q3 = some (.tup (us.take 4).reverse) := zB
       generalize upd J2' q3 (.tup (us.take 4).reverse) = J3' at ov3 t3 k3
       generalize upd G2' q3 (.tup (us.take 4).reverse) = G3' at ov3 ⊢
       refine ⟨_, ov3.sub _ _ ((t2.trans t3) _ _ k1), _, ov3.sub _ _ k3, small (by rw [List.length_reverse, List.length_take]; simp; omega), fun q4 G4' s4 k4 => ?_⟩
       obtain ⟨J4', ov4, t4⟩ := ov3.ext s4
       have k4J := ov4.tup k4
       have tA := t1.trans (t2.trans (t3.trans t4))
       have hT : TAt J4' (.node "either" (ts.take 4).reverse) (.ref q4) := TAt.node k4J (TAts.rev (DAts.same (tB.trans tA) (TAts.take5 4 hts3)))
       have hl4 : (ts.take 4).reverse.length = min 4 ts.length := by rw [List.length_reverse, List.length_take]
       have hF : Fit 18 (.node "either" (ts.take 4).reverse) := by
         unfold Fit
         exact ⟨.inr (.inr (.inr (.inr ⟨rfl, by omega⟩))), fun t ht => hf t (List.mem_of_mem_take (List.mem_reverse.mp ht))⟩
       have hW : wt (.node "either" (ts.take 4).reverse) <= 22 := by rw [wt, wts_rev]; omega
       generalize Tm.node "either" (ts.take 4).reverse = T2 at hT hF hW
       obtain ⟨f1, f2, f3, f4⟩ := bld_grw T2 18 rows1 hF g1
       refine ⟨ra, vs5, _, rows1, T2, J4', rfl, ov4, DAts.same tA hrw5, g1, by omega, hT, hF.mono (by decide), fun G6 J6 vs6 t6 ov6 hrw6 => ?_⟩
       exact hN _ _ ⟨J6, vs6, (bld T2 rows1).1, tB.trans (tA.trans t6), ov6, hrw6, bld_nd T2 rows1 nd1, by omega, rfl⟩
     · rw [if_neg (by omega)]
       exact hno
   · rw [if_neg (by omega)]
     exact hno
 obtain ⟨J', vs', rows', sJ', ov', hrw', hnd', hrl', rfl⟩ := h
 have hraG := ov'.at
 have hrwG : RwAts G' rows' vs' := DAts.same ov'.sub hrw'
 have hsaG : G' sa = some (.lst us) := (sJ'.trans ov'.sub) _ _ hsa3
 have htsG : TAts G' ts us := DAts.same (sJ'.trans ov'.sub) hts3
 clear ov0 ov ov' hrw hrw' hnd hsh hrl hts3 hsa3 hsa hts sJ sJ' s1 k1 sH4 eA hra0 hp1 hnsa
 have hvl : vs'.length = rows'.length := by have := DAts.length hrwG; rwa [List.length_map] at this
 refine zG fun N hN => ?_
 simp! []
 refine ⟨us, .inl (SqL.of hsaG), fun pa hpa => hN _ _ ?_⟩
 clear hN
 have hwt : ∀ t ∈ ts, wt t <= 21 := fun t ht => by
   obtain ⟨i, hi⟩ := List.getElem?_of_mem ht
   have := wt_part hi
   omega
 have ak0 : AkAt G' (upd G' pa (.lst us)) pa 21 := ⟨G', us, ts, Same.refl _, zE hpa _, hpa, zB, htsG, fun t ht => Ask.of (hf t ht) (hwt t ht), by omega⟩
 generalize upd G' pa (.lst us) = G1 at ak0 ⊢
 refine yA (fun σ G2 => AkAt G' G2 pa 588 /\ ∃ o5 o7 o8 o9, σ = [some (V.ref a), some (V.ref pp), some (V.ref sa), some (V.ref ra), some (V.int st), o5, some (V.ref pa), o7, o8, o9, none, none]) (fun N hN => ?_) (fun σ G2 h => ?_)
 · simp! []
   obtain ⟨_, _, _, q1, q2, _⟩ := id ak0
   refine ⟨ts.length, .inl ⟨_, SqL.of ((q1.trans q2) _ _ hsaG), hul.symm⟩, by omega, by omega, ?_⟩
   refine fw_range (n := ((ts.length : Nat) : Int).toNat) (fun i σ G2 => AkAt G' G2 pa (21 + 27 * i) /\ ∃ o5 o7 o8 o9, σ = [some (V.ref a), some (V.ref pp), some (V.ref sa), some (V.ref ra), some (V.int st), o5, some (V.ref pa), o7, o8, o9, none, none]) ⟨ak0, _, _, _, _, rfl⟩ (fun i σ G2 hi h => ?_) (fun σ G2 h => ?_)
   · obtain ⟨ak, o5, o7, o8, o9, rfl⟩ := h
     have hil : i < ts.length := by omega
     obtain ⟨v1, hv1, hT1⟩ := DAts.get (d := toD ts[i]) htsG (by rw [List.getElem?_map, List.getElem?_eq_getElem hil]; rfl)
     have hm1 := List.getElem_mem hil
     have hF1 := hf _ hm1
     have hW1 := hwt _ hm1
     generalize ts[i] = t1 at hT1 hm1 hF1 hW1
     obtain ⟨j, hj⟩ : ∃ j : Nat, j = (i + st) % ts.length := ⟨_, rfl⟩
     have hjl : j < ts.length := by rw [hj]; exact Nat.mod_lt _ (by omega)
     obtain ⟨v2, hv2, hT2⟩ := DAts.get (d := toD ts[j]) htsG (by rw [List.getElem?_map, List.getElem?_eq_getElem hjl]; rfl)
     have hm2 := List.getElem_mem hjl
     have hF2 := hf _ hm2
     have hW2 := hwt _ hm2
     generalize ts[j] = t2 at hT2 hm2 hF2 hW2
     obtain ⟨_, _, _, q1, q2, _⟩ := id ak
     have sG := q1.trans q2
     refine zG fun N hN => ?_
     simp! []
     refine ⟨us, SqL.of (sG _ _ hsaG), v1, by rw [show (0 : Int) + (i : Int) = ((i : Nat) : Int) by omega]; exact yI hv1, hN _ _ ?_⟩
     clear hN
     refine zG fun N hN => ?_
     simp! []
     refine ⟨ts.length, .inl ⟨_, SqL.of (sG _ _ hsaG), hul.symm⟩, by omega, us, SqL.of (sG _ _ hsaG), v2, by rw [show ((0 : Int) + (i : Int) + (st : Int)) % (ts.length : Int) = ((j : Nat) : Int) by rw [hj, Int.natCast_emod]; congr 1; omega]; exact yI hv2, hN _ _ ?_⟩
     clear hN
     obtain ⟨v0, hv0, hT0⟩ := DAts.get (d := toD ts[0]) htsG (by rw [List.getElem?_map, List.getElem?_eq_getElem hpos]; rfl)
     have hm0 := List.getElem_mem hpos
     have hF0 := hf _ hm0
     have hW0 := hwt _ hm0
     generalize ts[0] = t0 at hT0 hm0 hF0 hW0
     clear sG q1 q2
     obtain ⟨J2, ws2, as2, b1, b2, b3, b4, b5, b6, b7⟩ := ak
     have hwl2 : ws2.length = as2.length := by have := DAts.length b5; rwa [List.length_map] at this
     refine zG fun N hN => ?_
     simp! []
     refine ⟨.inl ⟨rfl, _, SqL.of b4⟩, small (by decide), fun x1 hx1 => ⟨small (by decide), fun x2 hx2 => ?_⟩⟩
     have S1 := Sub.new b2 hx1 (.tup [V.str "not", v1])
     have S2 := Sub.new S1.s hx2 (.tup [V.str "not", V.ref x1])
     have ST := (S1.trans S2)
     have ak := xH b1 b3 b4 b5 b6 b7 ST (t := .node "not" [.node "not" [t1]]) (TAt.node zB (TAts.one (DAt.same S2.j (TAt.node zB (TAts.one (DAt.same (b1.trans S1.j) hT1)))))) ⟨xK (xK hF1), by rw [jB, jB]; omega⟩
     refine ⟨ws2, ST.h _ _ b4, zR (by omega), hN _ _ ?_⟩
     clear hN
     clear b1 b2 b3 b4 b5 b6 b7 hwl2 ST S1 S2 hx1 hx2
     generalize upd (upd (upd G2 x1 (.tup [V.str "not", v1])) x2 (.tup [V.str "not", V.ref x1])) pa (.lst (ws2 ++ [V.ref x2])) = G2 at ak ⊢
     obtain ⟨J2, ws2, as2, b1, b2, b3, b4, b5, b6, b7⟩ := ak
     have hwl2 : ws2.length = as2.length := by have := DAts.length b5; rwa [List.length_map] at this
     refine zG fun N hN => ?_
     simp! []
     refine ⟨.inl ⟨rfl, _, SqL.of b4⟩, small (by decide), fun x1 hx1 => ?_⟩
     have S1 := Sub.new b2 hx1 (.tup [V.str "not", v1])
     have ST := S1
     have ak := xH b1 b3 b4 b5 b6 b7 ST (t := .node "not" [t1]) (TAt.node zB (TAts.one (DAt.same (b1.trans S1.j) hT1))) ⟨(xK hF1).mono (by decide), by rw [jB]; omega⟩
     refine ⟨ws2, ST.h _ _ b4, zR (by omega), hN _ _ ?_⟩
     clear hN
     clear b1 b2 b3 b4 b5 b6 b7 hwl2 ST S1 hx1
     generalize upd (upd G2 x1 (.tup [V.str "not", v1])) pa (.lst (ws2 ++ [V.ref x1])) = G2 at ak ⊢
     obtain ⟨J2, ws2, as2, b1, b2, b3, b4, b5, b6, b7⟩ := ak
     have hwl2 : ws2.length = as2.length := by have := DAts.length b5; rwa [List.length_map] at this
     refine zG fun N hN => ?_
     simp! []
     refine ⟨.inl ⟨rfl, _, SqL.of b4⟩, small (by decide), fun x1 hx1 => ?_⟩
     have S1 := Sub.new b2 hx1 (.tup [V.str "both", v1, v2])
     have ST := S1
     have ak := xH b1 b3 b4 b5 b6 b7 ST (t := .node "both" [t1, t2]) (TAt.node zB ⟨_, _, rfl, DAt.same (b1.trans S1.j) hT1, _, _, rfl, DAt.same (b1.trans S1.j) hT2, rfl⟩) (Ask.node (n := 17) (by decide) (.inr (.inr (.inr (.inl ⟨rfl, Nat.le_refl 2⟩)))) (fun u hu => by rcases List.mem_cons.mp hu with e | hu; rw [e]; exact hF1; rw [List.mem_singleton.mp hu]; exact hF2) (by rw [wts, wts, wts]; omega))
     refine ⟨ws2, ST.h _ _ b4, zR (by omega), hN _ _ ?_⟩
     clear hN
     clear b1 b2 b3 b4 b5 b6 b7 hwl2 ST S1 hx1
     generalize upd (upd G2 x1 (.tup [V.str "both", v1, v2])) pa (.lst (ws2 ++ [V.ref x1])) = G2 at ak ⊢
     obtain ⟨J2, ws2, as2, b1, b2, b3, b4, b5, b6, b7⟩ := ak
     have hwl2 : ws2.length = as2.length := by have := DAts.length b5; rwa [List.length_map] at this
     refine zG fun N hN => ?_
     simp! []
     refine ⟨.inl ⟨rfl, _, SqL.of b4⟩, small (by decide), fun x1 hx1 => ?_⟩
     have S1 := Sub.new b2 hx1 (.tup [V.str "either", v2, v1])
     have ST := S1
     have ak := xH b1 b3 b4 b5 b6 b7 ST (t := .node "either" [t2, t1]) (TAt.node zB ⟨_, _, rfl, DAt.same (b1.trans S1.j) hT2, _, _, rfl, DAt.same (b1.trans S1.j) hT1, rfl⟩) (Ask.node (n := 17) (by decide) (.inr (.inr (.inr (.inr ⟨rfl, Nat.le_refl 2⟩)))) (fun u hu => by rcases List.mem_cons.mp hu with e | hu; rw [e]; exact hF2; rw [List.mem_singleton.mp hu]; exact hF1) (by rw [wts, wts, wts]; omega))
     refine ⟨ws2, ST.h _ _ b4, zR (by omega), hN _ _ ?_⟩
     clear hN
     clear b1 b2 b3 b4 b5 b6 b7 hwl2 ST S1 hx1
     generalize upd (upd G2 x1 (.tup [V.str "either", v2, v1])) pa (.lst (ws2 ++ [V.ref x1])) = G2 at ak ⊢
     obtain ⟨J2, ws2, as2, b1, b2, b3, b4, b5, b6, b7⟩ := ak
     have hwl2 : ws2.length = as2.length := by have := DAts.length b5; rwa [List.length_map] at this
     refine zG fun N hN => ?_
     simp! []
     refine ⟨.inl ⟨rfl, _, SqL.of b4⟩, us, SqL.of ((b1.trans b2) _ _ hsaG), v0, yI (j := 0) hv0, small (by decide), fun x1 hx1 => ?_⟩
     have S1 := Sub.new b2 hx1 (.tup [V.str "both", v2, v1, v0])
     have ST := S1
     have ak := xH b1 b3 b4 b5 b6 b7 ST (t := .node "both" [t2, t1, t0]) (TAt.node zB ⟨_, _, rfl, DAt.same (b1.trans S1.j) hT2, _, _, rfl, DAt.same (b1.trans S1.j) hT1, _, _, rfl, DAt.same (b1.trans S1.j) hT0, rfl⟩) (Ask.node (n := 17) (by decide) (.inr (.inr (.inr (.inl ⟨rfl, (by show 2 <= 3; decide)⟩)))) (fun u hu => by rcases List.mem_cons.mp hu with e | hu; rw [e]; exact hF2; rcases List.mem_cons.mp hu with e | hu; rw [e]; exact hF1; rw [List.mem_singleton.mp hu]; exact hF0) (by rw [wts, wts, wts, wts]; omega))
     refine ⟨ws2, ST.h _ _ b4, zR (by omega), hN _ _ ?_⟩
     clear hN
     clear b1 b2 b3 b4 b5 b6 b7 hwl2 ST S1 hx1
     generalize upd (upd G2 x1 (.tup [V.str "both", v2, v1, v0])) pa (.lst (ws2 ++ [V.ref x1])) = G2 at ak ⊢
     obtain ⟨J2, ws2, as2, b1, b2, b3, b4, b5, b6, b7⟩ := ak
     have hwl2 : ws2.length = as2.length := by have := DAts.length b5; rwa [List.length_map] at this
     refine zG fun N hN => ?_
     simp! []
     refine ⟨.inl ⟨rfl, _, SqL.of b4⟩, small (by decide), fun x1 hx1 => ⟨small (by decide), fun x2 hx2 => ⟨small (by decide), fun x3 hx3 => ?_⟩⟩⟩
     have S1 := Sub.new b2 hx1 (.tup [V.str "not", v1])
     have S2 := Sub.new S1.s hx2 (.tup [V.str "not", v2])
     have S3 := Sub.new S2.s hx3 (.tup [V.str "either", V.ref x1, V.ref x2])
     have ST := ((S1.trans S2).trans S3)
     have ak := xH b1 b3 b4 b5 b6 b7 ST (t := .node "either" [.node "not" [t1], .node "not" [t2]]) (TAt.node zB ⟨_, _, rfl, DAt.same (S2.j.trans S3.j) (TAt.node zB (TAts.one (DAt.same (b1.trans S1.j) hT1))), _, _, rfl, DAt.same S3.j (TAt.node zB (TAts.one (DAt.same (b1.trans (S1.j.trans S2.j)) hT2))), rfl⟩) (Ask.node (n := 18) (by decide) (.inr (.inr (.inr (.inr ⟨rfl, Nat.le_refl 2⟩)))) (fun u hu => by rcases List.mem_cons.mp hu with e | hu; rw [e]; exact xK hF1; rw [List.mem_singleton.mp hu]; exact xK hF2) (by rw [wts, wts, wts, jB, jB]; omega))
     refine ⟨ws2, ST.h _ _ b4, zR (by omega), hN _ _ ?_⟩
     clear hN
     clear b1 b2 b3 b4 b5 b6 b7 hwl2 ST S1 S2 S3 hx1 hx2 hx3
     generalize upd (upd (upd (upd G2 x1 (.tup [V.str "not", v1])) x2 (.tup [V.str "not", v2])) x3 (.tup [V.str "either", V.ref x1, V.ref x2])) pa (.lst (ws2 ++ [V.ref x3])) = G2 at ak ⊢
     clear hT0 hT2 hF0 hF2 hW0 hW2 hm0 hm2 hv0 hv2
     simp! [rSlG]
     cases t1 with
     | name y =>
       obtain ⟨a1, vs1, rfl, ha1, u1, r1, rfl, h1, u2, r2, rfl, h2, h3⟩ := hT1
       have h1 : u1 = .str "name" := h1
       have h2 : u2 = .str y := h2
       have h3 : r2 = [] := h3
       subst h1 h2 h3
       refine ⟨a1, rfl, _, ak.sub _ _ ha1, fun p3 G3 s3 kp3 => ?_⟩
       rw [xL] at kp3
       refine ⟨⟨_, SqT.of kp3⟩, ?_⟩
       refine qZ (xs := [V.str y]) (fun jj σ Gc => AkAt G' Gc pa (21 + 27 * i + 6) /\ Gc p3 = some (.tup [V.str y]) /\ ∃ o9, σ = [some (V.ref a), some (V.ref pp), some (V.ref sa), some (V.ref ra), some (V.int st), some (V.int (0 + (i : Int))), some (V.ref pa), some (V.ref a1), some v2, o9, none, none]) ⟨ak.ext s3, kp3, _, rfl⟩ (fun jj σ Gc _ h => SqT.of h.2.1) (fun jj x σ Gc hx h => ?_) (fun σ Gc h => ?_)
       · obtain ⟨akc, kc, o9', rfl⟩ := h
         simp! [rNeG]
         refine ⟨_, SqT.of (akc.sub _ _ ha1), _, at0, 0, .str "name", rfl, .str "name", rfl, trivial, by decide, ?_⟩
         rw [deq_refl, if_neg (by decide)]
         exact ⟨akc, kc, _, rfl⟩
       · obtain ⟨akc, kc, o9', rfl⟩ := h
         exact ⟨akc.mono (by omega), _, _, _, _, rfl⟩
     | node wd ts1 =>
       obtain ⟨a1, vs1, rfl, ha1, u1, ws1, rfl, h1, hws1⟩ := hT1
       have h1 : u1 = .str wd := h1
       subst h1
       have hf1 : FitP 18 (.node wd ts1) := hF1
       obtain ⟨hs1, hfs1⟩ := hf1.node
       rw [toDs_map] at hws1
       rw [wt] at hW1
       have hwl1 : ws1.length = ts1.length := by have := DAts.length hws1; rwa [List.length_map] at this
       have hts1 := wts_len ts1
       have hwd : wd ≠ "name" := fun z => by
         subst z
         rcases hs1 with h | h | h | h | h <;> exact absurd h.1 (by decide)
       refine ⟨a1, rfl, _, ak.sub _ _ ha1, fun p3 G3 s3 kp3 => ?_⟩
       rw [xL] at kp3
       refine ⟨⟨_, SqT.of kp3⟩, ?_⟩
       refine qZ (xs := ws1) (fun jj σ Gc => AkAt G' Gc pa (21 + 27 * i + 6 + jj) /\ Gc p3 = some (.tup ws1) /\ ∃ o9, σ = [some (V.ref a), some (V.ref pp), some (V.ref sa), some (V.ref ra), some (V.int st), some (V.int (0 + (i : Int))), some (V.ref pa), some (V.ref a1), some v2, o9, none, none]) ⟨ak.ext s3, kp3, _, rfl⟩ (fun jj σ Gc _ h => SqT.of h.2.1) (fun jj x σ Gc hx h => ?_) (fun σ Gc h => ?_)
       · obtain ⟨akc, kc, o9', rfl⟩ := h
         have hjl := (List.getElem?_eq_some_iff.mp hx).1
         obtain ⟨u, hui, hx'⟩ := xA (f := toD) hws1 hx
         have hfu : Fit 16 u := hfs1 u (List.mem_of_getElem? hui)
         have hwu := wt_part hui
         simp! [rNeG]
         refine ⟨_, SqT.of (akc.sub _ _ ha1), _, at0, 0, .str wd, rfl, .str "name", rfl, trivial, by decide, ?_⟩
         rw [yP, if_pos (decide_eq_false hwd)]
         obtain ⟨J2, ws2, as2, b1, b2, b3, b4, b5, b6, b7⟩ := akc
         have hwl2 : ws2.length = as2.length := by have := DAts.length b5; rwa [List.length_map] at this
         have npa : p3 ≠ pa := fun z => by rw [z, b4] at kc; cases kc
         exact ⟨.inl ⟨rfl, _, SqL.of b4⟩, ws2, b4, zR (by omega), xH b1 b3 b4 b5 b6 b7 (Sub.refl b2) (DAt.same b1 hx') ⟨hfu.mono (by decide), by omega⟩, by rw [zH npa]; exact kc, _, rfl⟩
       · obtain ⟨akc, kc, o9', rfl⟩ := h
         exact ⟨akc.mono (by omega), _, _, _, _, rfl⟩
   · obtain ⟨ak, o5, o7, o8, o9, rfl⟩ := h
     obtain ⟨q1, q2, q3, q4, q5, q6, q7, q8, q9, q10⟩ := ak
     exact hN _ _ ⟨⟨q1, q2, q3, q4, q5, q6, q7, q8, q9, by omega⟩, _, _, _, _, rfl⟩
 obtain ⟨ak, o5, o7, o8, o9, rfl⟩ := h
 refine yA (fun σ G3 => AkAt G' G3 pa 590 /\ σ = [some (V.ref a), some (V.ref pp), some (V.ref sa), some (V.ref ra), some (V.int st), o5, some (V.ref pa), o7, o8, o9, none, none]) (fun N hN => ?_) (fun σ G3 h => ?_)
 · simp! [tTR, rCatG]
   refine ⟨us.length, .inl ⟨_, SqL.of (ak.sub _ _ hsaG), rfl⟩, ?_⟩
   by_cases c1 : 2 < us.length
   · rw [if_pos (by omega)]
     obtain ⟨J2, ws2, as2, b1, b2, b3, b4, b5, b6, b7⟩ := ak
     have hwl2 : ws2.length = as2.length := by have := DAts.length b5; rwa [List.length_map] at this
     refine ⟨.inl ⟨rfl, _, SqL.of b4⟩, small (by decide), fun q1 hq1 => ?_⟩
     have S1 := Sub.new b2 hq1 (.tup [V.str "both"])
     have k1 : upd J2 q1 (.tup [V.str "both"]) q1 = some (.tup [V.str "both"]) := zB
     generalize upd J2 q1 (.tup [V.str "both"]) = JA at S1 k1
     generalize upd G2 q1 (.tup [V.str "both"]) = GA at S1 ⊢
     refine ⟨us, SqL.of ((b1.trans (S1.j.trans S1.s)) _ _ hsaG), fun q2 hq2 => ?_⟩
     rw [cut_5]
     have S2 := Sub.new S1.s hq2 (.lst (us.take 5))
     have k2 : upd JA q2 (.lst (us.take 5)) q2 = some (.lst (us.take 5)) := zB
     generalize upd JA q2 (.lst (us.take 5)) = JB at S2 k2
     generalize upd GA q2 (.lst (us.take 5)) = GB at S2 ⊢
     refine ⟨us.take 5, .inl ⟨SqL.of (S2.s _ _ k2), fun q3 hq3 => ?_⟩⟩
     have S3 := Sub.new S2.s hq3 (.tup (us.take 5))
     have k3 : upd JB q3 (.tup (us.take 5)) q3 = some (.tup (us.take 5)) := zB
     generalize upd JB q3 (.tup (us.take 5)) = JC at S3 k3
     generalize upd GB q3 (.tup (us.take 5)) = GC at S3 ⊢
     refine ⟨_, S3.s _ _ ((S2.j.trans S3.j) _ _ k1), _, S3.s _ _ k3, small (by rw [List.length_take]; simp; omega), fun q4 G4 s4 k4 => ?_⟩
     have SA := S1.trans (S2.trans S3)
     have sC := SA.s.trans s4
     have jD := jV sC k4
     have sD := Same.take sC k4
     have kD : upd JC q4 (.tup ([V.str "both"] ++ us.take 5)) q4 = some (.tup (V.str "both" :: us.take 5)) := zB
     have k4a : G4 pa = some (.lst ws2) := s4 _ _ (SA.h _ _ b4)
     have n4 : pa ≠ q4 := fun z => by rw [← z, k4a] at k4; cases k4
     have fD : upd JC q4 (.tup ([V.str "both"] ++ us.take 5)) pa = none := by rw [zH n4]; exact SA.o _ (xY b4) b3
     generalize upd JC q4 (.tup ([V.str "both"] ++ us.take 5)) = JD at jD sD kD fD
     have hl5 : (ts.take 5).length = min 5 ts.length := List.length_take
     have ak := ak_put2 b1 b5 b6 b7 (SA.j.trans jD) sD fD (t := .node "both" (ts.take 5)) (v := .ref q4) (TAt.node kD (DAts.same (b1.trans (SA.j.trans jD)) (TAts.take5 5 htsG))) (Ask.node (n := 17) (by decide) (.inr (.inr (.inr (.inl ⟨rfl, by omega⟩)))) (fun t ht => hf t (List.mem_of_mem_take ht)) (by omega))
     refine ⟨ws2, k4a, zR (by omega), ?_⟩
     clear hwl2 b1 b2 b3 b4 b5 b6 b7 S1 S2 S3 SA sC jD sD kD k4a n4 fD k1 k2 k3 k4 s4 hq1 hq2 hq3 hl5
     generalize upd G4 pa (.lst (ws2 ++ [V.ref q4])) = G2 at ak ⊢
     obtain ⟨J2, ws2, as2, b1, b2, b3, b4, b5, b6, b7⟩ := ak
     have hwl2 : ws2.length = as2.length := by have := DAts.length b5; rwa [List.length_map] at this
     refine ⟨.inl ⟨rfl, _, SqL.of b4⟩, small (by decide), fun q1 hq1 => ?_⟩
     have S1 := Sub.new b2 hq1 (.tup [V.str "either"])
     have k1 : upd J2 q1 (.tup [V.str "either"]) q1 = some (.tup [V.str "either"]) := zB
     generalize upd J2 q1 (.tup [V.str "either"]) = JA at S1 k1
     generalize upd G2 q1 (.tup [V.str "either"]) = GA at S1 ⊢
     refine ⟨us, SqL.of ((b1.trans (S1.j.trans S1.s)) _ _ hsaG), fun q2 hq2 => ?_⟩
     rw [cut_4]
     have S2 := Sub.new S1.s hq2 (.lst (us.take 4))
     have k2 : upd JA q2 (.lst (us.take 4)) q2 = some (.lst (us.take 4)) := zB
     generalize upd JA q2 (.lst (us.take 4)) = JB at S2 k2
     generalize upd GA q2 (.lst (us.take 4)) = GB at S2 ⊢
     refine ⟨us.take 4, S2.s _ _ k2, fun q3 hq3 => ?_⟩
     have S3 := Sub.new S2.s hq3 (.tup (us.take 4).reverse)
     have k3 : upd JB q3 (.tup (us.take 4).reverse) q3 = some (.tup (us.take 4).reverse) := zB
     generalize upd JB q3 (.tup (us.take 4).reverse) = JC at S3 k3
     generalize upd GB q3 (.tup (us.take 4).reverse) = GC at S3 ⊢
     refine ⟨_, S3.s _ _ ((S2.j.trans S3.j) _ _ k1), _, S3.s _ _ k3, small (by rw [List.length_reverse, List.length_take]; simp; omega), fun q4 G4 s4 k4 => ?_⟩
     have SA := S1.trans (S2.trans S3)
     have sC := SA.s.trans s4
     have jD := jV sC k4
     have sD := Same.take sC k4
     have kD : upd JC q4 (.tup ([V.str "either"] ++ (us.take 4).reverse)) q4 = some (.tup (V.str "either" :: (us.take 4).reverse)) := zB
     have k4a : G4 pa = some (.lst ws2) := s4 _ _ (SA.h _ _ b4)
     have n4 : pa ≠ q4 := fun z => by rw [← z, k4a] at k4; cases k4
     have fD : upd JC q4 (.tup ([V.str "either"] ++ (us.take 4).reverse)) pa = none := by rw [zH n4]; exact SA.o _ (xY b4) b3
     generalize upd JC q4 (.tup ([V.str "either"] ++ (us.take 4).reverse)) = JD at jD sD kD fD
     have hl4 : (ts.take 4).reverse.length = min 4 ts.length := by rw [List.length_reverse, List.length_take]
     have ak := ak_put2 b1 b5 b6 b7 (SA.j.trans jD) sD fD (t := .node "either" (ts.take 4).reverse) (v := .ref q4) (TAt.node kD (TAts.rev (DAts.same (b1.trans (SA.j.trans jD)) (TAts.take5 4 htsG)))) (Ask.node (n := 17) (by decide) (.inr (.inr (.inr (.inr ⟨rfl, by omega⟩)))) (fun t ht => hf t (List.mem_of_mem_take (List.mem_reverse.mp ht))) (by rw [wts_rev]; omega))
     exact ⟨ws2, k4a, zR (by omega), hN _ _ ⟨ak, rfl⟩⟩
   · rw [if_neg (by omega)]
     exact hN _ _ ⟨ak.mono (by decide), rfl⟩
 obtain ⟨ak, rfl⟩ := h
 have sG3 := ak.sub
 obtain ⟨J2, ws2, as2, b1, b2, b3, kpa, b5, hask, hasl⟩ := ak
 have has : TAts G3 as2 ws2 := DAts.same b2 b5
 have hra3 := sG3 _ _ hraG
 have hrw3 : RwAts G3 rows' vs' := DAts.same sG3 hrwG
 clear b1 b2 b3 b5 sG3 hsaG htsG hraG hrwG
 have hwl2 : ws2.length = as2.length := by have := DAts.length has; rwa [List.length_map] at this
 refine zG fun N hN => ?_
 simp! []
 refine ⟨vs', .inl (SqL.of hra3), fun ph hph => hN _ _ ?_⟩
 clear hN
 have sh := zE hph (.lst vs')
 have kh : upd G3 ph (.lst vs') ph = some (.lst vs') := zB
 generalize upd G3 ph (.lst vs') = G4 at sh kh ⊢
 refine yA (fun σ Gc => Same G4 Gc /\ ∃ o11, σ = [some (V.ref a), some (V.ref pp), some (V.ref sa), some (V.ref ra), some (V.int st), o5, some (V.ref pa), o7, o8, o9, some (V.ref ph), o11]) (fun N hN => ?_) (fun σ Gc h => ?_)
 · simp! []
   refine ⟨⟨_, SqL.of (sh _ _ kpa)⟩, ?_⟩
   refine uA (xs := ws2) (fun i σ Gc => Same G4 Gc /\ ∃ o11, σ = [some (V.ref a), some (V.ref pp), some (V.ref sa), some (V.ref ra), some (V.int st), o5, some (V.ref pa), o7, o8, o9, some (V.ref ph), o11]) ⟨Same.refl _, _, rfl⟩ (fun i σ Gc _ h => SqL.of (h.1 _ _ (sh _ _ kpa))) (fun i x σ Gc hx h => ?_) (fun σ Gc h => ?_)
   · obtain ⟨es, o11, rfl⟩ := h
     obtain ⟨t, hti, hx'⟩ := xA (f := toD) has hx
     obtain ⟨hF, hW⟩ := hask t (List.mem_of_getElem? hti)
     have sA := sh.trans es
     simp! []
     refine ⟨ph, vs', x, rows', t, rfl, es _ _ kh, DAts.same sA hrw3, hnd', by omega, DAt.same sA hx', (Fit.mono hF (by decide) : Fit 21 t), fun H1 u1 => ?_⟩
     have sB := sA.trans u1
     refine ⟨ra, vs', x, rows', t, rfl, sB _ _ hra3, DAts.same sB hrw3, by omega, DAt.same sB hx', hF, hW, fun H2 u2 => ⟨num rows' t, rfl, true, rfl, ?_⟩⟩
     rw [if_neg (by decide)]
     exact ⟨es.trans (u1.trans u2), _, rfl⟩
   · obtain ⟨es, o11, rfl⟩ := h
     exact hN _ _ ⟨es, _, rfl⟩
 obtain ⟨es, o11, rfl⟩ := h
 have sA := sh.trans es
 simp! [rEqG]
 refine ⟨2, .lst (rows'.map dRw), ⟨ph, vs', rfl, es _ _ kh, DAts.same sA hrw3⟩, .lst (rows'.map dRw), ⟨ra, vs', rfl, sA _ _ hra3, DAts.same sA hrw3⟩, ⟨by rw [List.length_map]; omega, yL rows'⟩, by decide, ?_⟩
 rw [deq_refl]
 exact q _
end
theorem ln0 {us : List Value} (h : us.length = 0) : us = [] := List.length_eq_zero_iff.mp h
theorem lnS {us : List Value} {n : Nat} (h : us.length = n + 1) : ∃ (u : Value) (r : List Value), us = u :: r /\ r.length = n := by
 cases us with
 | nil => cases h
 | cons u r => exact ⟨u, r, rfl, Nat.succ.inj h⟩
theorem ln1 {us : List Value} (h : us.length = 1) : ∃ a, us = [a] := by
 obtain ⟨a, r, rfl, g⟩ := lnS h
 cases ln0 g
 exact ⟨a, rfl⟩
theorem ln2 {us : List Value} (h : us.length = 2) : ∃ a b, us = [a, b] := by
 obtain ⟨a, r, rfl, g⟩ := lnS h
 obtain ⟨b, rfl⟩ := ln1 g
 exact ⟨a, b, rfl⟩
theorem ln3 {us : List Value} (h : us.length = 3) : ∃ a b c, us = [a, b, c] := by
 obtain ⟨a, r, rfl, g⟩ := lnS h
 obtain ⟨b, c, rfl⟩ := ln2 g
 exact ⟨a, b, c, rfl⟩
theorem all_mk {l : PySem.W.OpenLaw} {w : World} {K : PySem.W.Frag} {h : Heap} {mg : Str -> Option Value} {fa : Addr} (X : K.In h) (G : h.Ns mainGlobals mg) (hfa : mg "law" = some (.ref fa))
   {f_i : Addr} {od_i an_i : Option Addr} {sl_i : Array (Option Value)} {oc_i kV_i dc_i pm_i cd_i ct_i : Value} (a_i : PySem.W.nsIn K mainGlobals "places_of" = some (some (.ref f_i))) (l_i : K.lookup f_i = some ⟨oc_i, od_i, .func (PySem.W.fnOf "places_of" "places_of" (zW s_i) (zT s_i) (zI s_i) .none kV_i dc_i pm_i an_i cd_i ct_i), sl_i⟩) (c_i : PySem.W.codeIn K cd_i "places_of" = true) (k_i : PySem.W.keepIn K (.ref f_i) = true)
   {f_o : Addr} {od_o an_o : Option Addr} {sl_o : Array (Option Value)} {oc_o kV_o dc_o pm_o cd_o ct_o : Value} (a_o : PySem.W.nsIn K mainGlobals "found" = some (some (.ref f_o))) (l_o : K.lookup f_o = some ⟨oc_o, od_o, .func (PySem.W.fnOf "found" "found" (zW s_o) (zT s_o) (zI s_o) .none kV_o dc_o pm_o an_o cd_o ct_o), sl_o⟩) (c_o : PySem.W.codeIn K cd_o "found" = true) (k_o : PySem.W.keepIn K (.ref f_o) = true)
   {f_m : Addr} {od_m an_m : Option Addr} {sl_m : Array (Option Value)} {oc_m kV_m dc_m pm_m cd_m ct_m : Value} (a_m : PySem.W.nsIn K mainGlobals "turned" = some (some (.ref f_m))) (l_m : K.lookup f_m = some ⟨oc_m, od_m, .func (PySem.W.fnOf "turned" "turned" (zW s_m) (zT s_m) (zI s_m) .none kV_m dc_m pm_m an_m cd_m ct_m), sl_m⟩) (c_m : PySem.W.codeIn K cd_m "turned" = true) (k_m : PySem.W.keepIn K (.ref f_m) = true)
   {f_h : Addr} {od_h an_h : Option Addr} {sl_h : Array (Option Value)} {oc_h kV_h dc_h pm_h cd_h ct_h : Value} (a_h : PySem.W.nsIn K mainGlobals "number_by" = some (some (.ref f_h))) (l_h : K.lookup f_h = some ⟨oc_h, od_h, .func (PySem.W.fnOf "number_by" "number_by" (zW s_h) (zT s_h) (zI s_h) .none kV_h dc_h pm_h an_h cd_h ct_h), sl_h⟩) (c_h : PySem.W.codeIn K cd_h "number_by" = true) (k_h : PySem.W.keepIn K (.ref f_h) = true)
   {f_a : Addr} {od_a an_a : Option Addr} {sl_a : Array (Option Value)} {oc_a kV_a dc_a pm_a cd_a ct_a : Value} (a_a : PySem.W.nsIn K mainGlobals "joined_number" = some (some (.ref f_a))) (l_a : K.lookup f_a = some ⟨oc_a, od_a, .func (PySem.W.fnOf "joined_number" "joined_number" (zW s_a) (zT s_a) (zI s_a) .none kV_a dc_a pm_a an_a cd_a ct_a), sl_a⟩) (c_a : PySem.W.codeIn K cd_a "joined_number" = true) (k_a : PySem.W.keepIn K (.ref f_a) = true)
   {f_n : Addr} {od_n an_n : Option Addr} {sl_n : Array (Option Value)} {oc_n kV_n dc_n pm_n cd_n ct_n : Value} (a_n : PySem.W.nsIn K mainGlobals "number" = some (some (.ref f_n))) (l_n : K.lookup f_n = some ⟨oc_n, od_n, .func (PySem.W.fnOf "number" "number" (zW s_n) (zT s_n) (zI s_n) .none kV_n dc_n pm_n an_n cd_n ct_n), sl_n⟩) (c_n : PySem.W.codeIn K cd_n "number" = true) (k_n : PySem.W.keepIn K (.ref f_n) = true)
   {f_c : Addr} {od_c an_c : Option Addr} {sl_c : Array (Option Value)} {oc_c kV_c dc_c pm_c cd_c ct_c : Value} (a_c : PySem.W.nsIn K mainGlobals "_law_cell_at" = some (some (.ref f_c))) (l_c : K.lookup f_c = some ⟨oc_c, od_c, .func (PySem.W.fnOf "_law_cell_at" "_law_cell_at" (zW s_c) (zT s_c) (zI s_c) .none kV_c dc_c pm_c an_c cd_c ct_c), sl_c⟩) (c_c : PySem.W.codeIn K cd_c "_law_cell_at" = true) (k_c : PySem.W.keepIn K (.ref f_c) = true)
   {f_b : Addr} {od_b an_b : Option Addr} {sl_b : Array (Option Value)} {oc_b kV_b dc_b pm_b cd_b ct_b : Value} (a_b : PySem.W.nsIn K mainGlobals "_law_name_by" = some (some (.ref f_b))) (l_b : K.lookup f_b = some ⟨oc_b, od_b, .func (PySem.W.fnOf "_law_name_by" "_law_name_by" (zW s_b) (zT s_b) (zI s_b) .none kV_b dc_b pm_b an_b cd_b ct_b), sl_b⟩) (c_b : PySem.W.codeIn K cd_b "_law_name_by" = true) (k_b : PySem.W.keepIn K (.ref f_b) = true)
   {f_j : Addr} {od_j an_j : Option Addr} {sl_j : Array (Option Value)} {oc_j kV_j dc_j pm_j cd_j ct_j : Value} (a_j : PySem.W.nsIn K mainGlobals "_law_pool" = some (some (.ref f_j))) (l_j : K.lookup f_j = some ⟨oc_j, od_j, .func (PySem.W.fnOf "_law_pool" "_law_pool" (zW s_j) (zT s_j) (zI s_j) .none kV_j dc_j pm_j an_j cd_j ct_j), sl_j⟩) (c_j : PySem.W.codeIn K cd_j "_law_pool" = true) (k_j : PySem.W.keepIn K (.ref f_j) = true)
   {f_k : Addr} {od_k an_k : Option Addr} {sl_k : Array (Option Value)} {oc_k kV_k dc_k pm_k cd_k ct_k : Value} (a_k : PySem.W.nsIn K mainGlobals "_law_leaf" = some (some (.ref f_k))) (l_k : K.lookup f_k = some ⟨oc_k, od_k, .func (PySem.W.fnOf "_law_leaf" "_law_leaf" (zW s_k) (zT s_k) (zI s_k) .none kV_k dc_k pm_k an_k cd_k ct_k), sl_k⟩) (c_k : PySem.W.codeIn K cd_k "_law_leaf" = true) (k_k : PySem.W.keepIn K (.ref f_k) = true)
   {f_g : Addr} {od_g an_g : Option Addr} {sl_g : Array (Option Value)} {oc_g kV_g dc_g pm_g cd_g ct_g : Value} (a_g : PySem.W.nsIn K mainGlobals "_law_stack" = some (some (.ref f_g))) (l_g : K.lookup f_g = some ⟨oc_g, od_g, .func (PySem.W.fnOf "_law_stack" "_law_stack" (zW s_g) (zT s_g) (zI s_g) .none kV_g dc_g pm_g an_g cd_g ct_g), sl_g⟩) (c_g : PySem.W.codeIn K cd_g "_law_stack" = true) (k_g : PySem.W.keepIn K (.ref f_g) = true)
   {f_e : Addr} {od_e an_e : Option Addr} {sl_e : Array (Option Value)} {oc_e kV_e dc_e pm_e cd_e ct_e : Value} (a_e : PySem.W.nsIn K mainGlobals "_law_turned" = some (some (.ref f_e))) (l_e : K.lookup f_e = some ⟨oc_e, od_e, .func (PySem.W.fnOf "_law_turned" "_law_turned" (zW s_e) (zT s_e) (zI s_e) .none kV_e dc_e pm_e an_e cd_e ct_e), sl_e⟩) (c_e : PySem.W.codeIn K cd_e "_law_turned" = true) (k_e : PySem.W.keepIn K (.ref f_e) = true)
   {f_d : Addr} {od_d an_d : Option Addr} {sl_d : Array (Option Value)} {oc_d kV_d dc_d pm_d cd_d ct_d : Value} (a_d : PySem.W.nsIn K mainGlobals "_law_number" = some (some (.ref f_d))) (l_d : K.lookup f_d = some ⟨oc_d, od_d, .func (PySem.W.fnOf "_law_number" "_law_number" (zW s_d) (zT s_d) (zI s_d) .none kV_d dc_d pm_d an_d cd_d ct_d), sl_d⟩) (c_d : PySem.W.codeIn K cd_d "_law_number" = true) (k_d : PySem.W.keepIn K (.ref f_d) = true)
   {f_f : Addr} {od_f an_f : Option Addr} {sl_f : Array (Option Value)} {oc_f kV_f dc_f pm_f cd_f ct_f : Value} (a_f : PySem.W.nsIn K mainGlobals "_law_build" = some (some (.ref f_f))) (l_f : K.lookup f_f = some ⟨oc_f, od_f, .func (PySem.W.fnOf "_law_build" "_law_build" (zW s_f) (zT s_f) (zI s_f) .none kV_f dc_f pm_f an_f cd_f ct_f), sl_f⟩) (c_f : PySem.W.codeIn K cd_f "_law_build" = true) (k_f : PySem.W.keepIn K (.ref f_f) = true)
   {f_l : Addr} {od_l an_l : Option Addr} {sl_l : Array (Option Value)} {oc_l kV_l dc_l pm_l cd_l ct_l : Value} (a_l : PySem.W.nsIn K mainGlobals "_law_same" = some (some (.ref f_l))) (l_l : K.lookup f_l = some ⟨oc_l, od_l, .func (PySem.W.fnOf "_law_same" "_law_same" (zW s_l) (zT s_l) (zI s_l) .none kV_l dc_l pm_l an_l cd_l ct_l), sl_l⟩) (c_l : PySem.W.codeIn K cd_l "_law_same" = true) (k_l : PySem.W.keepIn K (.ref f_l) = true)
   {f_p : Addr} {od_p an_p : Option Addr} {sl_p : Array (Option Value)} {oc_p kV_p dc_p pm_p cd_p ct_p : Value} (a_p : PySem.W.nsIn K mainGlobals "law" = some (some (.ref f_p))) (l_p : K.lookup f_p = some ⟨oc_p, od_p, .func (PySem.W.fnOf "law" "law" (zW s_p) (zT s_p) (zI s_p) .none kV_p dc_p pm_p an_p cd_p ct_p), sl_p⟩) (c_p : PySem.W.codeIn K cd_p "law" = true) (k_p : PySem.W.keepIn K (.ref f_p) = true)
    (z_enumerate : PySem.W.nsIn K mainGlobals "enumerate" = some none)
    (z_min : PySem.W.nsIn K mainGlobals "min" = some none)
    (z_reversed : PySem.W.nsIn K mainGlobals "reversed" = some none)
   (z_all : PySem.W.nsIn K mainGlobals "all" = some none)
   (z_bool : PySem.W.nsIn K mainGlobals "bool" = some none)
   (z_dict : PySem.W.nsIn K mainGlobals "dict" = some none)
   (z_int : PySem.W.nsIn K mainGlobals "int" = some none)
   (z_isinstance : PySem.W.nsIn K mainGlobals "isinstance" = some none)
   (z_len : PySem.W.nsIn K mainGlobals "len" = some none)
   (z_list : PySem.W.nsIn K mainGlobals "list" = some none)
   (z_max : PySem.W.nsIn K mainGlobals "max" = some none)
   (z_range : PySem.W.nsIn K mainGlobals "range" = some none)
   (z_set : PySem.W.nsIn K mainGlobals "set" = some none)
   (z_sorted : PySem.W.nsIn K mainGlobals "sorted" = some none)
   (z_str : PySem.W.nsIn K mainGlobals "str" = some none)
   (z_sum : PySem.W.nsIn K mainGlobals "sum" = some none)
   (z_tuple : PySem.W.nsIn K mainGlobals "tuple" = some none) :
   ∃ fd : FuncData, (∀ (s : Shared) (v : Value), BindsTo s fd ⟨[v], []⟩ [("script", v)]) /\ ∀ base : Heap, K.In base -> base.Ns mainGlobals mg -> FnOk l.prog w K mg base CX0 65 fa fd ["script"] (spLaw K) := by
 have e := hfa.symm.trans (PySem.W.mg_of X G a_p)
 cases e
 have F_i := yK (st := s_i) l_i c_i k_i
 have b_i := F_i.binds (ps := ["sheet"]) fun _ _ _ _ _ _ us hl => by obtain ⟨u0, rfl⟩ := ln1 hl; rfl
 have m_i := PySem.W.mg_of X G a_i
 have F_o := yK (st := s_o) l_o c_o k_o
 have b_o := F_o.binds (ps := ["places", "row"]) fun _ _ _ _ _ _ us hl => by obtain ⟨u0, u1, rfl⟩ := ln2 hl; rfl
 have m_o := PySem.W.mg_of X G a_o
 have F_m := yK (st := s_m) l_m c_m k_m
 have b_m := F_m.binds (ps := ["n", "turn"]) fun _ _ _ _ _ _ us hl => by obtain ⟨u0, u1, rfl⟩ := ln2 hl; rfl
 have m_m := PySem.W.mg_of X G a_m
 have F_h := yK (st := s_h) l_h c_h k_h
 have b_h := F_h.binds (ps := ["row_number", "places", "t"]) fun _ _ _ _ _ _ us hl => by obtain ⟨u0, u1, u2, rfl⟩ := ln3 hl; rfl
 have m_h := PySem.W.mg_of X G a_h
 have F_a := yK (st := s_a) l_a c_a k_a
 have b_a := F_a.binds (ps := ["row_number", "places", "t"]) fun _ _ _ _ _ _ us hl => by obtain ⟨u0, u1, u2, rfl⟩ := ln3 hl; rfl
 have m_a := PySem.W.mg_of X G a_a
 have F_n := yK (st := s_n) l_n c_n k_n
 have b_n := F_n.binds (ps := ["sheet", "t"]) fun _ _ _ _ _ _ us hl => by obtain ⟨u0, u1, rfl⟩ := ln2 hl; rfl
 have m_n := PySem.W.mg_of X G a_n
 have F_c := yK (st := s_c) l_c c_c k_c
 have b_c := F_c.binds (ps := ["script", "k"]) fun _ _ _ _ _ _ us hl => by obtain ⟨u0, u1, rfl⟩ := ln2 hl; rfl
 have m_c := PySem.W.mg_of X G a_c
 have F_b := yK (st := s_b) l_b c_b k_b
 have b_b := F_b.binds (ps := ["cell", "size"]) fun _ _ _ _ _ _ us hl => by obtain ⟨u0, u1, rfl⟩ := ln2 hl; rfl
 have m_b := PySem.W.mg_of X G a_b
 have F_j := yK (st := s_j) l_j c_j k_j
 have b_j := F_j.binds (ps := ["script"]) fun _ _ _ _ _ _ us hl => by obtain ⟨u0, rfl⟩ := ln1 hl; rfl
 have m_j := PySem.W.mg_of X G a_j
 have F_k := yK (st := s_k) l_k c_k k_k
 have b_k := F_k.binds (ps := ["cell", "pool"]) fun _ _ _ _ _ _ us hl => by obtain ⟨u0, u1, rfl⟩ := ln2 hl; rfl
 have m_k := PySem.W.mg_of X G a_k
 have F_g := yK (st := s_g) l_g c_g k_g
 have b_g := F_g.binds (ps := ["cells", "pool"]) fun _ _ _ _ _ _ us hl => by obtain ⟨u0, u1, rfl⟩ := ln2 hl; rfl
 have m_g := PySem.W.mg_of X G a_g
 have F_e := yK (st := s_e) l_e c_e k_e
 have b_e := F_e.binds (ps := ["n"]) fun _ _ _ _ _ _ us hl => by obtain ⟨u0, rfl⟩ := ln1 hl; rfl
 have m_e := PySem.W.mg_of X G a_e
 have F_d := yK (st := s_d) l_d c_d k_d
 have b_d := F_d.binds (ps := ["rows", "t"]) fun _ _ _ _ _ _ us hl => by obtain ⟨u0, u1, rfl⟩ := ln2 hl; rfl
 have m_d := PySem.W.mg_of X G a_d
 have F_f := yK (st := s_f) l_f c_f k_f
 have b_f := F_f.binds (ps := ["rows", "t"]) fun _ _ _ _ _ _ us hl => by obtain ⟨u0, u1, rfl⟩ := ln2 hl; rfl
 have m_f := PySem.W.mg_of X G a_f
 have F_l := yK (st := s_l) l_l c_l k_l
 have b_l := F_l.binds (ps := ["found_v", "due"]) fun _ _ _ _ _ _ us hl => by obtain ⟨u0, u1, rfl⟩ := ln2 hl; rfl
 have m_l := PySem.W.mg_of X G a_l
 have F_p := yK (st := s_p) l_p c_p k_p
 have b_p := F_p.binds (ps := ["script"]) fun _ _ _ _ _ _ us hl => by obtain ⟨u0, rfl⟩ := ln1 hl; rfl
 have m_p := PySem.W.mg_of X G a_p
 have bi : Bi mg := ⟨PySem.W.mg_none_of X G z_len, PySem.W.mg_none_of X G z_range, PySem.W.mg_none_of X G z_isinstance, PySem.W.mg_none_of X G z_max, PySem.W.mg_none_of X G z_sum, PySem.W.mg_none_of X G z_all, PySem.W.mg_none_of X G z_tuple, PySem.W.mg_none_of X G z_list, PySem.W.mg_none_of X G z_sorted, PySem.W.mg_none_of X G z_set, PySem.W.mg_none_of X G z_int, PySem.W.mg_none_of X G z_bool, PySem.W.mg_none_of X G z_str, PySem.W.mg_none_of X G z_dict⟩
 refine ⟨PySem.W.fnOf "law" "law" (zW s_p) (zT s_p) (zI s_p) .none kV_p dc_p pm_p an_p cd_p ct_p, fun s v => .of_eq rfl, fun base _ _ => ?_⟩
 have be : mg "enumerate" = none := PySem.W.mg_none_of X G z_enumerate
 have bmn : mg "min" = none := PySem.W.mg_none_of X G z_min
 have brv : mg "reversed" = none := PySem.W.mg_none_of X G z_reversed
 have h1 := yG F_i (ok_places (P := l.prog) (w := w) (base := base) bi be F_i) b_i m_i
 have h2 := yG F_o (ok_found (P := l.prog) (w := w) (base := base) bi F_o) b_o m_o
 have h3 := yG F_m (ok_turned (P := l.prog) (w := w) (base := base) bi F_m) b_m m_m
 have h4 := jM (h2.at m_o) h3 F_h b_h m_h F_a b_a m_a 22
 have h5 := yG F_n (ok_num m_o h1 h4 F_n) b_n m_n
 have w1 := yG F_c (ok_cell (P := l.prog) (w := w) (base := base) bi F_c) b_c m_c
 have w2 := yG F_b (ok_name (P := l.prog) (w := w) (base := base) bi F_b) b_b m_b
 have w3 := yG F_j (ok_pool bi w1 w2 F_j) b_j m_j
 have w4 := yG F_k (ok_leaf (P := l.prog) (w := w) (base := base) bi F_k) b_k m_k
 have w5 := yG F_g (ok_stack bi w4 F_g) b_g m_g
 have w7 := yG F_e (ok_lturned (P := l.prog) (w := w) (base := base) F_e) b_e m_e
 have w8 := yG F_d (ok_lnumber bi bmn w7 F_d b_d m_d 21) b_d m_d
 have w9 := yG F_f (ok_lbuild bi w7 F_f b_f m_f 21) b_f m_f
 have v1 := yG F_l (ok_same (P := l.prog) (w := w) (base := base) bi F_l) b_l m_l
 exact ok_law bi brv w1 w3 w5 w9 w8 v1 h5 F_p
theorem walk {l : PySem.W.OpenLaw} {q : Program} {loose : List Str} {XP : (Str -> Option Value) -> Heap -> Prop} {YP : World -> Heap -> Prop} {d : DefRec} {K : Params -> PySem.W.Frag} (hn : l.most = some 63) (hdf : d.params.defaults = [])
   (hY : ∀ (w : World) (h : Heap), YP w h -> (K w.params).In h)
   (F : ∀ (w : World) (mg : Str -> Option Value) (fa : Addr) (h : Heap), (K w.params).In h -> h.Ns mainGlobals mg -> mg d.name = some (.ref fa) ->
     ∃ fd : FuncData, (∀ (s : Shared) (u : Value), BindsTo s fd ⟨[u], []⟩ [("script", u)]) /\ ∀ base : Heap, (K w.params).In base -> base.Ns mainGlobals mg -> FnOk l.prog w (K w.params) mg base CX0 65 fa fd ["script"] (spLaw (K w.params))) :
   PySem.W.WalkO q loose XP YP l.row.toRowW d [] (fun f vs => PySem.call f vs) :=
 L2.walk_of (n := 63) (k := 65) (x := "script") (CX := fun _ => CX0) (sp := fun w => spLaw (K w.params)) hn (by decide) hdf ⟨rfl, by decide, by decide⟩ hY F (fun _ _ a ns hl _ hS => ⟨a, ns, rfl, hS, hl, fun _ => rfl⟩) fun _ _ _ _ _ z => z
end C
open PySem PySem.W PyProof.Rows
set_option maxRecDepth 100000 in
set_option maxHeartbeats 0 in
theorem PySem.Challenge.cw_clashbook_k10_numbers_of_terms_holds : PySem.Challenge.rw_clashbook_k10_numbers_of_terms.Holds := by
 w_on; o_law; k_head; (case hw => w_witness2)
 k_fill
 refine C.walk (l := PySem.Challenge.rw_clashbook_k10_numbers_of_terms) rfl rfl (fun w h Y => PySem.W.kIn_of Y) ?F
 case F =>
   intro w mg fa h KX G hmg
   refine' C.all_mk KX G hmg ?a_i ?l_i ?c_i ?k_i ?a_o ?l_o ?c_o ?k_o ?a_m ?l_m ?c_m ?k_m ?a_h ?l_h ?c_h ?k_h ?a_a ?l_a ?c_a ?k_a ?a_n ?l_n ?c_n ?k_n ?a_c ?l_c ?c_c ?k_c ?a_b ?l_b ?c_b ?k_b ?a_j ?l_j ?c_j ?k_j ?a_k ?l_k ?c_k ?k_k ?a_g ?l_g ?c_g ?k_g ?a_e ?l_e ?c_e ?k_e ?a_d ?l_d ?c_d ?k_d ?a_f ?l_f ?c_f ?k_f ?a_l ?l_l ?c_l ?k_l ?a_p ?l_p ?c_p ?k_p ?z_enumerate ?z_min ?z_reversed ?z_all ?z_bool ?z_dict ?z_int ?z_isinstance ?z_len ?z_list ?z_max ?z_range ?z_set ?z_sorted ?z_str ?z_sum ?z_tuple
   (case a_i => k_is); (case l_i => k_is); (case c_i => k_is); (case k_i => k_is)
   (case a_o => k_is); (case l_o => k_is); (case c_o => k_is); (case k_o => k_is)
   (case a_m => k_is); (case l_m => k_is); (case c_m => k_is); (case k_m => k_is)
   (case a_h => k_is); (case l_h => k_is); (case c_h => k_is); (case k_h => k_is)
   (case a_a => k_is); (case l_a => k_is); (case c_a => k_is); (case k_a => k_is)
   (case a_n => k_is); (case l_n => k_is); (case c_n => k_is); (case k_n => k_is)
   (case a_c => k_is); (case l_c => k_is); (case c_c => k_is); (case k_c => k_is)
   (case a_b => k_is); (case l_b => k_is); (case c_b => k_is); (case k_b => k_is)
   (case a_j => k_is); (case l_j => k_is); (case c_j => k_is); (case k_j => k_is)
   (case a_k => k_is); (case l_k => k_is); (case c_k => k_is); (case k_k => k_is)
   (case a_g => k_is); (case l_g => k_is); (case c_g => k_is); (case k_g => k_is)
   (case a_e => k_is); (case l_e => k_is); (case c_e => k_is); (case k_e => k_is)
   (case a_d => k_is); (case l_d => k_is); (case c_d => k_is); (case k_d => k_is)
   (case a_f => k_is); (case l_f => k_is); (case c_f => k_is); (case k_f => k_is)
   (case a_l => k_is); (case l_l => k_is); (case c_l => k_is); (case k_l => k_is)
   (case a_p => k_is); (case l_p => k_is); (case c_p => k_is); (case k_p => k_is)
   (case z_enumerate => k_is); (case z_min => k_is); (case z_reversed => k_is); (case z_all => k_is)
   (case z_bool => k_is); (case z_dict => k_is); (case z_int => k_is); (case z_isinstance => k_is)
   (case z_len => k_is); (case z_list => k_is); (case z_max => k_is); (case z_range => k_is)
   (case z_set => k_is); (case z_sorted => k_is); (case z_str => k_is); (case z_sum => k_is)
   (case z_tuple => k_is)
#print axioms PySem.Challenge.cw_clashbook_k10_numbers_of_terms_holds
