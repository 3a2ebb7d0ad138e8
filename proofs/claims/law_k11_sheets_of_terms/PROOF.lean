import PyProof.Rows.All
import Wide.All
import OpenK.AllK
import Wide.FinOn
import Lean
import PyProof.EqAt
import PyProof.EqKinds
import PyProof.TupleCall
import PyProof.FitsReplace
import PyProof.StrLawsChain
import PyProof.IsiH_list
import KE.KDictOf
import PyProof.Rows.Exc
import PyProof.RulesTry
import PyProof.ForAppend
import PyProof.Rows.Tup
import PyProof.CollectWalk
import PyProof.Rows.DictListVals
import PyProof.AutoSeq1
import PyProof.FactsAll.list_3
import KE.KDictSum
import PyProof.Rows.SortStr
import PyProof.Rows.SortWalk
import PyProof.SetKind
import PyProof.Rows.SetObj
import PyProof.DictKinds
import PyProof.DictIter
import PyProof.MakeMany
import PyProof.WalksS
import PyProof.Walks
import PyProof.Seq
import PyProof.TupleIter
import PyProof.FactsAll.set_1
import PyProof.ForAny
import PyProof.Rows.SetFrom
import PyProof.Rows.StrMeet
import PyProof.NeKinds
import PyProof.ZipIter
import KE.BitLaws
import PyProof.Rows.TupAdd
import PySem.SetOps
import PyProof.EnumMake
import PyProof.EnumFor
import PyProof.Rows.EnumRows
import PyProof.Rows.Range3
import PyProof.Rows.BitMore
import PyProof.Rows.RuleM_int
import KE.KDictList
import PyProof.DictWalks
import OpenK.KOwn
import OpenK.KRaise
import PyProof.ExcClass3
import PyProof.RulesAs
import PyProof.NsDelKeeps
import PyProof.StationsW
import PyProof.Rows.Catch
import PyProof.ExcArgs
import KE.KIsAll
import KE.KIsNot
import PyProof.FString
import PyProof.DictFindH
import PyProof.Rows.TupDisplay
import PySem.Challenge.RW_clashbook_k11_sheets_of_terms
namespace PySem.W.Fast
def tw7213801471706135889:=0
def tw501109462831190358:=0
def tw7892098936470398462:=0
def tw2791494681211928175:=0
def tw7544805366144447832:=0
def tw5953928410704985891:=0
def tw18426063996899030652:=0
def tw2278523715926298289:=0
def tw4888218470541612352:=0
def tw375364587437324486:=0
def tw16872788190864836306:=0
def tw15361445185976765947:=0
def tw9434923669794405421:=0
def tw10414625943260476259:=0
end PySem.W.Fast
set_option Elab.async false
set_option linter.all false
set_option maxRecDepth 100000
namespace L2
open PySem PySem.Spec PyProof.Rows
abbrev Key := Sum Int Str
def keyIs : Key -> Value -> Bool
 | .inl k, v => Value.isInt k v
 | .inr x, v => Value.isStrOf x v
def keyH (w : World) : Key -> Int
 | .inl k => hashInt k
 | .inr x => hashStr w x
theorem keyIs_shape : ∀ {k : Key} {v : Value}, keyIs k v = true -> (∃ i t, k = Sum.inl i /\ v = Value.int i t) \/ (∃ x t, k = Sum.inr x /\ v = Value.str x t)
 | .inl i, v, h => by
   obtain ⟨t, e⟩ := Value.isInt_shape (k := i) (v := v) h
   exact .inl ⟨i, t, rfl, e⟩
 | .inr x, v, h => by
   obtain ⟨t, e⟩ := Value.isStrOf_shape (x := x) (v := v) h
   exact .inr ⟨x, t, rfl, e⟩
theorem keyIs_int (i : Int) (t : Tok) : keyIs (.inl i) (.int i t) = true := by simp [keyIs, Value.isInt]
theorem keyIs_str (x : Str) (t : Tok) : keyIs (.inr x) (.str x t) = true := by simp [keyIs, Value.isStrOf]
theorem key_ll (a b : Int) : decide ((Sum.inl a : Key) = Sum.inl b) = (a == b) := by
 by_cases e : a = b
 · subst e; simp
 · have h : ¬ (Sum.inl a : Key) = Sum.inl b := fun q => e (Sum.inl.inj q)
   rw [decide_eq_false h]
   exact (beq_eq_false_iff_ne.mpr e).symm
theorem key_rr (a b : Str) : decide ((Sum.inr a : Key) = Sum.inr b) = decide (a = b) := by
 by_cases e : a = b
 · subst e; simp
 · have h : ¬ (Sum.inr a : Key) = Sum.inr b := fun q => e (Sum.inr.inj q)
   rw [decide_eq_false h, decide_eq_false e]
theorem key_lr (a : Int) (b : Str) : decide ((Sum.inl a : Key) = Sum.inr b) = false := decide_eq_false (fun q => nomatch q)
theorem key_rl (a : Str) (b : Int) : decide ((Sum.inr a : Key) = Sum.inl b) = false := decide_eq_false (fun q => nomatch q)
def zX (prog : Program) (w : World) : PySem.KeyKind prog w Key where
 is := keyIs
 hash := keyH w
 inj := fun v a b ha hb => by
   rcases keyIs_shape ha with ⟨i, t, rfl, rfl⟩ | ⟨x, t, rfl, rfl⟩
   · rcases keyIs_shape hb with ⟨j, u, rfl, e⟩ | ⟨y, u, rfl, e⟩
     · injection e with e1 _; rw [e1]
     · exact nomatch e
   · rcases keyIs_shape hb with ⟨j, u, rfl, e⟩ | ⟨y, u, rfl, e⟩
     · exact nomatch e
     · injection e with e1 _; rw [e1]
 byValue := fun k v h => by
   rcases keyIs_shape h with ⟨i, t, rfl, rfl⟩ | ⟨x, t, rfl, rfl⟩ <;> rfl
 pyHash := fun hv h => by
   rcases keyIs_shape hv with ⟨i, t, rfl, rfl⟩ | ⟨x, t, rfl, rfl⟩
   · exact wpAny_pyHash_int h
   · exact wpAny_pyHash_str h
 eqBool := fun hu hv h => by
   rcases keyIs_shape hu with ⟨i, t, rfl, rfl⟩ | ⟨x, t, rfl, rfl⟩
   · rcases keyIs_shape hv with ⟨j, u, rfl, rfl⟩ | ⟨y, u, rfl, rfl⟩
     · rw [key_ll] at h; exact wpAny_eqBool_int h
     · rw [key_lr] at h; exact SeqAt.EqAt.int_str i t y u _ _ _ _ h
   · rcases keyIs_shape hv with ⟨j, u, rfl, rfl⟩ | ⟨y, u, rfl, rfl⟩
     · rw [key_rl] at h; exact SeqAt.EqAt.str_int x t j u _ _ _ _ h
     · rw [key_rr] at h; exact wpAny_eqBool_str h
 «strs» := fun k x t v h => by
   rcases keyIs_shape h with ⟨i, u, rfl, e⟩ | ⟨y, u, rfl, e⟩
   · exact nomatch e
   · injection e with e1 _
     subst e1
     cases v <;> rfl
theorem mixKind_int (prog : Program) (w : World) (i : Int) (t : Tok) : (zX prog w).is (.inl i) (.int i t) = true := keyIs_int i t
theorem yR (prog : Program) (w : World) (x : Str) (t : Tok) : (zX prog w).is (.inr x) (.str x t) = true := keyIs_str x t
inductive V where
 | non | bl (b : Bool) | int (i : Int) | str (x : Str) | byt (b : Array UInt8) | flt (b : UInt64) | ref (a : Addr) | ty (n : String)
 deriving DecidableEq
def RelV : V -> Value -> Prop
 | .non, u => u = Value.none
 | .bl b, u => u = Value.bool b
 | .int i, u => ∃ t, u = Value.int i t
 | .str x, u => ∃ t, u = Value.str x t
 | .byt b, u => ∃ t, u = Value.bytes b t
 | .flt b, u => ∃ t, u = Value.float b t
 | .ref a, u => u = Value.ref a
 | .ty n, u => u = Value.type n
abbrev Vals : List V -> List Value -> Prop := Paired RelV
theorem Vals.length {xs : List V} {us : List Value} (r : Vals xs us) : xs.length = us.length := Paired.length r
theorem Vals.get : ∀ {xs : List V} {us : List Value} {i : Nat} {x : V}, Vals xs us -> xs[i]? = some x -> ∃ u, us[i]? = some u /\ RelV x u
 | _, _, _, _, .nil, e => by simp at e
 | _, _, 0, _, .cons r _, e => by simp at e; subst e; exact ⟨_, rfl, r⟩
 | _, _, i + 1, x, .cons _ t, e => by
   obtain ⟨u, h1, h2⟩ := Vals.get (i := i) (x := x) t (by simpa using e)
   exact ⟨u, by simpa using h1, h2⟩
theorem Vals.append : ∀ {xs ys : List V} {us ws : List Value}, Vals xs us -> Vals ys ws -> Vals (xs ++ ys) (us ++ ws)
 | _, _, _, _, .nil, s => s
 | _, _, _, _, .cons r t, s => .cons r (Vals.append t s)
theorem Vals.take : ∀ {xs : List V} {us : List Value} (n : Nat), Vals xs us -> Vals (xs.take n) (us.take n)
 | _, _, 0, _ => .nil
 | _, _, _ + 1, .nil => .nil
 | _, _, n + 1, .cons r t => .cons r (Vals.take n t)
theorem Vals.drop : ∀ {xs : List V} {us : List Value} (n : Nat), Vals xs us -> Vals (xs.drop n) (us.drop n)
 | _, _, 0, r => r
 | _, _, _ + 1, .nil => .nil
 | _, _, n + 1, .cons _ t => Vals.drop n t
def RelO : Option V -> Option Value -> Prop
 | some v, some u => RelV v u
 | none, none => True
 | _, _ => False
def KV {κ : Type} : List (κ × V) -> List (κ × Value) -> Prop := Paired fun (p : κ × V) (q : κ × Value) => p.1 = q.1 /\ RelV p.2 q.2
def kV : Key -> V
 | .inl i => .int i
 | .inr x => .str x
inductive HO where
 | lst (xs : List V)
 | tup (xs : List V)
 | dK (kvs : List (Key × V)) | dT (kvs : List (List Key × V))
 | set (S : Int -> Bool) (n : Nat)
 | ins (C dx : Addr) (fs : List (Str × V))
 | own (x : Addr)
 | xd (fs : List (Str × V))
 | met (f x : Addr)
 | rng (lo hi : Int)
 | frz (o : Obj) (u : HO)
 | tbl (ps : Array Value)
 | ext (φ : Heap -> Prop)
abbrev Hp := Addr -> Option HO
def upd (H : Hp) (a : Addr) (o : HO) : Hp := fun b => if b = a then some o else H b
theorem zB {H : Hp} {a : Addr} {o : HO} : upd H a o a = some o := by unfold upd; rw [if_pos rfl]
theorem zH {H : Hp} {a b : Addr} {o : HO} (h : b ≠ a) : upd H a o b = H b := by unfold upd; rw [if_neg h]
theorem xF {H : Hp} {a : Addr} {o u : HO} : upd (upd H a o) a u = upd H a u := by
 funext b; unfold upd; split <;> rfl
theorem ne_of {H : Hp} {a b : Addr} {o u : HO} (h : H a = some o) (h' : H b = some u) (d : o ≠ u) : a ≠ b := by
 intro e; subst e; rw [h] at h'; exact d (Option.some.inj h')
theorem zS {H : Hp} {a b : Addr} {o : HO} (h : H a = some o) (h' : H b = none) : a ≠ b := by
 intro e; subst e; rw [h] at h'; cases h'
section
variable (P : Program) (w : World)
def ObjOk (H : Hp) (h : Heap) (a : Addr) : HO -> Prop
 | .lst xs => xs.length <= sizeLine /\ ∃ (its : List Value) (n : Nat), Vals xs its /\ h.get? a = some { cls := .type "list", data := .seq its.toArray n }
 | .tup xs => xs.length <= sizeLine /\ ∃ its : List Value, Vals xs its /\ IsTup h a its.toArray
 | .dK kvs => kvs.length <= sizeLine /\ (a == sysModules) = false /\ ∃ vs, KV kvs vs /\ h.DictOf (zX P w) a vs
 | .dT kvs => kvs.length <= sizeLine /\ (a == sysModules) = false /\ ∃ xs : List (List Key × Addr × Value),
     Paired (fun (p : List Key × V) (q : List Key × Addr × Value) => p.1 = q.1 /\ H q.2.1 = some (.tup (p.1.map kV)) /\ RelV p.2 q.2.2) kvs xs /\
     ∃ o es ep, h.get? a = some o /\ o.ExactDict /\ o.data = .dict es ep /\ es.toList = xs.map (entryOfKey (tupleKind (zX P w))) /\ (xs.map (·.1)).Nodup
 | .set S n => h.SetOf (intKind P w) a S n
 | .ins C dx fs => H dx = some (.own a) /\ fs.length <= 1000 /\ dx ≠ a /\ h.get? a = some (PySem.W.instObj C dx) /\
     ∃ mA, h.Ns1 dx mA /\ (∀ f, RelO (fs.lookup f) (mA f)) /\ PySem.Within mA (fs.map (·.1))
 | .own _ => ∃ o, h.get? a = some o
 | .xd fs => ∃ mA, h.Ns1 a mA /\ ∀ f, RelO (fs.lookup f) (mA f)
 | .rng lo hi => ∃ t u v, h.get? a = some { cls := .type "range", data := .fields #[.int lo t, .int hi u, .int 1 v] }
 | .frz o u => h.get? a = some o /\ ObjOk H h a u
 | .tbl ps => h.get? a = some { cls := .none, data := .fields ps }
 | .met f x => h.get? a = some (PySem.W.methodObj (.ref f) (.ref x))
 | .ext φ => φ h /\ (∃ o, h.get? a = some o) /\ ∀ h1 h2 : Heap, φ h1 -> (∀ o, h1.get? a = some o -> h2.get? a = some o) -> φ h2
def HOk (H : Hp) (h : Heap) : Prop := ∀ a o, H a = some o -> ObjOk P w H h a o
end
section
variable {P : Program} {w : World} {H H' : Hp} {h h' : Heap} {a : Addr} {o : HO}
theorem ObjOk.lt (x : ObjOk P w H h a o) : a < h.objs.size := by
 cases o with
 | lst xs => obtain ⟨_, _, _, _, e⟩ := x; exact Heap.lt_size e
 | tup xs => obtain ⟨_, _, _, p⟩ := x; exact p.lt
 | dK kvs => obtain ⟨_, _, _, _, o, _, _, e, _⟩ := x; exact Heap.lt_size e
 | dT kvs => obtain ⟨_, _, _, _, o, _, _, e, _⟩ := x; exact Heap.lt_size e
 | set S n => obtain ⟨o, _, _, _, e, _⟩ := x; exact Heap.lt_size e
 | ins C dx fs => obtain ⟨_, _, _, e, _⟩ := x; exact Heap.lt_size e
 | own y => obtain ⟨_, e⟩ := x; exact Heap.lt_size e
 | xd fs => obtain ⟨_, ⟨_, _, _, e, _⟩, _⟩ := x; exact Heap.lt_size e
 | rng lo hi => obtain ⟨_, _, _, e⟩ := x; exact Heap.lt_size e
 | frz ob u => obtain ⟨e, _⟩ := x; exact Heap.lt_size e
 | tbl ps => exact Heap.lt_size (show h.get? a = some _ from x)
 | met f y => exact Heap.lt_size (show h.get? a = some _ from x)
 | ext φ => obtain ⟨_, ⟨_, e⟩, _⟩ := x; exact Heap.lt_size e
theorem Paired.mapP {α β : Type} {F G : α -> β -> Prop} : ∀ {l₁ : List α} {l₂ : List β}, Paired F l₁ l₂ -> (∀ a b, F a b -> G a b) -> Paired G l₁ l₂
 | _, _, .nil, _ => .nil
 | _, _, .cons r t, f => .cons (f _ _ r) (Paired.mapP t f)
theorem ObjOk.stay (x : ObjOk P w H h a o) (k : ∀ b u, (b = a \/ H b = some (.own a)) -> h.get? b = some u -> h'.get? b = some u)
   (ho : ∀ b, H b = some (.own a) -> H' b = some (.own a)) (ht : ∀ b xs, H b = some (.tup xs) -> H' b = some (.tup xs)) : ObjOk P w H' h' a o := by
 induction o with
 | lst xs => obtain ⟨z, its, n, r, e⟩ := x; exact ⟨z, its, n, r, k _ _ (.inl rfl) e⟩
 | tup xs => obtain ⟨z, its, r, ob, e, c⟩ := x; exact ⟨z, its, r, ob, k _ _ (.inl rfl) e, c⟩
 | dK kvs => obtain ⟨z, y, vs, r, ob, es, ep, e, c⟩ := x; exact ⟨z, y, vs, r, ob, es, ep, k _ _ (.inl rfl) e, c⟩
 | dT kvs =>
   obtain ⟨z, y, xs, r, ob, es, ep, e, c⟩ := x
   exact ⟨z, y, xs, Paired.mapP r fun p q z => ⟨z.1, ht _ _ z.2.1, z.2.2⟩, ob, es, ep, k _ _ (.inl rfl) e, c⟩
 | set S n => obtain ⟨ob, es, ep, t, e, c⟩ := x; exact ⟨ob, es, ep, t, k _ _ (.inl rfl) e, c⟩
 | ins C dx fs =>
   obtain ⟨d, z, ne, e, mA, ⟨od, es, ep, e2, c⟩, r⟩ := x
   exact ⟨ho _ d, z, ne, k _ _ (.inl rfl) e, mA, ⟨od, es, ep, k _ _ (.inr d) e2, c⟩, r⟩
 | own y => obtain ⟨ob, e⟩ := x; exact ⟨ob, k _ _ (.inl rfl) e⟩
 | xd fs => obtain ⟨mA, ⟨od, es, ep, e, c⟩, r⟩ := x; exact ⟨mA, ⟨od, es, ep, k _ _ (.inl rfl) e, c⟩, r⟩
 | rng lo hi => obtain ⟨t, u, v, e⟩ := x; exact ⟨t, u, v, k _ _ (.inl rfl) e⟩
 | frz ob u ih => obtain ⟨e, q⟩ := x; exact ⟨k _ _ (.inl rfl) e, ih q⟩
 | tbl ps =>
   have e : h.get? a = some { cls := .none, data := .fields ps } := x
   show h'.get? a = some { cls := .none, data := .fields ps }
   exact k a _ (.inl rfl) e
 | met f y =>
   have e : h.get? a = some (PySem.W.methodObj (.ref f) (.ref y)) := x
   show h'.get? a = some (PySem.W.methodObj (.ref f) (.ref y))
   exact k a _ (.inl rfl) e
 | ext φ => obtain ⟨p, ⟨o, e⟩, st⟩ := x; exact ⟨st _ _ p fun o q => k _ _ (.inl rfl) q, ⟨o, k _ _ (.inl rfl) e⟩, st⟩
theorem HOk.lt (x : HOk P w H h) (e : H a = some o) : a < h.objs.size := (x a o e).lt
theorem HOk.fresh (x : HOk P w H h) (e : h.objs.size <= a) : H a = none := by
 cases q : H a with
 | none => rfl
 | some u => exact absurd (Nat.lt_of_lt_of_le (x.lt q) e) (Nat.lt_irrefl _)
theorem HOk.kept (x : HOk P w H h) (k : ∀ b u, h.get? b = some u -> h'.get? b = some u) : HOk P w H h' := fun a o e =>
 (x a o e).stay (fun b u _ q => k b u q) (fun _ q => q) fun _ _ q => q
theorem HOk.laid (x : HOk P w H h) (k : ∀ b u, h.get? b = some u -> h'.get? b = some u) (hp : h.objs.size <= a) (new : ObjOk P w (upd H a o) h' a o) : HOk P w (upd H a o) h' := fun b u e => by
 have hn := x.fresh hp
 by_cases hb : b = a
 · subst hb; rw [zB] at e; cases e; exact new
 · rw [zH hb] at e
   exact (x b u e).stay (fun c v _ q => k c v q) (fun c q => by rw [zH (zS q hn)]; exact q) fun c xs q => by rw [zH (zS q hn)]; exact q
end
def Rd (H : Hp) (a : Addr) (u : HO) : Prop := H a = some u \/ ∃ o, H a = some (.frz o u)
theorem Rd.ok {P : Program} {w : World} {H : Hp} {h : Heap} {a : Addr} {u : HO} (r : Rd H a u) (x : HOk P w H h) : ObjOk P w H h a u := by
 rcases r with r | ⟨o, r⟩
 · exact x a u r
 · obtain ⟨_, q⟩ := x a _ r
   exact q
def Mut : Option HO -> Prop
 | some (.lst _) => True
 | some (.dK _) => True
 | some (.dT _) => True
 | some (.set _ _) => True
 | some (.ins _ _ _) => True
 | some (.ext _) => True
 | _ => False
section
variable {P : Program} {w : World} {H : Hp} {h h' : Heap} {x e : Addr} {o' : HO}
theorem HOk.write (ok : HOk P w H h) (mu : Mut (H x)) (he : e = x \/ H e = some (.own x)) (k : ∀ b u, b ≠ e -> h.get? b = some u -> h'.get? b = some u) (heo : ∃ u, h'.get? e = some u)
   (new : ObjOk P w (upd H x o') h' x o') : HOk P w (upd H x o') h' := fun b u q => by
 have nown : ∀ c y, H c = some (.own y) -> c ≠ x := fun c y r z => by subst z; rw [r] at mu; exact mu
 have ntup : ∀ c xs, H c = some (.tup xs) -> c ≠ x := fun c xs r z => by subst z; rw [r] at mu; exact mu
 by_cases hb : b = x
 · subst hb; rw [zB] at q; cases q; exact new
 · rw [zH hb] at q
   by_cases hbe : b = e
   · have q' : H b = some (.own x) := by
       rcases he with z | z
       · exact absurd (hbe.trans z) hb
       · rw [hbe]; exact z
     rw [q] at q'; cases q'
     obtain ⟨v, hv⟩ := heo
     exact ⟨v, by rw [hbe]; exact hv⟩
   · refine (ok b u q).stay (fun c v hc r => k c v ?_ r) (fun c r => by rw [zH (nown c b r)]; exact r) fun c xs r => by rw [zH (ntup c xs r)]; exact r
     rcases hc with rfl | hc
     · exact hbe
     · rintro rfl
       rcases he with z | z
       · exact nown c b hc z
       · rw [hc] at z; cases z; exact hb rfl
end
structure Un (fs ex : List Addr) (H H' : Hp) (h h' : Heap) : Prop where
 keep : ∀ b o, h.get? b = some o -> H b = none -> b ∉ fs -> b ∉ ex -> h'.get? b = some o
 slot : ∀ b o, h.get? b = some o -> H b = none -> b ∈ fs -> b ∉ ex -> ∃ sl, h'.get? b = some { o with slots := sl }
 free : ∀ b o, h.get? b = some o -> H b = none -> b ∉ ex -> H' b = none
 there : ∀ b o, h.get? b = some o -> b ∉ ex -> ∃ o', h'.get? b = some o'
 tups : ∀ b xs, H b = some (.tup xs) -> H' b = some (.tup xs)
 frzs : ∀ b o u, H b = some (.frz o u) -> H' b = some (.frz o u)
 tbls : ∀ b ps, H b = some (.tbl ps) -> ∃ more, H' b = some (.tbl (ps ++ more))
section
variable {fs fs' ex ex' : List Addr} {H H1 H2 : Hp} {h h1 h2 h' : Heap} {a x e : Addr} {o : HO}
theorem Un.any (u : Un fs ex H H1 h h1) {b : Addr} {ob : Obj} (q : h.get? b = some ob) (n : H b = none) (hx : b ∉ ex) : ∃ sl, h1.get? b = some { ob with slots := sl } := by
 by_cases hb : b ∈ fs
 · exact u.slot b ob q n hb hx
 · exact ⟨ob.slots, u.keep b ob q n hb hx⟩
theorem Un.trans (a : Un fs ex H H1 h h1) (b : Un fs ex H1 H2 h1 h2) : Un fs ex H H2 h h2 where
 keep := fun c ob q n hc hx => b.keep c ob (a.keep c ob q n hc hx) (a.free c ob q n hx) hc hx
 slot := fun c ob q n hc hx => by
   obtain ⟨sl, e1⟩ := a.slot c ob q n hc hx
   obtain ⟨sl', e2⟩ := b.slot c _ e1 (a.free c ob q n hx) hc hx
   exact ⟨sl', e2⟩
 free := fun c ob q n hx => by
   obtain ⟨o', e1⟩ := a.there c ob q hx
   exact b.free c o' e1 (a.free c ob q n hx) hx
 there := fun c ob q hx => by
   obtain ⟨o', e1⟩ := a.there c ob q hx
   exact b.there c o' e1 hx
 tups := fun c xs q => b.tups c xs (a.tups c xs q)
 frzs := fun c ob xs q => b.frzs c ob xs (a.frzs c ob xs q)
 tbls := fun c ps q => by
   obtain ⟨m1, e1⟩ := a.tbls c ps q
   obtain ⟨m2, e2⟩ := b.tbls c _ e1
   exact ⟨m1 ++ m2, by rw [e2, Array.append_assoc]⟩
theorem Un.kept (k : ∀ b u, h.get? b = some u -> h'.get? b = some u) : Un fs ex H H h h' :=
 ⟨fun b ob q _ _ _ => k b ob q, fun b ob q _ _ _ => ⟨ob.slots, k b ob q⟩, fun _ _ _ n _ => n, fun b ob q _ => ⟨ob, k b ob q⟩, fun _ _ q => q, fun _ _ _ q => q, fun _ ps q => ⟨#[], by rw [q]; simp⟩⟩
theorem Un.refl : Un fs ex H H h h := Un.kept fun _ _ q => q
theorem Un.laid (k : ∀ b u, h.get? b = some u -> h'.get? b = some u) (hp : h.objs.size <= a) (hn : H a = none) : Un fs ex H (upd H a o) h h' where
 keep := fun b u q _ _ _ => k b u q
 slot := fun b u q _ _ _ => ⟨u.slots, k b u q⟩
 free := fun b u q n _ => by rw [zH (Nat.ne_of_lt (Nat.lt_of_lt_of_le (Heap.lt_size q) hp))]; exact n
 there := fun b u q _ => ⟨u, k b u q⟩
 tups := fun b xs q => by rw [zH (zS q hn)]; exact q
 frzs := fun b u xs q => by rw [zH (zS q hn)]; exact q
 tbls := fun b ps q => ⟨#[], by rw [zH (zS q hn), q]; simp⟩
theorem Un.write (mu : Mut (H x)) (he : e = x \/ H e = some (.own x)) (k : ∀ b u, b ≠ e -> h.get? b = some u -> h'.get? b = some u) (heo : ∃ u, h'.get? e = some u) : Un fs ex H (upd H x o) h h' := by
 have hx : ∀ b, H b = none -> b ≠ x := fun b n z => by subst z; rw [n] at mu; exact mu
 have hb : ∀ b, H b = none -> b ≠ e := fun b n z => by
   subst z
   rcases he with r | r
   · exact hx b n r
   · rw [n] at r; cases r
 have hm : ∀ b u, H b = some u -> ¬ Mut (some u) -> b ≠ x := fun b u q nm z => by subst z; rw [q] at mu; exact nm mu
 refine ⟨fun b u q n _ _ => k b u (hb b n) q, fun b u q n _ _ => ⟨u.slots, k b u (hb b n) q⟩, fun b u q n _ => by rw [zH (hx b n)]; exact n, fun b u q _ => ?_,
   fun b xs q => by rw [zH (hm b _ q fun z => z)]; exact q, fun b u xs q => by rw [zH (hm b _ q fun z => z)]; exact q, fun b ps q => ⟨#[], by rw [zH (hm b _ q fun z => z), q]; simp⟩⟩
 by_cases hbe : b = e
 · subst hbe; exact heo
 · exact ⟨u, k b u hbe q⟩
end
def trk (h : Heap) (H : Hp) : List Addr := (List.range h.objs.size).filter fun a => (H a).isSome
def qH (h : Heap) (H : Hp) : Heap := PySem.W.hideAll h (trk h H)
theorem hidT_size (h : Heap) (H : Hp) : (qH h H).objs.size = h.objs.size := PySem.W.hideAll_size _ _
theorem hidT_get {h : Heap} {H : Hp} {b : Addr} {o : Obj} (e : h.get? b = some o) (n : H b = none) : (qH h H).get? b = some o :=
 PySem.W.hideAll_get _ e fun hm => by
   have q : (H b).isSome = true := (List.mem_filter.mp hm).2
   rw [n] at q; simp at q
theorem of_hidT {h : Heap} {H : Hp} {b : Addr} {o : Obj} (e : (qH h H).get? b = some o) : h.get? b = some o /\ H b = none := by
 have e' : h.get? b = some o := PySem.W.of_hideAll (trk h H) e
 refine ⟨e', ?_⟩
 cases q : H b with
 | none => rfl
 | some x =>
   have hm : b ∈ trk h H := List.mem_filter.mpr ⟨List.mem_range.mpr (Heap.lt_size e'), by simp [q]⟩
   have z : (qH h H).get? b = none := PySem.W.hideAll_none (trk h H) hm
   rw [z] at e; cases e
def allNews (g h : Heap) (L : Addr) : List (Addr × Obj) := (List.range h.objs.size).filterMap fun a => if a = L \/ (g.get? a).isSome = true then none else (h.get? a).map fun o => (a, o)
def rest (g h : Heap) (L d : Addr) : List (Addr × Obj) := (allNews g h L).filter fun p => decide (p.1 ≠ d)
structure Mod (K : PySem.W.Frag) (mg : Str -> Option Value) (base : Heap) : Prop where
 kin : K.In base
 glob : base.Ns mainGlobals mg
 blt : ∃ mb, base.Ns builtinsNs mb /\ ∀ x : Str, x ≠ "__name__" -> mb x = bootBuiltins x
 nolimit : base.NoLimit
structure Cx where
 prog : Program
 w : World
 K : PySem.W.Frag
 mg : Str -> Option Value
 base : Heap
 A : Around
 N : List Str
 s₀ : Shared
 H₀ : Hp
 env : Env
 outer : List Env
 stack : List Env
 ex : List Addr
 fn : Str -> Bool
 calm : Bool
 pn : List (Addr × Obj)
 xe : Value -> Shared -> Prop
def frs (l : List Env) : List Addr := l.filterMap (·.frame)
abbrev Cx.fs (X : Cx) : List Addr := frs X.outer
def Vis (sc : Scope) (x : Str) : Prop := sc.names.lookup x = some .local \/ sc.names.lookup x = some .cell \/ sc.names.lookup x = some .free
def Loc (sc : Scope) (x : Str) : Prop := sc.names.lookup x = some .local \/ sc.names.lookup x = some .cell
def Look (env : Env) (h : Heap) (m : Str -> Option Value) (x : Str) (u : Value) : Prop :=
 (env.kindOf x = some .local /\ m x = some u) \/ ((env.kindOf x = some .cell \/ env.kindOf x = some .free) /\ ∃ c, env.cells.lookup x = some c /\ h.IsCell c (some u))
structure Cx.Ok (X : Cx) : Prop where
 mod : Mod X.K X.mg X.base
 kind : X.env.scope.kind = .function
 glob : X.env.globals = mainGlobals
 blt : X.env.builtins = builtinsNs
 above : X.s₀.heap.objs.size <= X.env.locals
 inj : ∀ x y c, X.env.cells.lookup x = some c -> X.env.cells.lookup y = some c -> x = y
 has : ∀ x, (X.env.kindOf x = some .cell \/ X.env.kindOf x = some .free) -> ∃ c, X.env.cells.lookup x = some c
 cab : ∀ x c, X.fn x = true -> X.env.cells.lookup x = some c -> X.s₀.heap.objs.size <= c
 hd : X.calm = true -> X.A.handled = none
 frames : X.A.frames = some X.stack
 stk : X.stack = X.outer \/ (X.stack = X.env :: X.outer /\ X.env.frame = some X.env.locals)
 exf : ∀ b ∈ X.ex, b ≠ X.env.locals /\ ∀ x c, X.env.cells.lookup x = some c -> c ≠ b
 bs : ∀ b o, X.base.get? b = some o -> X.s₀.heap.get? b = some o /\ X.H₀ b = none
 bsz : X.base.objs.size <= X.s₀.heap.objs.size
 noex : ∀ b o, X.base.get? b = some o -> b ∉ X.ex
 exfs : ∀ b ∈ X.ex, b ∉ X.fs
 funs : X.s₀.heap.FunFrames X.base X.outer
 frf : ∀ b ∈ X.fs, X.H₀ b = none
structure Inv (X : Cx) (pins : List (Addr × Obj)) (σ : List (Option V)) (H : Hp) (s : Shared) : Prop where
 ok : X.Ok
 os : s.os = X.s₀.os
 bare : AllBare s.gens
 base : Un X.fs X.ex X.H₀ H X.s₀.heap s.heap
 loc : ∃ m, s.heap.Ns X.env.locals m /\ ∀ (i : Nat) (x : Str) (v : V), X.N[i]? = some x -> σ[i]? = some (some v) -> Vis X.env.scope x -> ∃ u, RelV v u /\ Look X.env s.heap m x u
 cell : ∀ x c, X.env.cells.lookup x = some c -> ∃ v, s.heap.IsCell c v
 free : H X.env.locals = none
 freeC : ∀ x c, X.env.cells.lookup x = some c -> H c = none
 pin : ∀ p ∈ X.pn ++ pins, s.heap.get? p.1 = some p.2 /\ H p.1 = none /\ p.1 ≠ X.env.locals /\ p.1 ∉ X.fs /\ ∀ v, p.2.data ≠ .cell v
 hok : HOk X.prog X.w H s.heap
 len : σ.length = X.N.length
section
variable {X : Cx} {pins : List (Addr × Obj)} {σ : List (Option V)} {H H' : Hp} {s : Shared} {h' : Heap}
theorem Cx.Ok.nofr (ok : X.Ok) {b : Addr} {o : Obj} (e : X.base.get? b = some o) : b ∉ X.fs := fun hb => by
 have := (ok.funs.mem hb).1
 rw [e] at this; cases this
theorem Inv.bs (I : Inv X pins σ H s) : ∀ b o, X.base.get? b = some o -> s.heap.get? b = some o /\ H b = none := fun b o e =>
 ⟨I.base.keep b o (I.ok.bs b o e).1 (I.ok.bs b o e).2 (I.ok.nofr e) (I.ok.noex b o e), I.base.free b o (I.ok.bs b o e).1 (I.ok.bs b o e).2 (I.ok.noex b o e)⟩
theorem Inv.bk (I : Inv X pins σ H s) : ∀ b o, X.base.get? b = some o -> s.heap.get? b = some o := fun b o e => (I.bs b o e).1
theorem Inv.mod (I : Inv X pins σ H s) : Mod X.K X.mg X.base := I.ok.mod
theorem Inv.kIn (I : Inv X pins σ H s) : X.K.In s.heap := I.ok.mod.kin.keeps I.bk
theorem Inv.lt (I : Inv X pins σ H s) : X.env.locals < s.heap.objs.size := let ⟨_, hn, _⟩ := I.loc; hn.lt
theorem Inv.sz (I : Inv X pins σ H s) : X.s₀.heap.objs.size <= s.heap.objs.size := Nat.le_trans I.ok.above (Nat.le_of_lt I.lt)
theorem Inv.nofs (I : Inv X pins σ H s) {a : Addr} (h : s.heap.objs.size <= a) : a ∉ X.fs := fun hb => by
 obtain ⟨_, o, ho, _⟩ := I.ok.funs.mem hb
 exact absurd (Nat.lt_of_lt_of_le (Heap.lt_size ho) (Nat.le_trans I.sz h)) (Nat.lt_irrefl _)
theorem Inv.cne (I : Inv X pins σ H s) : ∀ x c, X.env.cells.lookup x = some c -> c ≠ X.env.locals := fun x c e z => by
 obtain ⟨v, o, ho, hd⟩ := I.cell x c e
 obtain ⟨m, ⟨o', es, ep, ho', hd', _⟩, _⟩ := I.loc
 rw [z, ho'] at ho; cases ho; rw [hd'] at hd; cases hd
theorem Inv.funs (I : Inv X pins σ H s) : s.heap.FunFrames X.base X.outer := by
 have all : ∀ (l : List Env), (∀ b ∈ frs l, b ∈ X.fs) -> X.s₀.heap.FunFrames X.base l -> s.heap.FunFrames X.base l := by
   intro l
   induction l with
   | nil => intro _ _; trivial
   | cons env r ih =>
     intro hs hl
     obtain ⟨hk, ⟨L, o, hf, hn, ho, hd⟩, hr⟩ := hl
     have hL : L ∈ X.fs := hs L (by unfold frs; rw [List.filterMap_cons, hf]; exact List.mem_cons_self)
     obtain ⟨sl, e⟩ := I.base.slot L o ho (I.ok.frf L hL) hL fun z => I.ok.exfs L z hL
     exact ⟨hk, ⟨L, _, hf, hn, e, hd⟩, ih (fun b hb => hs b (by unfold frs; rw [List.filterMap_cons, hf]; exact List.mem_cons_of_mem _ hb)) hr⟩
 exact all X.outer (fun _ hb => hb) I.ok.funs
theorem Inv.stack (I : Inv X pins σ H s) : s.heap.FunFrames X.base X.stack := by
 rcases I.ok.stk with e | ⟨e, hf⟩
 · rw [e]; exact I.funs
 · rw [e]
   obtain ⟨m, hn, _⟩ := I.loc
   refine .cons (by rw [I.ok.kind]; decide) hf hn ?_ I.funs
   exact Heap.get?_none_of_le (Nat.le_trans I.ok.bsz I.ok.above)
theorem Inv.stkSub (I : Inv X pins σ H s) : ∀ b ∈ frs X.stack, b ∈ X.env.locals :: X.fs := fun b hb => by
 rcases I.ok.stk with e | ⟨e, hf⟩
 · rw [e] at hb; exact List.mem_cons_of_mem _ hb
 · rw [e] at hb
   unfold frs at hb
   rw [List.filterMap_cons, hf] at hb
   exact hb
theorem Inv.stkFree (I : Inv X pins σ H s) : ∀ b ∈ frs X.stack, H b = none := fun b hb => by
 rcases List.mem_cons.mp (I.stkSub b hb) with e | hb
 · rw [e]; exact I.free
 · obtain ⟨_, o, ho, _⟩ := I.ok.funs.mem hb
   exact I.base.free b o ho (I.ok.frf b hb) fun z => I.ok.exfs b z hb
theorem Inv.step {g' : Array GenState} {t' : Nat} {d' : Drawn} {ch : List Addr} (I : Inv X pins σ H s)
   (hch : ∀ b ∈ ch, (b ∈ X.ex \/ X.s₀.heap.objs.size <= b) /\ b ≠ X.env.locals /\ (∀ x c, X.env.cells.lookup x = some c -> c ≠ b) /\ ∀ p ∈ X.pn ++ pins, p.1 ≠ b)
   (keep : ∀ b o, b ≠ X.env.locals -> b ∉ X.fs -> b ∉ ch -> s.heap.get? b = some o -> H b = none -> h'.get? b = some o)
   (slot : ∀ b o, b ≠ X.env.locals -> b ∈ X.fs -> b ∉ ch -> s.heap.get? b = some o -> H b = none -> ∃ sl, h'.get? b = some { o with slots := sl }) (free : ∀ b o, b ∉ ch -> s.heap.get? b = some o -> H b = none -> H' b = none)
   (there : ∀ b o, b ∉ ch -> s.heap.get? b = some o -> ∃ o', h'.get? b = some o')
   (tups : ∀ b xs, H b = some (.tup xs) -> H' b = some (.tup xs)) (frzs : ∀ b o u, H b = some (.frz o u) -> H' b = some (.frz o u)) (tbls : ∀ b ps, H b = some (.tbl ps) -> ∃ more, H' b = some (.tbl (ps ++ more)))
   (ns : ∀ m, s.heap.Ns X.env.locals m -> h'.Ns X.env.locals m) (hok : HOk X.prog X.w H' h') (hg : AllBare g') :
   Inv X pins σ H' { s with heap := h', gens := g', drawn := d', toks := t' } := by
 have neL : ∀ b o, X.s₀.heap.get? b = some o -> b ≠ X.env.locals := fun b o e => Nat.ne_of_lt (Nat.lt_of_lt_of_le (Heap.lt_size e) I.ok.above)
 have neC : ∀ b o, X.s₀.heap.get? b = some o -> b ∉ X.ex -> b ∉ ch := fun b o e hx hb => by
   rcases (hch b hb).1 with z | z
   · exact hx z
   · exact absurd (Nat.lt_of_lt_of_le (Heap.lt_size e) z) (Nat.lt_irrefl _)
 have cellK : ∀ x c, X.env.cells.lookup x = some c -> ∀ v, s.heap.IsCell c v -> h'.IsCell c v := fun x c e v ⟨o, ho, hd⟩ => by
   have nch : c ∉ ch := fun z => (hch c z).2.2.1 x c e rfl
   by_cases hc : c ∈ X.fs
   · obtain ⟨sl, q⟩ := slot c o (I.cne x c e) hc nch ho (I.freeC x c e)
     exact ⟨_, q, hd⟩
   · exact ⟨o, keep c o (I.cne x c e) hc nch ho (I.freeC x c e), hd⟩
 refine ⟨I.ok, I.os, hg, ⟨fun b o e n hb hx => ?_, fun b o e n hb hx => ?_, fun b o e n hx => ?_, fun b o e hx => ?_, fun b xs e => tups b xs (I.base.tups b xs e), fun b o xs e => frzs b o xs (I.base.frzs b o xs e), fun b ps e => ?_⟩, ?_, fun x c e => ?_, ?_, fun x c e => ?_, fun p hp => ?_, hok, I.len⟩
 · exact keep b o (neL b o e) hb (neC b o e hx) (I.base.keep b o e n hb hx) (I.base.free b o e n hx)
 · obtain ⟨sl, e1⟩ := I.base.slot b o e n hb hx
   obtain ⟨sl', e2⟩ := slot b _ (neL b o e) hb (neC b o e hx) e1 (I.base.free b o e n hx)
   exact ⟨sl', e2⟩
 · obtain ⟨o', e1⟩ := I.base.there b o e hx
   exact free b o' (neC b o e hx) e1 (I.base.free b o e n hx)
 · obtain ⟨o', e1⟩ := I.base.there b o e hx
   exact there b o' (neC b o e hx) e1
 · obtain ⟨m1, e1⟩ := I.base.tbls b ps e
   obtain ⟨m2, e2⟩ := tbls b _ e1
   exact ⟨m1 ++ m2, by rw [e2, Array.append_assoc]⟩
 · obtain ⟨m, hn, hl⟩ := I.loc
   refine ⟨m, ns m hn, fun i x v e1 e2 e3 => ?_⟩
   obtain ⟨u, r, l⟩ := hl i x v e1 e2 e3
   refine ⟨u, r, ?_⟩
   rcases l with l | ⟨k, c, e, z⟩
   · exact .inl l
   · exact .inr ⟨k, c, e, cellK x c e _ z⟩
 · obtain ⟨v, z⟩ := I.cell x c e
   exact ⟨v, cellK x c e v z⟩
 · obtain ⟨m, ⟨o, _, _, ho, _⟩, _⟩ := I.loc
   exact free _ o (fun z => (hch _ z).2.1 rfl) ho I.free
 · obtain ⟨v, o, ho, hd⟩ := I.cell x c e
   exact free c o (fun z => (hch c z).2.2.1 x c e rfl) ho (I.freeC x c e)
 · obtain ⟨e, n, ne, nf, d⟩ := I.pin p hp
   have nch : p.1 ∉ ch := fun z => (hch p.1 z).2.2.2 p hp rfl
   exact ⟨keep p.1 p.2 ne nf nch e n, free p.1 p.2 nch e n, ne, nf, d⟩
theorem Inv.un {t' : Nat} (I : Inv X pins σ H s) (u : Un X.fs [] H H' s.heap h') (hok : HOk X.prog X.w H' h') : Inv X pins σ H' { s with heap := h', toks := t' } := by
 obtain ⟨m, ⟨o, es, ep, ho, r⟩, _⟩ := id I.loc
 obtain ⟨sl, hL⟩ := u.any ho I.free (by simp)
 exact I.step (g' := s.gens) (d' := s.drawn) (ch := []) (fun _ z => nomatch z) (fun b o _ hb _ e n => u.keep b o e n hb (by simp)) (fun b o _ hb _ e n => u.slot b o e n hb (by simp)) (fun b o _ e n => u.free b o e n (by simp)) (fun b o _ e => u.there b o e (by simp)) u.tups u.frzs u.tbls (fun m' hm => by
   obtain ⟨o', es', ep', ho', r'⟩ := hm
   rw [ho] at ho'; cases ho'
   exact ⟨_, es', ep', hL, r'⟩) hok I.bare
theorem Inv.call {g' : Array GenState} {t' : Nat} {d' : Drawn} {ch : List Addr} (I : Inv X pins σ H s) (u : Un (frs X.stack) ch H H' s.heap h') (hok : HOk X.prog X.w H' h') (hg : AllBare g')
   (hch : ∀ b ∈ ch, (b ∈ X.ex \/ X.s₀.heap.objs.size <= b) /\ b ≠ X.env.locals /\ (∀ x c, X.env.cells.lookup x = some c -> c ≠ b) /\ ∀ p ∈ X.pn ++ pins, p.1 ≠ b) :
   Inv X pins σ H' { s with heap := h', gens := g', drawn := d', toks := t' } := by
 obtain ⟨m, ⟨o, es, ep, ho, r⟩, _⟩ := id I.loc
 obtain ⟨sl, hL⟩ := u.any ho I.free fun z => (hch _ z).2.1 rfl
 exact I.step (ch := ch) hch (fun b o hL hb hc e n => u.keep b o e n (fun z => (List.mem_cons.mp (I.stkSub b z)).elim hL hb) hc) (fun b o _ _ hc e n => u.any e n hc) (fun b o hc e n => u.free b o e n hc) (fun b o hc e => u.there b o e hc) u.tups u.frzs u.tbls (fun m' hm => by
   obtain ⟨o', es', ep', ho', r'⟩ := hm
   rw [ho] at ho'; cases ho'
   exact ⟨_, es', ep', hL, r'⟩) hok hg
theorem Inv.turned {t' : Nat} {it : Addr} (I : Inv X pins σ H s) (k : ∀ b o, b ≠ it -> s.heap.get? b = some o -> h'.get? b = some o) (hn : H it = none) (hL : it ≠ X.env.locals)
   (h1 : it ∈ X.ex \/ X.s₀.heap.objs.size <= it) (h2 : ∀ x c, X.env.cells.lookup x = some c -> c ≠ it) (h3 : ∀ p ∈ X.pn ++ pins, p.1 ≠ it) : Inv X pins σ H { s with heap := h', toks := t' } := by
 have nit : ∀ b u, H b = some u -> b ≠ it := fun b u e z => by rw [z, hn] at e; cases e
 refine I.step (g' := s.gens) (d' := s.drawn) (ch := [it]) (fun b hb => ?_) (fun b o _ _ hc e _ => k b o (fun z => hc (by simp [z])) e) (fun b o _ _ hc e _ => ⟨o.slots, k b o (fun z => hc (by simp [z])) e⟩) (fun _ _ _ _ n => n)
   (fun b o hc e => ⟨o, k b o (fun z => hc (by simp [z])) e⟩) (fun _ _ e => e) (fun _ _ _ e => e) (fun b ps e => ⟨#[], by rw [e]; simp⟩) (fun m hm => ?_) (fun b u e => ?_) I.bare
 · have e : b = it := by simpa using hb
   subst e
   exact ⟨h1, hL, h2, h3⟩
 · obtain ⟨o, es, ep, ho, r⟩ := hm
   exact ⟨o, es, ep, k _ o (Ne.symm hL) ho, r⟩
 · refine (I.hok b u e).stay (fun c v hc q => k c v ?_ q) (fun _ q => q) fun _ _ q => q
   rcases hc with z | z
   · rw [z]; exact nit b u e
   · exact nit c _ z
theorem Inv.tok (I : Inv X pins σ H s) (t : Nat) : Inv X pins σ H { s with toks := t } := I.un (h' := s.heap) (t' := t) Un.refl I.hok
theorem Inv.kept {t' : Nat} (I : Inv X pins σ H s) (k : ∀ b u, s.heap.get? b = some u -> h'.get? b = some u) : Inv X pins σ H { s with heap := h', toks := t' } := I.un (Un.kept k) (I.hok.kept k)
theorem Inv.laid {a : Addr} {o : HO} {t' : Nat} (I : Inv X pins σ H s) (k : ∀ b u, s.heap.get? b = some u -> h'.get? b = some u) (hp : s.heap.objs.size <= a) (new : ObjOk X.prog X.w (upd H a o) h' a o) :
   Inv X pins σ (upd H a o) { s with heap := h', toks := t' } := I.un (Un.laid k hp (I.hok.fresh hp)) (I.hok.laid k hp new)
theorem Inv.write {x e : Addr} {o : HO} {t' : Nat} (I : Inv X pins σ H s) (mu : Mut (H x)) (he : e = x \/ H e = some (.own x)) (k : ∀ b u, b ≠ e -> s.heap.get? b = some u -> h'.get? b = some u) (heo : ∃ u, h'.get? e = some u)
   (new : ObjOk X.prog X.w (upd H x o) h' x o) : Inv X pins σ (upd H x o) { s with heap := h', toks := t' } := I.un (Un.write mu he k heo) (I.hok.write mu he k heo new)
theorem Inv.pins_of {pins' : List (Addr × Obj)} (I : Inv X pins σ H s) (h : ∀ p ∈ pins', s.heap.get? p.1 = some p.2 /\ H p.1 = none /\ p.1 ≠ X.env.locals /\ p.1 ∉ X.fs /\ ∀ v, p.2.data ≠ .cell v) : Inv X pins' σ H s :=
 ⟨I.ok, I.os, I.bare, I.base, I.loc, I.cell, I.free, I.freeC, fun p hp => (List.mem_append.mp hp).elim (fun z => I.pin p (List.mem_append_left _ z)) (h p), I.hok, I.len⟩
theorem jH {N : List Str} (hN : N.Nodup) {i j : Nat} {x : Str} (a : N[i]? = some x) (b : N[j]? = some x) : i = j := by
 obtain ⟨h1, e1⟩ := List.getElem?_eq_some_iff.mp a
 obtain ⟨h2, e2⟩ := List.getElem?_eq_some_iff.mp b
 exact (List.getElem_inj hN).mp (e1.trans e2.symm)
theorem store_ok2 {M : Model} {A : Around} {E : Value -> Shared -> Prop} {i : Nat} {x : Str} {v : V} {u : Value} {Q : Unit -> Shared -> Prop} (I : Inv X pins σ H s) (hN : X.N.Nodup) (hi : X.N[i]? = some x) (hx : Loc X.env.scope x) (r : RelV v u)
   (h : ∀ s', Inv X pins (σ.set i (some v)) H s' -> (∃ a, Heap.SameBut a s.heap s'.heap /\ (a = X.env.locals \/ X.env.cells.lookup x = some a)) -> Q () s') (hf : X.fn x = true \/ X.env.scope.names.lookup x = some .local := by first | exact .inl rfl | exact .inr rfl | assumption) : wpAny M A (storeName X.env x u) Q E s := by
 obtain ⟨m, hn, hl⟩ := id I.loc
 have hcls : (X.env.scope.kind == .class || (X.env.scope.kind == .module && X.env.locals != X.env.globals)) = false := by rw [I.ok.kind]; rfl
 have hiσ : i < σ.length := by rw [I.len]; exact (List.getElem?_eq_some_iff.mp hi).1
 have cne := I.cne
 have tracked : ∀ {a : Addr} {h' : Heap}, (∃ o, s.heap.get? a = some o /\ H a = none) -> Heap.SameBut a s.heap h' -> HOk X.prog X.w H h' := fun {a h'} ha hs b ob e => by
   obtain ⟨_, _, hfree⟩ := ha
   refine (I.hok b ob e).stay (fun c w' hc q => (hs.2 c ?_).trans q) (fun _ q => q) fun _ _ q => q
   rintro rfl
   rcases hc with rfl | hc
   · rw [hfree] at e; cases e
   · rw [hfree] at hc; cases hc
 rcases hx with hk | hk
 · refine wpAny_storeName_local hk hn (fun h' hn' hs => ?_) hcls
   obtain ⟨oL, _, _, hoL, _⟩ := id hn
   refine h _ ⟨I.ok, I.os, I.bare, ⟨fun b o e n hb hx => ?_, fun b o e n hb hx => ?_, I.base.free, fun b o e hx => ?_, I.base.tups, I.base.frzs, I.base.tbls⟩, ⟨_, hn', fun j y v' e1 e2 e3 => ?_⟩, fun y c e => ?_, I.free, I.freeC, fun p hp => ?_, tracked ⟨oL, hoL, I.free⟩ hs, by simpa using I.len⟩ ⟨_, hs, .inl rfl⟩
   · exact (hs.2 b (Nat.ne_of_lt (Nat.lt_of_lt_of_le (Heap.lt_size e) I.ok.above))).trans (I.base.keep b o e n hb hx)
   · obtain ⟨sl, e1⟩ := I.base.slot b o e n hb hx
     exact ⟨sl, (hs.2 b (Nat.ne_of_lt (Nat.lt_of_lt_of_le (Heap.lt_size e) I.ok.above))).trans e1⟩
   · obtain ⟨o', e1⟩ := I.base.there b o e hx
     exact ⟨o', (hs.2 b (Nat.ne_of_lt (Nat.lt_of_lt_of_le (Heap.lt_size e) I.ok.above))).trans e1⟩
   · by_cases hj : j = i
     · subst hj
       rw [hi] at e1; cases e1
       rw [List.getElem?_set_self hiσ] at e2
       cases e2
       exact ⟨u, r, .inl ⟨hk, by simp⟩⟩
     · rw [List.getElem?_set_ne (Ne.symm hj)] at e2
       obtain ⟨u', r', q⟩ := hl j y v' e1 e2 e3
       refine ⟨u', r', ?_⟩
       rcases q with ⟨k, e⟩ | ⟨k, c, e, z⟩
       · refine .inl ⟨k, ?_⟩
         have : y ≠ x := fun e => hj (jH hN e1 (e ▸ hi))
         simp [this, e]
       · exact .inr ⟨k, c, e, z.sameBut hs (cne y c e)⟩
   · obtain ⟨w', z⟩ := I.cell y c e
     exact ⟨w', z.sameBut hs (cne y c e)⟩
   · obtain ⟨e, n, ne, nf, d⟩ := I.pin p hp
     exact ⟨(hs.2 p.1 ne).trans e, n, ne, nf, d⟩
 · have hfn : X.fn x = true := by
     rcases hf with z | z
     · exact z
     · rw [z] at hk; cases hk
   obtain ⟨c, hc⟩ := I.ok.has x (.inl hk)
   obtain ⟨w', z⟩ := I.cell x c hc
   refine wpAny_storeName_cell I.ok.kind hk hc z (fun h' hc' hs => ?_)
   obtain ⟨oc, hoc, hocd⟩ := id z
   refine h { s with heap := h' } ⟨I.ok, I.os, I.bare, ⟨fun b o e n hb hx => ?_, fun b o e n hb hx => ?_, I.base.free, fun b o e hx => ?_, I.base.tups, I.base.frzs, I.base.tbls⟩, ⟨m, hn.sameBut hs (Ne.symm (cne x c hc)), fun j y v' e1 e2 e3 => ?_⟩, fun y c' e => ?_, I.free, I.freeC, fun p hp => ?_, tracked ⟨oc, hoc, I.freeC x c hc⟩ hs, by simpa using I.len⟩ ⟨c, hs, .inr hc⟩
   · exact (hs.2 b (Nat.ne_of_lt (Nat.lt_of_lt_of_le (Heap.lt_size e) (I.ok.cab x c hfn hc)))).trans (I.base.keep b o e n hb hx)
   · obtain ⟨sl, e1⟩ := I.base.slot b o e n hb hx
     exact ⟨sl, (hs.2 b (Nat.ne_of_lt (Nat.lt_of_lt_of_le (Heap.lt_size e) (I.ok.cab x c hfn hc)))).trans e1⟩
   · obtain ⟨o', e1⟩ := I.base.there b o e hx
     exact ⟨o', (hs.2 b (Nat.ne_of_lt (Nat.lt_of_lt_of_le (Heap.lt_size e) (I.ok.cab x c hfn hc)))).trans e1⟩
   · by_cases hj : j = i
     · subst hj
       rw [hi] at e1; cases e1
       rw [List.getElem?_set_self hiσ] at e2
       cases e2
       exact ⟨u, r, .inr ⟨.inl hk, c, hc, hc'⟩⟩
     · rw [List.getElem?_set_ne (Ne.symm hj)] at e2
       obtain ⟨u', r', q⟩ := hl j y v' e1 e2 e3
       refine ⟨u', r', ?_⟩
       rcases q with q | ⟨k, c', e, z'⟩
       · exact .inl q
       · refine .inr ⟨k, c', e, z'.sameBut hs ?_⟩
         rintro rfl
         exact hj (jH hN e1 (I.ok.inj _ _ _ e hc ▸ hi))
   · by_cases hcc : c' = c
     · subst hcc; exact ⟨_, hc'⟩
     · obtain ⟨w2, z2⟩ := I.cell y c' e
       exact ⟨w2, z2.sameBut hs hcc⟩
   · obtain ⟨e, n, ne, nf, d⟩ := I.pin p hp
     refine ⟨(hs.2 p.1 ?_).trans e, n, ne, nf, d⟩
     intro q
     rw [q, hoc] at e
     have q' : oc = p.2 := Option.some.inj e
     exact d w' (by rw [← q']; exact hocd)
theorem xG {M : Model} {A : Around} {E : Value -> Shared -> Prop} {i : Nat} {x : Str} {v : V} {u : Value} {Q : Unit -> Shared -> Prop} (I : Inv X pins σ H s) (hN : X.N.Nodup) (hi : X.N[i]? = some x) (hx : Loc X.env.scope x) (r : RelV v u)
   (h : ∀ s', Inv X pins (σ.set i (some v)) H s' -> Q () s') (hf : X.fn x = true \/ X.env.scope.names.lookup x = some .local := by first | exact .inl rfl | exact .inr rfl | assumption) : wpAny M A (storeName X.env x u) Q E s :=
 store_ok2 I hN hi hx r (fun s' I' _ => h s' I') hf
theorem Inv.call' {s' : Shared} {ch : List Addr} (I : Inv X pins σ H s) (ho : s'.os = s.os) (u : Un (frs X.stack) ch H H' s.heap s'.heap) (hok : HOk X.prog X.w H' s'.heap) (hg : AllBare s'.gens)
   (hch : ∀ b ∈ ch, (b ∈ X.ex \/ X.s₀.heap.objs.size <= b) /\ b ≠ X.env.locals /\ (∀ x c, X.env.cells.lookup x = some c -> c ≠ b) /\ ∀ p ∈ X.pn ++ pins, p.1 ≠ b) : Inv X pins σ H' s' := by
 obtain ⟨h', g', d', t', o'⟩ := s'
 have e : o' = s.os := ho
 subst e
 exact I.call (g' := g') (t' := t') (d' := d') u hok hg hch
end
abbrev XK := Value -> Option Addr -> Hp -> Prop
abbrev St := List (Option V)
abbrev VK := V -> Hp -> Prop
abbrev TE := St -> Hp -> VK -> Prop
abbrev TT := St -> Hp -> (Bool -> Hp -> Prop) -> Prop
abbrev TA := St -> Hp -> (List V -> Hp -> Prop) -> Prop
structure Ends where
 nx : St -> Hp -> Prop
 rt : VK
 bk : St -> Hp -> Prop := fun _ _ => False
 ct : St -> Hp -> Prop := fun _ _ => False
abbrev TS := Ends -> St -> Hp -> Prop
def EP (X : Cx) (pins : List (Addr × Obj)) (σ : St) (Q : VK) (u : Value) (s' : Shared) : Prop := ∃ v H', Inv X pins σ H' s' /\ RelV v u /\ Q v H'
def TP (X : Cx) (pins : List (Addr × Obj)) (σ : St) (Q : Bool -> Hp -> Prop) (b : Bool) (s' : Shared) : Prop := ∃ H', Inv X pins σ H' s' /\ Q b H'
def AP (X : Cx) (pins : List (Addr × Obj)) (σ : St) (Q : List V -> Hp -> Prop) (us : List Value) (s' : Shared) : Prop := ∃ vs H', Inv X pins σ H' s' /\ Vals vs us /\ Q vs H'
def SP (X : Cx) (pins : List (Addr × Obj)) (D : Ends) (f : Flow) (s' : Shared) : Prop :=
 match f with
 | .next => ∃ σ' H', Inv X pins σ' H' s' /\ D.nx σ' H'
 | .brk => ∃ σ' H', Inv X pins σ' H' s' /\ D.bk σ' H'
 | .cont => ∃ σ' H', Inv X pins σ' H' s' /\ D.ct σ' H'
 | .ret u => ∃ v σ' H', Inv X pins σ' H' s' /\ RelV v u /\ D.rt v H'
def PE (X : Cx) (e : Expr) (t : TE) : Prop :=
 ∀ (pins : List (Addr × Obj)) (s : Shared) (σ : St) (H : Hp) (Q : VK), Inv X pins σ H s -> t σ H Q -> wpAny (model X.prog X.w) X.A (eval e X.env) (EP X pins σ Q) X.xe s
def PT (X : Cx) (e : Expr) (t : TT) : Prop :=
 ∀ (pins : List (Addr × Obj)) (s : Shared) (σ : St) (H : Hp) (Q : Bool -> Hp -> Prop), Inv X pins σ H s -> t σ H Q -> wpAny (model X.prog X.w) X.A (isTrue e X.env (eval e X.env)) (TP X pins σ Q) X.xe s
def PW (X : Cx) (e : Expr) (t : TT) : Prop :=
 ∀ (whole : Sem Value) (pins : List (Addr × Obj)) (s : Shared) (σ : St) (H : Hp) (Q : Bool -> Hp -> Prop), Inv X pins σ H s -> t σ H Q -> wpAny (model X.prog X.w) X.A (isTrue e X.env whole) (TP X pins σ Q) X.xe s
theorem PW.pt {X : Cx} {e : Expr} {t : TT} (h : PW X e t) : PT X e t := h _
def PA (X : Cx) (es : List Expr) (t : TA) : Prop :=
 ∀ (pos : Pos) (pins : List (Addr × Obj)) (s : Shared) (σ : St) (H : Hp) (Q : List V -> Hp -> Prop), Inv X pins σ H s -> t σ H Q -> wpAny (model X.prog X.w) X.A (spliced (backTo pos (starEach es X.env))) (AP X pins σ Q) X.xe s
def PS (X : Cx) (st : Stmt) (t : TS) : Prop :=
 ∀ (pins : List (Addr × Obj)) (s : Shared) (σ : St) (H : Hp) (D : Ends), Inv X pins σ H s -> t D σ H -> wpAny (model X.prog X.w) X.A (exec st X.env) (SP X pins D) X.xe s
def PSs (X : Cx) (st : List Stmt) (t : TS) : Prop :=
 ∀ (pins : List (Addr × Obj)) (s : Shared) (σ : St) (H : Hp) (D : Ends), Inv X pins σ H s -> t D σ H -> wpAny (model X.prog X.w) X.A (execs st X.env) (SP X pins D) X.xe s
theorem thn {α : Type} {t : Sem α} {Q Q' : α -> Shared -> Prop} {M : Model} {A : Around} {E : Value -> Shared -> Prop} {s : Shared} (h : wpAny M A t Q E s) (hQ : ∀ a s, Q a s -> Q' a s) : wpAny M A t Q' E s := wpAny_mono h hQ fun _ _ x => x
section
variable {X : Cx}
def tVar (i : Nat) : TE := fun σ H Q => ∃ v, σ[i]? = some (some v) /\ Q v H
def tC (v : V) : TE := fun _ H Q => Q v H
theorem pe_var {i : Nat} {x : Str} {pos : Pos} (hN : X.N[i]? = some x) (hv : Vis X.env.scope x) (hd : (x == ("__debug__" : Str)) = false := by decide) (hcd : (x == ("__classdict__" : Str)) = false := by decide) : PE X (.Name x pos) (tVar i) := by
 intro pins s σ H Q I h
 obtain ⟨v, e, h⟩ := h
 obtain ⟨m, hn, hl⟩ := I.loc
 obtain ⟨u, r, l⟩ := hl i x v hN e hv
 have fin : EP X pins σ Q u s := ⟨v, H, I, r, h⟩
 rcases l with ⟨hk, hm⟩ | ⟨hk, c, hc, hcell⟩
 · exact wpAny_Name (wpAny_loadName_local I.ok.kind hk hn hm fin) hd
 · rcases hk with hk | hk
   · exact wpAny_Name (wpAny_loadName_cell I.ok.kind hk hc hcell fin) hd
   · exact wpAny_Name (wpAny_loadName_free I.ok.kind hk hc hcell fin hcd) hd
theorem zD {i j pos} : PE X (.Constant (.int i) j pos) (tC (.int i)) := fun _ _ _ H _ I h => wpAny_Constant_int ⟨.int i, H, I.tok _, ⟨_, rfl⟩, h⟩
theorem xD {b j pos} : PE X (.Constant (.bool b) j pos) (tC (.bl b)) := fun _ _ _ H _ I h => Constant_bool ⟨.bl b, H, I, rfl, h⟩
theorem jG {j pos} : PE X (.Constant .none j pos) (tC .non) := fun _ _ _ H _ I h => Constant_none ⟨.non, H, I, rfl, h⟩
theorem zQ {x j pos} : PE X (.Constant (.str x) j pos) (tC (.str x)) := fun _ _ _ H _ I h => Calls.Constant_str ⟨.str x, H, I.tok _, ⟨_, rfl⟩, h⟩
def Gl (X : Cx) (x : Str) : Prop := X.env.kindOf x = some .globalImplicit
theorem xH {E : Value -> Shared -> Prop} {pins : List (Addr × Obj)} {s : Shared} {σ : St} {H : Hp} {x : Str} {u : Value} {pos : Pos} {Q : Value -> Shared -> Prop} (I : Inv X pins σ H s) (hg : Gl X x) (hm : X.mg x = some u) (h : Q u s)
   (hd : (x == ("__debug__" : Str)) = false := by decide) : wpAny (model X.prog X.w) X.A (eval (.Name x pos) X.env) Q E s :=
 Calls.Name_function_global I.ok.kind hg (Calls.loadGlobal_global (by rw [I.ok.glob]; exact I.mod.glob.keeps I.bk) hm h) hd
theorem jJ {E : Value -> Shared -> Prop} {pins : List (Addr × Obj)} {s : Shared} {σ : St} {H : Hp} {x : Str} {u : Value} {pos : Pos} {Q : Value -> Shared -> Prop} (I : Inv X pins σ H s) (hg : Gl X x) (hm : X.mg x = none) (hv : bootBuiltins x = some u) (h : Q u s)
   (hn : x ≠ "__name__" := by decide) (hd : (x == ("__debug__" : Str)) = false := by decide) : wpAny (model X.prog X.w) X.A (eval (.Name x pos) X.env) Q E s := by
 obtain ⟨mb, h1, h2⟩ := I.mod.blt
 exact Calls.Name_function_global I.ok.kind hg (Calls.loadGlobal_builtin (by rw [I.ok.glob]; exact I.mod.glob.keeps I.bk) hm (by rw [I.ok.blt]; exact h1.keeps I.bk) ((h2 x hn).trans hv) h) hd
theorem pe_glob {x : Str} {v : V} {u : Value} {pos : Pos} (hg : Gl X x) (hm : X.mg x = some u) (r : RelV v u) (hd : (x == ("__debug__" : Str)) = false := by decide) : PE X (.Name x pos) (tC v) :=
 fun _ _ _ H _ I h => xH I hg hm ⟨v, H, I, r, h⟩ hd
theorem pe_bltn {x : Str} {v : V} {u : Value} {pos : Pos} (hg : Gl X x) (hm : X.mg x = none) (hv : bootBuiltins x = some u) (r : RelV v u) (hn : x ≠ "__name__" := by decide) (hd : (x == ("__debug__" : Str)) = false := by decide) : PE X (.Name x pos) (tC v) :=
 fun _ _ _ H _ I h => jJ I hg hm hv ⟨v, H, I, r, h⟩ hn hd
variable {a b : Expr} {ta tb : TE} {pos : Pos}
def tB (t : TE) : TT := fun σ H Q => t σ H fun x H1 => ∃ c, x = .bl c /\ Q c H1
theorem yY {e : Expr} {t : TE} (h : PE X e t) (he : ∀ whole, isTrue e X.env whole = (do let v ← whole; standAt e.pos; holding [v] (truthy v)) := by intro _; rfl) : PT X e (tB t) := by
 intro pins s σ H Q I hw
 refine isTrue_plain (thn (h pins s σ H _ I hw) fun v s1 ⟨x, H1, I1, r1, q1⟩ => ?_) (he _)
 obtain ⟨d, rfl, q⟩ := q1
 cases r1
 exact wpAny_truthy_bool ⟨H1, I1, q⟩
variable {tA tB' : TT} {rest : List Expr}
def tAnd (t u : TT) : TT := fun σ H Q => t σ H fun c H1 => if c = true then u σ H1 Q else Q false H1
def tOr (t u : TT) : TT := fun σ H Q => t σ H fun c H1 => if c = true then Q true H1 else u σ H1 Q
def tNot (t : TT) : TT := fun σ H Q => t σ H fun c H1 => Q (!c) H1
theorem pw_and1 (ha : PT X a tA) : PW X (.BoolOp .And [a] pos) tA := by
 intro wh pins s σ H Q I h
 refine isTrue_and (thn (ha pins s σ H Q I h) fun c s1 e => ?_)
 cases c with
 | true => exact isTrue_and_nil e
 | false => exact e
theorem pw_or1 (ha : PT X a tA) : PW X (.BoolOp .Or [a] pos) tA := by
 intro wh pins s σ H Q I h
 refine isTrue_or (thn (ha pins s σ H Q I h) fun c s1 e => ?_)
 cases c with
 | false => exact isTrue_or_nil e
 | true => exact e
theorem jF (ha : PT X a tA) (hb : PW X (.BoolOp .And (b :: rest) pos) tB') : PW X (.BoolOp .And (a :: b :: rest) pos) (tAnd tA tB') := by
 intro wh pins s σ H Q I h
 refine isTrue_and (thn (ha pins s σ H _ I h) fun c s1 ⟨H1, I1, q1⟩ => ?_)
 cases c with
 | true => exact hb wh pins s1 σ H1 Q I1 q1
 | false => exact ⟨H1, I1, q1⟩
theorem pw_or (ha : PT X a tA) (hb : PW X (.BoolOp .Or (b :: rest) pos) tB') : PW X (.BoolOp .Or (a :: b :: rest) pos) (tOr tA tB') := by
 intro wh pins s σ H Q I h
 refine isTrue_or (thn (ha pins s σ H _ I h) fun c s1 ⟨H1, I1, q1⟩ => ?_)
 cases c with
 | true => exact ⟨H1, I1, q1⟩
 | false => exact hb wh pins s1 σ H1 Q I1 q1
theorem qE (ha : PT X a tA) : PT X (.UnaryOp .Not a pos) (tNot tA) := by
 intro pins s σ H Q I h
 exact isTrue_not (ha pins s σ H (fun c H1 => Q (!c) H1) I h)
def tAndV (ta tb : TE) : TE := fun σ H Q => ta σ H fun x H1 => ∃ c, x = .bl c /\ if c = true then tb σ H1 Q else Q (.bl false) H1
def tOrV (ta tb : TE) : TE := fun σ H Q => ta σ H fun x H1 => ∃ c, x = .bl c /\ if c = true then Q (.bl true) H1 else tb σ H1 Q
def tNotV (ta : TE) : TE := fun σ H Q => ta σ H fun x H1 => ∃ c, x = .bl c /\ Q (.bl (!c)) H1
theorem xM {op} {t : TE} (h : PE X a t) : PE X (.BoolOp op [a] pos) t := fun pins s σ H Q I hw => BoolOp_one (h pins s σ H Q I hw)
theorem xE (ha : PE X a ta) (hb : PE X (.BoolOp .And (b :: rest) pos) tb) : PE X (.BoolOp .And (a :: b :: rest) pos) (tAndV ta tb) := by
 intro pins s σ H Q I h
 refine BoolOp_and (thn (ha pins s σ H _ I h) fun v s1 ⟨x, H1, I1, r1, q1⟩ => ?_)
 obtain ⟨c, rfl, q1⟩ := q1
 cases r1
 refine wpAny_truthy_bool ?_
 cases c with
 | true => exact hb pins s1 σ H1 Q I1 q1
 | false => exact ⟨.bl false, H1, I1, rfl, q1⟩
theorem pe_not (ha : PE X a ta) : PE X (.UnaryOp .Not a pos) (tNotV ta) := by
 intro pins s σ H Q I h
 refine UnaryOp_ (thn (ha pins s σ H _ I h) fun v s1 ⟨x, H1, I1, r1, q1⟩ => ?_)
 obtain ⟨c, rfl, q1⟩ := q1
 cases r1
 exact not_of (wpAny_truthy_bool ⟨.bl (!c), H1, I1, rfl, q1⟩)
def tIf (t : TT) (ta tb : TE) : TE := fun σ H Q => t σ H fun c H1 => if c = true then ta σ H1 Q else tb σ H1 Q
theorem pe_ifExp {c : Expr} (hc : PT X c tA) (ha : PE X a ta) (hb : PE X b tb) : PE X (.IfExp c a b pos) (tIf tA ta tb) := by
 intro pins s σ H Q I h
 refine wpAny_IfExp (thn (hc pins s σ H _ I h) fun d s1 ⟨H1, I1, q1⟩ => ?_)
 cases d with
 | true => exact ha pins s1 σ H1 Q I1 q1
 | false => exact hb pins s1 σ H1 Q I1 q1
end
def SqL (K : PySem.W.Frag) (H : Hp) (a : Addr) (xs : List V) : Prop :=
 Rd H a (.lst xs) \/
   ∃ (o : Obj) (its : Array Value) (n : Nat), K.lookup a = some o /\ o.cls = .type "list" /\ o.dict = none /\ o.data = .seq its n /\ its.size <= sizeLine /\ Vals xs its.toList
def SqT (K : PySem.W.Frag) (H : Hp) (a : Addr) (xs : List V) : Prop :=
 Rd H a (.tup xs) \/
   ∃ (o : Obj) (its : Array Value) (n : Nat), K.lookup a = some o /\ o.cls = .type "tuple" /\ o.data = .seq its n /\ its.size <= sizeLine /\ Vals xs its.toList
def absV : Value -> Option V
 | .none => some .non
 | .bool b => some (.bl b)
 | .int i _ => some (.int i)
 | .str x _ => some (.str x)
 | .bytes b _ => some (.byt b)
 | .float b _ => some (.flt b)
 | .ref a => some (.ref a)
 | .type n => some (.ty n)
 | _ => none
theorem RelV.abs {x : V} {u : Value} (r : RelV x u) : absV u = some x := by
 cases x with
 | non => cases r; rfl
 | bl _ => cases r; rfl
 | int _ => obtain ⟨t, rfl⟩ := r; rfl
 | str _ => obtain ⟨t, rfl⟩ := r; rfl
 | byt _ => obtain ⟨t, rfl⟩ := r; rfl
 | flt _ => obtain ⟨t, rfl⟩ := r; rfl
 | ref _ => cases r; rfl
 | ty _ => cases r; rfl
theorem RelV.inj {x y : V} {u : Value} (r : RelV x u) (q : RelV y u) : x = y := Option.some.inj (r.abs.symm.trans q.abs)
theorem Vals.inj : ∀ {xs ys : List V} {us : List Value}, Vals xs us -> Vals ys us -> xs = ys
 | _, _, _, .nil, .nil => rfl
 | _, _, _, .cons r t, .cons r' t' => by rw [r.inj r', Vals.inj t t']
section
variable {X : Cx} {pins : List (Addr × Obj)} {σ : St} {H : Hp} {s : Shared} {a : Addr} {xs ys : List V}
theorem SqL.of {K : PySem.W.Frag} (h : H a = some (.lst xs)) : SqL K H a xs := .inl (.inl h)
theorem SqT.of {K : PySem.W.Frag} (h : H a = some (.tup xs)) : SqT K H a xs := .inl (.inl h)
theorem Inv.list (I : Inv X pins σ H s) (h : SqL X.K H a xs) : ∃ its : List Value, Vals xs its /\ PlainL s.heap a its.toArray /\ xs.length <= sizeLine := by
 rcases h with h | ⟨o, its, n, hk, hc, hd, hs, hz, r⟩
 · obtain ⟨z, its, n, r, e⟩ := h.ok I.hok
   exact ⟨its, r, ⟨_, n, e, rfl, rfl, rfl⟩, z⟩
 · refine ⟨its.toList, r, ⟨o, n, I.kIn a o hk, hc, hd, by simpa using hs⟩, ?_⟩
   have e := r.length
   simp only [Array.length_toList] at e
   omega
theorem Inv.tuple (I : Inv X pins σ H s) (h : SqT X.K H a xs) : ∃ its : List Value, Vals xs its /\ IsTup s.heap a its.toArray /\ xs.length <= sizeLine := by
 rcases h with h | ⟨o, its, n, hk, hc, hs, hz, r⟩
 · obtain ⟨z, its, r, p⟩ := h.ok I.hok
   exact ⟨its, r, p, z⟩
 · refine ⟨its.toList, r, ⟨o, I.kIn a o hk, hc, n, by simpa using hs⟩, ?_⟩
   have e := r.length
   simp only [Array.length_toList] at e
   omega
theorem Inv.list_inj (I : Inv X pins σ H s) (h : SqL X.K H a xs) (h' : SqL X.K H a ys) : xs = ys := by
 obtain ⟨its, r, ⟨o, n, e, _, _, d⟩, _⟩ := I.list h
 obtain ⟨its', r', ⟨o', n', e', _, _, d'⟩, _⟩ := I.list h'
 rw [e] at e'; cases e'
 rw [d] at d'
 injection d' with d1 _
 have : its = its' := by simpa using congrArg Array.toList d1
 subst this
 exact r.inj r'
theorem Inv.tuple_inj (I : Inv X pins σ H s) (h : SqT X.K H a xs) (h' : SqT X.K H a ys) : xs = ys := by
 obtain ⟨its, r, ⟨o, e, _, n, d⟩, _⟩ := I.tuple h
 obtain ⟨its', r', ⟨o', e', _, n', d'⟩, _⟩ := I.tuple h'
 rw [e] at e'; cases e'
 rw [d] at d'
 injection d' with d1 _
 have : its = its' := by simpa using congrArg Array.toList d1
 subst this
 exact r.inj r'
end
abbrev Cx.wish (X : Cx) (E : Value -> Shared -> Prop) : Cx := { X with xe := E }
abbrev Cx.nox (X : Cx) : Cx := X.wish fun _ _ => False
theorem Cx.Ok.wish {X : Cx} (ok : X.Ok) (E : Value -> Shared -> Prop) : (X.wish E).Ok :=
 ⟨ok.mod, ok.kind, ok.glob, ok.blt, ok.above, ok.inj, ok.has, ok.cab, ok.hd, ok.frames, ok.stk, ok.exf, ok.bs, ok.bsz, ok.noex, ok.exfs, ok.funs, ok.frf⟩
theorem Cx.Ok.unwish {X : Cx} {E : Value -> Shared -> Prop} (ok : (X.wish E).Ok) : X.Ok :=
 ⟨ok.mod, ok.kind, ok.glob, ok.blt, ok.above, ok.inj, ok.has, ok.cab, ok.hd, ok.frames, ok.stk, ok.exf, ok.bs, ok.bsz, ok.noex, ok.exfs, ok.funs, ok.frf⟩
section
variable {X : Cx} {pins : List (Addr × Obj)} {σ : St} {H : Hp} {s : Shared} {E : Value -> Shared -> Prop}
theorem Inv.wish (I : Inv X pins σ H s) (E : Value -> Shared -> Prop) : Inv (X.wish E) pins σ H s := ⟨I.ok.wish E, I.os, I.bare, I.base, I.loc, I.cell, I.free, I.freeC, I.pin, I.hok, I.len⟩
theorem Inv.unwish (I : Inv (X.wish E) pins σ H s) : Inv X pins σ H s := ⟨I.ok.unwish, I.os, I.bare, I.base, I.loc, I.cell, I.free, I.freeC, I.pin, I.hok, I.len⟩
theorem SP.unwish {D : Ends} {f : Flow} {s' : Shared} (h : SP (X.wish E) pins D f s') : SP X pins D f s' := by
 cases f with
 | next => obtain ⟨σ', H', I, q⟩ := h; exact ⟨σ', H', I.unwish, q⟩
 | brk => obtain ⟨σ', H', I, q⟩ := h; exact ⟨σ', H', I.unwish, q⟩
 | cont => obtain ⟨σ', H', I, q⟩ := h; exact ⟨σ', H', I.unwish, q⟩
 | ret u => obtain ⟨v, σ', H', I, r, q⟩ := h; exact ⟨v, σ', H', I.unwish, r, q⟩
theorem PSs.nox {st : List Stmt} {t : TS} (h : PSs X.nox st t) : PSs X st t := fun pins s σ H D I hw =>
 wpAny_mono (h pins s σ H D (I.wish _) hw) (fun _ _ q => q.unwish) fun _ _ z => False.elim z
end
section
variable {X : Cx} {st : Stmt} {rest : List Stmt} {t u : TS} {e : Expr} {te : TE} {pos : Pos}
def tNext : TS := fun D σ H => D.nx σ H
def tSeq (t u : TS) : TS := fun D σ H => t { D with nx := u D } σ H
theorem pss_nil : PSs X [] tNext := fun _ _ σ H _ I h => wpAny_execs_nil ⟨σ, H, I, h⟩
theorem zC (h1 : PS X st t) (h2 : PSs X rest u) : PSs X (st :: rest) (tSeq t u) := by
 intro pins s σ H D I h
 refine wpAny_execs_cons (thn (h1 pins s σ H { D with nx := u D } I h) fun f s1 q => ?_)
 cases f with
 | next =>
   obtain ⟨σ', H', I', q⟩ := q
   exact h2 pins s1 σ' H' D I' q
 | ret v => exact q
 | brk => exact q
 | cont => exact q
theorem zE (h1 : PS X st t) : PSs X [st] t := by
 intro pins s σ H D I h
 refine wpAny_execs_cons (thn (h1 pins s σ H D I h) fun f s1 q => ?_)
 cases f with
 | next => exact wpAny_execs_nil q
 | ret v => exact q
 | brk => exact q
 | cont => exact q
theorem Inv.quiet {pins : List (Addr × Obj)} {σ : St} {H : Hp} {s : Shared} (I : Inv X pins σ H s) : interactive X.env = false := by simp [interactive, I.ok.kind]
def tDrop (te : TE) : TS := fun D σ H => te σ H fun _ H1 => D.nx σ H1
theorem yD (he : PE X e te) (hs : swapsWith e none pos.line X.env = pure false := by rfl) : PS X (.Expr e pos) (tDrop te) := by
 intro pins s σ H D I h
 exact wpAny_Expr_any (thn (he pins s σ H _ I h) fun v s1 ⟨x, H1, I1, r1, q1⟩ => ⟨σ, H1, I1, q1⟩) I.quiet hs
def tRet (te : TE) : TS := fun D σ H => te σ H D.rt
theorem zN (he : PE X e te) : PS X (.Return (some e) pos) (tRet te) := by
 intro pins s σ H D I h
 exact wpAny_Return_some (thn (he pins s σ H _ I h) fun v s1 ⟨x, H1, I1, r1, q1⟩ => ⟨x, σ, H1, I1, r1, q1⟩)
def tRetN : TS := fun D _ H => D.rt .non H
def tIfS (c : TT) (t u : TS) : TS := fun D σ H => c σ H fun b H1 => if b = true then t D σ H1 else u D σ H1
theorem zU {c : Expr} {a b : List Stmt} {tc : TT} (hc : PT X c tc) (ha : PSs X a t) (hb : PSs X b u) : PS X (.If c a b pos) (tIfS tc t u) := by
 intro pins s σ H D I h
 refine wpAny_If (thn (hc pins s σ H _ I h) fun d s1 ⟨H1, I1, q1⟩ => ?_)
 cases d with
 | true => exact ha pins s1 σ H1 D I1 q1
 | false => exact hb pins s1 σ H1 D I1 q1
end
abbrev TG := V -> St -> Hp -> (St -> Hp -> Prop) -> Prop
abbrev TGs := List V -> St -> Hp -> (St -> Hp -> Prop) -> Prop
def PG (X : Cx) (target : Expr) (t : TG) : Prop :=
 ∀ (pins : List (Addr × Obj)) (s : Shared) (σ : St) (H : Hp) (v : V) (u : Value) (Q : St -> Hp -> Prop), Inv X pins σ H s -> RelV v u -> t v σ H Q ->
   wpAny (model X.prog X.w) X.A (assign target X.env u) (fun _ s' => ∃ σ' H', Inv X pins σ' H' s' /\ Q σ' H') X.xe s
def PGs (X : Cx) (ts : List Expr) (t : TGs) : Prop :=
 ∀ (pins : List (Addr × Obj)) (s : Shared) (σ : St) (H : Hp) (vs : List V) (us : List Value) (Q : St -> Hp -> Prop), Inv X pins σ H s -> Vals vs us -> t vs σ H Q ->
   wpAny (model X.prog X.w) X.A (assignInOrder ((assignEach ts X.env).map (·.2)) us) (fun _ s' => ∃ σ' H', Inv X pins σ' H' s' /\ Q σ' H') X.xe s
abbrev TSet := V -> V -> V -> Hp -> (Hp -> Prop) -> Prop
def PSet (X : Cx) (t : TSet) : Prop :=
 ∀ (pins : List (Addr × Obj)) (s : Shared) (σ : St) (H : Hp) (o i v : V) (ov iv u : Value) (Q : Hp -> Prop), Inv X pins σ H s -> RelV o ov -> RelV i iv -> RelV v u -> t o i v H Q ->
   wpAny (model X.prog X.w) X.A (setItem ov iv u) (fun _ s' => ∃ H', Inv X pins σ H' s' /\ Q H') X.xe s
section
variable {X : Cx} {pos : Pos}
def gName (i : Nat) : TG := fun v σ H Q => Q (σ.set i (some v)) H
theorem yP {i : Nat} {x : Str} (hN : X.N.Nodup) (hi : X.N[i]? = some x) (hx : Loc X.env.scope x) (hf : X.fn x = true \/ X.env.scope.names.lookup x = some .local := by first | exact .inl rfl | exact .inr rfl | assumption) : PG X (.Name x pos) (gName i) := by
 intro pins s σ H v u Q I r h
 exact wpAny_assign_Name (xG I hN hi hx r (fun s' I' => ⟨_, H, I', h⟩) hf)
def tAsg (te : TE) (g : TG) : TS := fun D σ H => te σ H fun x H1 => g x σ H1 D.nx
theorem zM {i : Nat} {x : Str} {e : Expr} {te : TE} {pos' : Pos} (hN : X.N.Nodup) (hi : X.N[i]? = some x) (hx : Loc X.env.scope x) (he : PE X e te) (hs : swapsWith e (some (.Name x pos')) pos.line X.env = pure false := by rfl) (hf : X.fn x = true \/ X.env.scope.names.lookup x = some .local := by first | exact .inl rfl | exact .inr rfl | assumption) :
   PS X (.Assign [.Name x pos'] e pos) (tAsg te (gName i)) := by
 intro pins s σ H D I h
 refine wpAny_Assign_Name (thn (he pins s σ H _ I h) fun v s1 ⟨y, H1, I1, r1, q1⟩ => ?_) hs
 exact xG I1 hN hi hx r1 (fun s2 I2 => ⟨_, H1, I2, q1⟩) hf
end
section
variable {X : Cx} {pos : Pos}
end
structure It where
 go : Nat -> Hp -> Prop
 yld : Nat -> Hp -> V -> Hp -> Prop
 stop : Nat -> Hp -> Prop
def FpOk (X : Cx) (pins : List (Addr × Obj)) (H : Hp) (b : Addr) : Prop :=
 H b = none /\ b ≠ X.env.locals /\ b ∉ X.fs /\ (b ∈ X.ex \/ X.s₀.heap.objs.size <= b) /\ (∀ x c, X.env.cells.lookup x = some c -> c ≠ b) /\ ∀ p ∈ X.pn ++ pins, p.1 ≠ b
theorem Inv.fpOk {X : Cx} {pins : List (Addr × Obj)} {σ : St} {H H' : Hp} {s : Shared} {b : Addr} (I : Inv X pins σ H s) (hb : s.heap.objs.size <= b) (hn : H' b = none) : FpOk X pins H' b := by
 refine ⟨hn, Nat.ne_of_gt (Nat.lt_of_lt_of_le I.lt hb), I.nofs hb, .inr (Nat.le_trans I.sz hb), fun x c e z => ?_, fun p hp z => ?_⟩
 · obtain ⟨v, q⟩ := I.cell x c e
   exact absurd (Nat.lt_of_lt_of_le q.lt (by rw [z]; exact hb)) (Nat.lt_irrefl _)
 · exact absurd (Nat.lt_of_lt_of_le (Heap.lt_size (I.pin p hp).1) (by rw [z]; exact hb)) (Nat.lt_irrefl _)
structure Turn (P : Program) (w : World) (K : PySem.W.Frag) (tg : Expr) (J : It) (fp : List Addr) (it : Addr) (tn : Nat -> Heap -> Prop) : Prop where
 mem : it ∈ fp
 obj : ∀ i h, tn i h -> ∀ b ∈ fp, ∃ o, h.get? b = some o /\ ∀ v, o.data ≠ .cell v
 keep : ∀ i h h', tn i h -> (∀ b ∈ fp, ∀ o, h.get? b = some o -> h'.get? b = some o) -> tn i h'
 item : ∀ (X : Cx), X.prog = P -> X.w = w -> X.K = K -> X.calm = true -> ∀ (i : Nat) (pins : List (Addr × Obj)) (s : Shared) (σ : St) (H : Hp) (E : Value -> Shared -> Prop), Inv X pins σ H s -> (∀ b ∈ fp, FpOk X pins H b) -> tn i s.heap -> J.go i H ->
   wpAny (model P w) X.A (pyNext (.ref it)) (fun r s1 => ∃ u, r = some u /\
     wpAny (model P w) X.A (letOwnedTupleGo tg (.ref it) u) (fun _ s2 => ∃ x H', Inv X pins σ H' s2 /\ RelV x u /\ J.yld i H x H' /\ tn (i + 1) s2.heap /\ ∀ b ∈ fp, H' b = none) E s1) E s
 done : ∀ (X : Cx), X.prog = P -> X.w = w -> X.K = K -> X.calm = true -> ∀ (i : Nat) (pins : List (Addr × Obj)) (s : Shared) (σ : St) (H : Hp) (E : Value -> Shared -> Prop), Inv X pins σ H s -> (∀ b ∈ fp, FpOk X pins H b) -> tn i s.heap -> J.stop i H ->
   wpAny (model P w) X.A (pyNext (.ref it)) (fun r s1 => r = none /\ Inv X pins σ H s1) E s
 self : ∀ (A : Around) (i : Nat) (s : Shared) (Q : Value -> Shared -> Prop) (E : Value -> Shared -> Prop), tn i s.heap -> Q (.ref it) s -> wpAny (model P w) A (pyIter (.ref it)) Q E s
abbrev TI := St -> Hp -> (It -> Hp -> Prop) -> Prop
def PIE (X : Cx) (pins : List (Addr × Obj)) (σ : St) (tg : Expr) (R : It -> Hp -> Prop) (itv : Value) (s2 : Shared) : Prop :=
 ∃ (it : Addr) (fp : List Addr) (tn : Nat -> Heap -> Prop) (J : It) (H' : Hp), itv = .ref it /\ Inv X pins σ H' s2 /\ Turn X.prog X.w X.K tg J fp it tn /\ tn 0 s2.heap /\ (∀ b ∈ fp, FpOk X pins H' b) /\ R J H'
def PI (X : Cx) (tg iter : Expr) (wi : TI) : Prop :=
 ∀ (pins : List (Addr × Obj)) (s : Shared) (σ : St) (H : Hp) (R : It -> Hp -> Prop), Inv X pins σ H s -> wi σ H R ->
   wpAny (model X.prog X.w) X.A (eval iter X.env) (fun v s1 => wpAny (model X.prog X.w) X.A (pyIter v) (PIE X pins σ tg R) X.xe s1) X.xe s
theorem go_of {M : Model} {A : Around} {E : Value -> Shared -> Prop} {s : Shared} {tg : Expr} {it : Addr} {u : Value} {o : Obj} {n : String} {vs : Array Value} {Q : Unit -> Shared -> Prop} (ho : s.heap.get? it = some o) (hc : o.cls = .type n) (hd : o.data = .fields vs)
   (hn : ["enumerate", "zip", "dict_itemiterator", "dict_reverseitemiterator", "odict_iterator", "itertools.zip_longest", "itertools.pairwise"].contains n = false) (hQ : Q () s) : wpAny M A (letOwnedTupleGo tg (.ref it) u) Q E s := by
 unfold letOwnedTupleGo
 cases tg <;> first
   | exact wpAny_pure hQ
   | (cases u <;> first
       | exact wpAny_pure hQ
       | (refine wpAny_bind (wpAny_load ho ?_)
          rw [hc, hd]
          show wpAny M A (if (["enumerate", "zip", "dict_itemiterator", "dict_reverseitemiterator", "odict_iterator", "itertools.zip_longest", "itertools.pairwise"].contains n && vs[0]? == some (rawInt _)) = true then _ else _) Q E s
          rw [if_neg (by intro h; rw [hn, Bool.false_and] at h; cases h)]
          exact wpAny_pure hQ))
def Itl (K : PySem.W.Frag) (a : Addr) : It :=
 ⟨fun i H => ∃ xs x, SqL K H a xs /\ xs[i]? = some x, fun i H x H' => H' = H /\ ∀ xs, SqL K H a xs -> xs[i]? = some x, fun i H => ∃ xs, SqL K H a xs /\ xs.length <= i⟩
def Itt (K : PySem.W.Frag) (a : Addr) : It :=
 ⟨fun i H => ∃ xs x, SqT K H a xs /\ xs[i]? = some x, fun i H x H' => H' = H /\ ∀ xs, SqT K H a xs -> xs[i]? = some x, fun i H => ∃ xs, SqT K H a xs /\ xs.length <= i⟩
def Itr (lo : Int) (n : Nat) : It := ⟨fun i _ => i < n, fun i H x H' => H' = H /\ x = .int (lo + i), fun i _ => n <= i⟩
theorem turn_list {P : Program} {w : World} {K : PySem.W.Frag} {tg : Expr} (a it : Addr) : Turn P w K tg (Itl K a) [it] it (fun i h => h.IsListIter it a i) where
 mem := by simp
 obj := fun i h st b hb => by
   have e : b = it := by simpa using hb
   subst e
   obtain ⟨o, e, c, d⟩ := st
   exact ⟨o, e, fun v z => by rw [d] at z; cases z⟩
 keep := fun i h h' st k => st.at fun o e => k it (by simp) o e
 item := by
   intro X hP hw hK hc i pins s σ H E I hf st hg
   subst hP hw hK
   obtain ⟨xs, x, hq, hx⟩ := hg
   obtain ⟨its, rv, p, hz⟩ := I.list hq
   obtain ⟨u, hu, ru⟩ := rv.get hx
   obtain ⟨f0, f1, f2, f3, f4, f5⟩ := hf it (by simp)
   refine wpAny_pyNext_list_item st p.isList (x := u) (by simpa using hu) fun h' st' sb => ?_
   have I1 : Inv X pins σ H { s with heap := h' } := I.turned (t' := s.toks) (fun b o hb e => (sb.2 b hb).trans e) f0 f1 f3 f4 f5
   obtain ⟨o, e, c, d⟩ := id st'
   exact ⟨u, rfl, go_of (s := { s with heap := h' }) e c d (by decide) ⟨x, H, I1, ru, ⟨rfl, fun ys hy => by rw [I.list_inj hy hq]; exact hx⟩, st', fun b hb => (hf b hb).1⟩⟩
 done := by
   intro X hP hw hK hc i pins s σ H E I hf st hg
   subst hP hw hK
   obtain ⟨xs, hq, hx⟩ := hg
   obtain ⟨its, rv, p, hz⟩ := I.list hq
   obtain ⟨f0, f1, f2, f3, f4, f5⟩ := hf it (by simp)
   have hl := rv.length
   exact wpAny_pyNext_list_end (I.ok.hd hc) st p.isList (by simp; omega) fun h' eb => ⟨rfl, I.turned (t' := s.toks) (fun b o hb e => eb b o hb e) f0 f1 f3 f4 f5⟩
 self := fun _ _ _ _ _ st h => wpAny_pyIter_listiter st h
theorem turn_tuple {P : Program} {w : World} {K : PySem.W.Frag} {tg : Expr} (a it : Addr) : Turn P w K tg (Itt K a) [it] it (fun i h => h.IsTupleIter it a i) where
 mem := by simp
 obj := fun i h st b hb => by
   have e : b = it := by simpa using hb
   subst e
   obtain ⟨o, e, c, d⟩ := st
   exact ⟨o, e, fun v z => by rw [d] at z; cases z⟩
 keep := fun i h h' st k => st.at fun o e => k it (by simp) o e
 item := by
   intro X hP hw hK hc i pins s σ H E I hf st hg
   subst hP hw hK
   obtain ⟨xs, x, hq, hx⟩ := hg
   obtain ⟨its, rv, p, hz⟩ := I.tuple hq
   obtain ⟨u, hu, ru⟩ := rv.get hx
   obtain ⟨f0, f1, f2, f3, f4, f5⟩ := hf it (by simp)
   refine wpAny_pyNext_tuple_item st (show s.heap.IsTuple a its.toArray from p) (x := u) (by simpa using hu) fun h' st' sb => ?_
   have I1 : Inv X pins σ H { s with heap := h' } := I.turned (t' := s.toks) (fun b o hb e => (sb.2 b hb).trans e) f0 f1 f3 f4 f5
   obtain ⟨o, e, c, d⟩ := id st'
   exact ⟨u, rfl, go_of (s := { s with heap := h' }) e c d (by decide) ⟨x, H, I1, ru, ⟨rfl, fun ys hy => by rw [I.tuple_inj hy hq]; exact hx⟩, st', fun b hb => (hf b hb).1⟩⟩
 done := by
   intro X hP hw hK hc i pins s σ H E I hf st hg
   subst hP hw hK
   obtain ⟨xs, hq, hx⟩ := hg
   obtain ⟨its, rv, p, hz⟩ := I.tuple hq
   obtain ⟨f0, f1, f2, f3, f4, f5⟩ := hf it (by simp)
   have hl := rv.length
   exact wpAny_pyNext_tuple_end (I.ok.hd hc) st (show s.heap.IsTuple a its.toArray from p) (by simp; omega) fun h' eb => ⟨rfl, I.turned (t' := s.toks) (fun b o hb e => eb b o hb e) f0 f1 f3 f4 f5⟩
 self := fun _ _ _ _ _ st h => wpAny_pyIter_tupleiter st h
theorem turn_range {P : Program} {w : World} {K : PySem.W.Frag} {tg : Expr} (it : Addr) (lo : Int) (n : Nat) : Turn P w K tg (Itr lo n) [it] it (fun i h => IsRangeIter h it (lo + (i : Nat) * 1) ((n : Int) - (i : Nat)) 1) where
 mem := by simp
 obj := fun i h st b hb => by
   have e : b = it := by simpa using hb
   subst e
   exact ⟨_, st, fun v z => by
     have z' : Data.fields _ = Data.cell v := z
     cases z'⟩
 keep := fun i h h' st k => k it (by simp) _ st
 item := by
   intro X hP hw hK hc i pins s σ H E I hf st hg
   subst hP hw hK
   obtain ⟨f0, f1, f2, f3, f4, f5⟩ := hf it (by simp)
   have W := Walks.range (prog := X.prog) (w := X.w) (I.ok.hd hc) it lo 1 n
   refine W.item i s _ _ hg st fun v h' tk hv st' kk => ?_
   obtain ⟨t, rfl⟩ := hv
   have I1 : Inv X pins σ H { s with heap := h', toks := tk } := I.turned (fun b o hb e => kk b o (by simpa using hb) e) f0 f1 f3 f4 f5
   refine ⟨_, rfl, go_of (s := { s with heap := h', toks := tk }) (n := "range_iterator") st' rfl rfl (by decide) ⟨.int (lo + i), H, I1, ⟨t, ?_⟩, ⟨rfl, rfl⟩, st', fun b hb => (hf b hb).1⟩⟩
   rw [Int.mul_one]
 done := by
   intro X hP hw hK hc i pins s σ H E I hf st hg
   subst hP hw hK
   obtain ⟨f0, f1, f2, f3, f4, f5⟩ := hf it (by simp)
   exact wpAny_pyNext_range_end (I.ok.hd hc) st (by have : n <= i := hg; omega) fun h' eb => ⟨rfl, I.turned (t' := s.toks) (fun b o hb e => eb b o hb e) f0 f1 f3 f4 f5⟩
 self := fun _ _ _ _ _ st h => wpAny_pyIter_rangeiter st h
section
variable {X : Cx} {tg : Expr}
def iList (K : PySem.W.Frag) (tl : TE) : TI := fun σ H R => tl σ H fun x H1 => ∃ a, x = .ref a /\ (∃ xs, SqL K H1 a xs) /\ R (Itl K a) H1
def iTup (K : PySem.W.Frag) (tl : TE) : TI := fun σ H R => tl σ H fun x H1 => ∃ a, x = .ref a /\ (∃ xs, SqT K H1 a xs) /\ R (Itt K a) H1
theorem qG {l : Expr} {tl : TE} (hl : PE X l tl) : PI X tg l (iList X.K tl) := by
 intro pins s σ H R I h
 refine thn (hl pins s σ H _ I h) fun v s1 ⟨x, H1, I1, r1, q1⟩ => ?_
 obtain ⟨a, e, ⟨xs, hq⟩, q⟩ := q1
 subst e
 cases r1
 obtain ⟨its, rv, p, hz⟩ := I1.list hq
 refine wpAny_pyIter_list p.isList ?_
 refine ⟨s1.heap.objs.size, [s1.heap.objs.size], _, _, H1, rfl, I1.kept (t' := s1.toks) fun b o e => Heap.get?_push_of_some _ e, turn_list a _, ⟨_, Heap.get?_push_size _ rfl, rfl, rfl⟩, fun b hb => ?_, q⟩
 have e : b = s1.heap.objs.size := by simpa using hb
 subst e
 exact I1.fpOk (Nat.le_refl _) (I1.hok.fresh (Nat.le_refl _))
theorem pi_tup {l : Expr} {tl : TE} (hl : PE X l tl) : PI X tg l (iTup X.K tl) := by
 intro pins s σ H R I h
 refine thn (hl pins s σ H _ I h) fun v s1 ⟨x, H1, I1, r1, q1⟩ => ?_
 obtain ⟨a, e, ⟨xs, hq⟩, q⟩ := q1
 subst e
 cases r1
 obtain ⟨its, rv, p, hz⟩ := I1.tuple hq
 refine wpAny_pyIter_tuple (show s1.heap.IsTuple a its.toArray from p) ?_
 refine ⟨s1.heap.objs.size, [s1.heap.objs.size], _, _, H1, rfl, I1.kept (t' := s1.toks) fun b o e => Heap.get?_push_of_some _ e, turn_tuple a _, ⟨_, Heap.get?_push_size _ rfl, rfl, rfl⟩, fun b hb => ?_, q⟩
 have e : b = s1.heap.objs.size := by simpa using hb
 subst e
 exact I1.fpOk (Nat.le_refl _) (I1.hok.fresh (Nat.le_refl _))
theorem range_it {pins : List (Addr × Obj)} {σ : St} {H : Hp} {s : Shared} {R : It -> Hp -> Prop} {E : Value -> Shared -> Prop} {lo hi : Int} {t u v : Tok} {tk : Nat} (I : Inv X pins σ H s) (h1 : -(2 ^ 62) <= lo) (h2 : lo < 2 ^ 62) (h3 : -(2 ^ 62) <= hi) (h4 : hi < 2 ^ 62)
   (q : R (Itr lo (hi - lo).toNat) H) : wpAny (model X.prog X.w) X.A (pyIter (.ref s.heap.objs.size)) (PIE X pins σ tg R) E { s with heap := s.heap.push { cls := .type "range", data := .fields #[.int lo t, .int hi u, .int 1 v] }, toks := tk } := by
 refine wpAny_pyIter_range (IsRange.new ..) (small_one h1 h2 h3 h4) ?_
 have I1 : Inv X pins σ H { s with heap := s.heap.push { cls := .type "range", data := .fields #[.int lo t, .int hi u, .int 1 v] }, toks := tk } := I.kept fun b o e => Heap.get?_push_of_some _ e
 refine ⟨(s.heap.push { cls := .type "range", data := .fields #[.int lo t, .int hi u, .int 1 v] }).objs.size, [(s.heap.push { cls := .type "range", data := .fields #[.int lo t, .int hi u, .int 1 v] }).objs.size], _, _, H, rfl,
   I1.kept (t' := tk) fun b o e => Heap.get?_push_of_some _ e, turn_range _ lo (hi - lo).toNat, ?_, fun b hb => ?_, q⟩
 · have e1 : lo + ((0 : Nat) : Int) * 1 = lo := by simp
   have e2 : (((hi - lo).toNat : Nat) : Int) - ((0 : Nat) : Int) = Builtin.Range.rangeSize lo hi 1 := by rw [rangeSize_one]; split <;> omega
   show IsRangeIter _ _ (lo + ((0 : Nat) : Int) * 1) ((((hi - lo).toNat : Nat) : Int) - ((0 : Nat) : Int)) 1
   rw [e1, e2]
   exact Heap.get?_push_size _ rfl
 · have e : b = (s.heap.push { cls := .type "range", data := .fields #[.int lo t, .int hi u, .int 1 v] }).objs.size := by simpa using hb
   subst e
   exact I1.fpOk (Nat.le_refl _) (I1.hok.fresh (Nat.le_refl _))
def iRng1 (ta : TA) : TI := fun σ H R => ta σ H fun vs H1 => ∃ j : Int, vs = [.int j] /\ -(2 ^ 62) <= j /\ j < 2 ^ 62 /\ R (Itr 0 j.toNat) H1
def iRng2 (ta : TA) : TI := fun σ H R => ta σ H fun vs H1 => ∃ i j : Int, vs = [.int i, .int j] /\ (-(2 ^ 62) <= i /\ i < 2 ^ 62 /\ -(2 ^ 62) <= j /\ j < 2 ^ 62) /\ R (Itr i (j - i).toNat) H1
theorem xL {a : Expr} {ta : TA} {p pos : Pos} (hg : Gl X "range") (hm : X.mg "range" = none) (ha : PA X [a] ta) (hs : starEach [a] X.env = [(false, eval a X.env)] := by rfl) : PI X tg (.Call (.Name "range" p) [a] [] pos) (iRng1 ta) := by
 intro pins s σ H R I h
 refine Call_ (jJ I hg hm boot_range (PyProof.Rows.callWith_type1 (thn (ha pos pins s σ H _ I h) fun us s1 ⟨vs, H1, I1, r1, q1⟩ => ?_) hs rfl))
 obtain ⟨j, e, q1, q2, q⟩ := q1
 subst e
 cases r1 with
 | cons r rr =>
   cases rr
   obtain ⟨t, rfl⟩ := r
   exact call_range_1 (range_it I1 (by omega) (by omega) q1 q2 (by simpa using q))
def tFor (wi : TI) (g : TG) (tb : TS) : TS := fun D σ H => wi σ H fun J H1 => ∃ W : Nat -> Nat -> St -> Hp -> Prop, (∃ m, W 0 m σ H1) /\ ∀ i m σ H, W i m σ H ->
 (J.stop i H /\ D.nx σ H) \/ (J.go i H /\ ∃ N : St -> Hp -> Prop, (∀ σ' H', N σ' H' -> ∃ m', m' < m /\ W (i + 1) m' σ' H') /\ ∀ x H', J.yld i H x H' -> g x σ H' fun σ2 H2 => tb { D with nx := N, ct := N, bk := D.nx } σ2 H2)
def qF (fp : List Addr) (h : Heap) : List (Addr × Obj) := fp.filterMap fun b => (h.get? b).map fun o => (b, o)
theorem jI {fp : List Addr} {h : Heap} {b : Addr} {o : Obj} (hb : b ∈ fp) (e : h.get? b = some o) : (b, o) ∈ qF fp h := List.mem_filterMap.mpr ⟨b, hb, by rw [e]; rfl⟩
theorem of_pinsAt {fp : List Addr} {h : Heap} {p : Addr × Obj} (hp : p ∈ qF fp h) : p.1 ∈ fp /\ h.get? p.1 = some p.2 := by
 obtain ⟨b, hb, e⟩ := List.mem_filterMap.mp hp
 cases q : h.get? b with
 | none => rw [q] at e; cases e
 | some o =>
   rw [q] at e
   have e' : (b, o) = p := Option.some.inj e
   subst e'
   exact ⟨hb, q⟩
theorem Inv.pinned {pins : List (Addr × Obj)} {σ : St} {H : Hp} {s : Shared} {fp : List Addr} (I : Inv X pins σ H s) (hf : ∀ b ∈ fp, FpOk X pins H b) (ho : ∀ b ∈ fp, ∃ o, s.heap.get? b = some o /\ ∀ v, o.data ≠ .cell v) : Inv X (pins ++ qF fp s.heap) σ H s :=
 I.pins_of fun p hp => (List.mem_append.mp hp).elim (fun z => I.pin p (List.mem_append_right _ z)) fun z => by
   obtain ⟨hb, e⟩ := of_pinsAt z
   obtain ⟨f0, f1, f2, _⟩ := hf p.1 hb
   obtain ⟨o, e', d⟩ := ho p.1 hb
   rw [e] at e'; cases e'
   exact ⟨e, f0, f1, f2, d⟩
theorem Inv.unpinned {pins pl : List (Addr × Obj)} {σ : St} {H : Hp} {s : Shared} (I : Inv X (pins ++ pl) σ H s) : Inv X pins σ H s := I.pins_of fun p hp => I.pin p (List.mem_append_right _ (List.mem_append_left _ hp))
theorem yZ {iter : Expr} {body : List Stmt} {wi : TI} {g : TG} {tb : TS} {pos : Pos} (hp : PassesOwn (model X.prog X.w) X.A X.env X.xe) (hc : X.calm = true) (hi : PI X tg iter wi) (hg : PG X tg g) (hb : PSs X body tb)
   (hs : ∀ x, foldedSetIterable iter X.env x = pure x := by intro _; rfl) : PS X (.For tg iter body [] pos) (tFor wi g tb) := by
 intro pins s σ H D I h
 refine wpAny_For (thn (hi pins s σ H _ I h) fun v s1 h1 => thn h1 fun itv s2 h2 => ?_) hs
 obtain ⟨it, fp, tn, J, H2, e, I2, T, st2, f2, W, ⟨m0, w0⟩, turn⟩ := h2
 subst e
 have stat : ∀ {H' : Hp}, (∀ b ∈ fp, H' b = none) -> ∀ b ∈ fp, FpOk X pins H' b := fun hn b hb => ⟨hn b hb, (f2 b hb).2⟩
 refine codeAny_forLoop_any (fun n s' => ∃ i σ' H', Inv X pins σ' H' s' /\ tn i s'.heap /\ (∀ b ∈ fp, H' b = none) /\ W i n σ' H') ?_ m0 ⟨0, σ, H2, I2, st2, fun b hb => (f2 b hb).1, w0⟩
 rintro n s3 ⟨i, σ3, H3, I3, st3, fr3, w3⟩
 rcases turn i n σ3 H3 w3 with ⟨stop, qn⟩ | ⟨go, N, hN, step⟩
 · refine wpAny_passesOwn hp (thn (T.done X rfl rfl rfl hc i pins s3 σ3 H3 X.xe I3 (stat fr3) st3 stop) fun r s4 ⟨hr, I4⟩ => ?_)
   subst hr
   exact wpAny_execs_nil ⟨σ3, H3, I4, qn⟩
 · refine wpAny_passesOwn hp (thn (T.item X rfl rfl rfl hc i pins s3 σ3 H3 X.xe I3 (stat fr3) st3 go) fun r s4 ⟨u, hr, h4⟩ => ?_)
   subst hr
   refine wpAny_passesOwn hp (thn h4 fun _ s5 ⟨x, H5, I5, r5, y5, st5, fr5⟩ => ?_)
   have I5' := I5.pinned (stat fr5) (T.obj _ _ st5)
   refine wpAny_passesOwn hp (thn (hg _ s5 σ3 H5 x u _ I5' r5 (step x H5 y5)) fun _ s6 ⟨σ6, H6, I6, q6⟩ => ?_)
   refine wpAny_passesOwn hp (thn (hb _ s6 σ6 H6 _ I6 q6) fun f s7 q7 => ?_)
   have again : ∀ {σ7 : St} {H7 : Hp}, Inv X (pins ++ qF fp s5.heap) σ7 H7 s7 -> N σ7 H7 -> ∃ m, m < n /\ ∃ i σ' H', Inv X pins σ' H' s7 /\ tn i s7.heap /\ (∀ b ∈ fp, H' b = none) /\ W i m σ' H' := fun {σ7 H7} I7 n7 => by
     obtain ⟨m', hm, w7⟩ := hN σ7 H7 n7
     refine ⟨m', hm, i + 1, σ7, H7, I7.unpinned, T.keep _ _ _ st5 fun b hb o e => (I7.pin (b, o) (List.mem_append_right _ (List.mem_append_right _ (jI hb e)))).1, fun b hb => ?_, w7⟩
     obtain ⟨o, e, d⟩ := T.obj _ _ st5 b hb
     exact (I7.pin (b, o) (List.mem_append_right _ (List.mem_append_right _ (jI hb e)))).2.1
   cases f with
   | next => obtain ⟨σ7, H7, I7, n7⟩ := q7; exact again I7 n7
   | cont => obtain ⟨σ7, H7, I7, n7⟩ := q7; exact again I7 n7
   | brk => obtain ⟨σ7, H7, I7, q7⟩ := q7; exact ⟨σ7, H7, I7.unpinned, q7⟩
   | ret v => obtain ⟨x7, σ7, H7, I7, r7, q7⟩ := q7; exact ⟨x7, σ7, H7, I7.unpinned, r7, q7⟩
end
theorem for_list {K : PySem.W.Frag} {a : Addr} {xs : List V} {g : TG} {tb : TS} {D : Ends} {σ : St} {H : Hp} (Pv : Nat -> St -> Hp -> Prop) (h0 : Pv 0 σ H) (hl : ∀ i σ H, i <= xs.length -> Pv i σ H -> SqL K H a xs)
   (hs : ∀ i x σ H, xs[i]? = some x -> Pv i σ H -> g x σ H fun σ2 H2 => tb { D with nx := Pv (i + 1), ct := Pv (i + 1), bk := D.nx } σ2 H2) (hd : ∀ σ H, Pv xs.length σ H -> D.nx σ H) :
   ∃ W : Nat -> Nat -> St -> Hp -> Prop, (∃ m, W 0 m σ H) /\ ∀ i m σ H, W i m σ H ->
     ((Itl K a).stop i H /\ D.nx σ H) \/ ((Itl K a).go i H /\ ∃ N : St -> Hp -> Prop, (∀ σ' H', N σ' H' -> ∃ m', m' < m /\ W (i + 1) m' σ' H') /\ ∀ x H', (Itl K a).yld i H x H' -> g x σ H' fun σ2 H2 => tb { D with nx := N, ct := N, bk := D.nx } σ2 H2) := by
 refine ⟨fun i m σ H => m = xs.length - i /\ i <= xs.length /\ Pv i σ H, ⟨xs.length, by simp, Nat.zero_le _, h0⟩, ?_⟩
 rintro i m σ H ⟨rfl, hi, p⟩
 have q := hl i σ H hi p
 by_cases hlt : i < xs.length
 · refine .inr ⟨⟨xs, xs[i], q, by simp [hlt]⟩, Pv (i + 1), fun σ' H' p' => ⟨xs.length - (i + 1), by omega, rfl, hlt, p'⟩, fun x H' y => ?_⟩
   obtain ⟨e, y⟩ := y
   subst e
   exact hs i x σ _ (y xs q) p
 · have e : i = xs.length := by omega
   subst e
   exact .inl ⟨⟨xs, q, Nat.le_refl _⟩, hd σ H p⟩
theorem for_tup {K : PySem.W.Frag} {a : Addr} {xs : List V} {g : TG} {tb : TS} {D : Ends} {σ : St} {H : Hp} (Pv : Nat -> St -> Hp -> Prop) (h0 : Pv 0 σ H) (hl : ∀ i σ H, i <= xs.length -> Pv i σ H -> SqT K H a xs)
   (hs : ∀ i x σ H, xs[i]? = some x -> Pv i σ H -> g x σ H fun σ2 H2 => tb { D with nx := Pv (i + 1), ct := Pv (i + 1), bk := D.nx } σ2 H2) (hd : ∀ σ H, Pv xs.length σ H -> D.nx σ H) :
   ∃ W : Nat -> Nat -> St -> Hp -> Prop, (∃ m, W 0 m σ H) /\ ∀ i m σ H, W i m σ H ->
     ((Itt K a).stop i H /\ D.nx σ H) \/ ((Itt K a).go i H /\ ∃ N : St -> Hp -> Prop, (∀ σ' H', N σ' H' -> ∃ m', m' < m /\ W (i + 1) m' σ' H') /\ ∀ x H', (Itt K a).yld i H x H' -> g x σ H' fun σ2 H2 => tb { D with nx := N, ct := N, bk := D.nx } σ2 H2) := by
 refine ⟨fun i m σ H => m = xs.length - i /\ i <= xs.length /\ Pv i σ H, ⟨xs.length, by simp, Nat.zero_le _, h0⟩, ?_⟩
 rintro i m σ H ⟨rfl, hi, p⟩
 have q := hl i σ H hi p
 by_cases hlt : i < xs.length
 · refine .inr ⟨⟨xs, xs[i], q, by simp [hlt]⟩, Pv (i + 1), fun σ' H' p' => ⟨xs.length - (i + 1), by omega, rfl, hlt, p'⟩, fun x H' y => ?_⟩
   obtain ⟨e, y⟩ := y
   subst e
   exact hs i x σ _ (y xs q) p
 · have e : i = xs.length := by omega
   subst e
   exact .inl ⟨⟨xs, q, Nat.le_refl _⟩, hd σ H p⟩
theorem for_range {lo : Int} {n : Nat} {g : TG} {tb : TS} {D : Ends} {σ : St} {H : Hp} (Pv : Nat -> St -> Hp -> Prop) (h0 : Pv 0 σ H)
   (hs : ∀ i σ H, i < n -> Pv i σ H -> g (.int (lo + i)) σ H fun σ2 H2 => tb { D with nx := Pv (i + 1), ct := Pv (i + 1), bk := D.nx } σ2 H2) (hd : ∀ σ H, Pv n σ H -> D.nx σ H) :
   ∃ W : Nat -> Nat -> St -> Hp -> Prop, (∃ m, W 0 m σ H) /\ ∀ i m σ H, W i m σ H ->
     ((Itr lo n).stop i H /\ D.nx σ H) \/ ((Itr lo n).go i H /\ ∃ N : St -> Hp -> Prop, (∀ σ' H', N σ' H' -> ∃ m', m' < m /\ W (i + 1) m' σ' H') /\ ∀ x H', (Itr lo n).yld i H x H' -> g x σ H' fun σ2 H2 => tb { D with nx := N, ct := N, bk := D.nx } σ2 H2) := by
 refine ⟨fun i m σ H => m = n - i /\ i <= n /\ Pv i σ H, ⟨n, by simp, Nat.zero_le _, h0⟩, ?_⟩
 rintro i m σ H ⟨rfl, hi, p⟩
 by_cases hlt : i < n
 · refine .inr ⟨hlt, Pv (i + 1), fun σ' H' p' => ⟨n - (i + 1), by omega, rfl, hlt, p'⟩, fun x H' y => ?_⟩
   obtain ⟨e, y⟩ := y
   subst e y
   exact hs i σ _ hlt p
 · have e : i = n := by omega
   subst e
   exact .inl ⟨Nat.le_refl _, hd σ H p⟩
abbrev R2 := V -> V -> Hp -> VK -> Prop
def OpR (X : Cx) (f : Value -> Value -> Sem Value) (r : R2) : Prop :=
 ∀ (pins : List (Addr × Obj)) (s : Shared) (σ : St) (H : Hp) (x y : V) (v u : Value) (Q : VK), Inv X pins σ H s -> RelV x v -> RelV y u -> r x y H Q ->
   wpAny (model X.prog X.w) X.A (f v u) (EP X pins σ Q) X.xe s
def UnR (X : Cx) (f : Value -> Sem Value) (r : V -> Hp -> VK -> Prop) : Prop :=
 ∀ (pins : List (Addr × Obj)) (s : Shared) (σ : St) (H : Hp) (x : V) (v : Value) (Q : VK), Inv X pins σ H s -> RelV x v -> r x H Q ->
   wpAny (model X.prog X.w) X.A (f v) (EP X pins σ Q) X.xe s
def yW (X : Cx) (f : Value) (r : List V -> Hp -> VK -> Prop) : Prop :=
 ∀ (pins : List (Addr × Obj)) (s : Shared) (σ : St) (H : Hp) (xs : List V) (us : List Value) (Q : VK), Inv X pins σ H s -> Vals xs us -> r xs H Q ->
   wpAny (model X.prog X.w) X.A (call f us) (EP X pins σ Q) X.xe s
def tOp (r : R2) (ta tb : TE) : TE := fun σ H Q => ta σ H fun x H1 => tb σ H1 fun y H2 => r x y H2 Q
def tUn (r : V -> Hp -> VK -> Prop) (ta : TE) : TE := fun σ H Q => ta σ H fun x H1 => r x H1 Q
def rI (C : Int -> Int -> Prop) (g : Int -> Int -> V) : R2 := fun x y H Q => ∃ i j, x = .int i /\ y = .int j /\ C i j /\ Q (g i j) H
def rI0 (g : Int -> Int -> V) : R2 := fun x y H Q => ∃ i j, x = .int i /\ y = .int j /\ Q (g i j) H
def rU (g : Int -> V) : V -> Hp -> VK -> Prop := fun x H Q => ∃ i, x = .int i /\ Q (g i) H
section
variable {X : Cx} {a b c : Expr} {ta tb tc : TE} {pos : Pos}
theorem binT (ha : PE X a ta) (hb : PE X b tb) {pins : List (Addr × Obj)} {s : Shared} {σ : St} {H : Hp} {R : V -> V -> Hp -> Prop} (I : Inv X pins σ H s)
   (h : ta σ H fun x H1 => tb σ H1 fun y H2 => R x y H2) {Q : Value -> Shared -> Prop} {f : Value -> Value -> Sem Value}
   (hf : ∀ v u s2 x y H2, Inv X pins σ H2 s2 -> RelV x v -> RelV y u -> R x y H2 -> wpAny (model X.prog X.w) X.A (f v u) Q X.xe s2) :
   wpAny (model X.prog X.w) X.A (eval a X.env) (fun v s₁ => wpAny (model X.prog X.w) X.A (eval b X.env) (fun u s₂ => wpAny (model X.prog X.w) X.A (f v u) Q X.xe s₂) X.xe s₁) X.xe s := by
 refine thn (ha pins s σ H _ I h) fun v s1 ⟨x, H1, I1, r1, q1⟩ => ?_
 refine thn (hb pins s1 σ H1 _ I1 q1) fun u s2 ⟨y, H2, I2, r2, q2⟩ => ?_
 exact hf v u s2 x y H2 I2 r1 r2 q2
theorem zJ {op : Operator} {r : R2} (ho : OpR X (binaryOp op) r) (ha : PE X a ta) (hb : PE X b tb) : PE X (.BinOp a op b pos) (tOp r ta tb) := by
 intro pins s σ H Q I h
 exact wpAny_BinOp (binT ha hb I h fun v u s2 x y H2 I2 rx ry q => ho pins s2 σ H2 x y v u Q I2 rx ry q)
theorem pe_un {op : UnaryOp} {r : V -> Hp -> VK -> Prop} (ho : UnR X (unaryOp op) r) (ha : PE X a ta) : PE X (.UnaryOp op a pos) (tUn r ta) := by
 intro pins s σ H Q I h
 exact UnaryOp_ (thn (ha pins s σ H _ I h) fun v s1 ⟨x, H1, I1, r1, q1⟩ => ho pins s1 σ H1 x v Q I1 r1 q1)
theorem opI {f : Value -> Value -> Sem Value} {C : Int -> Int -> Prop} {g : Int -> Int -> Int}
   (rule : ∀ (i j : Int) (t u : Tok) (s : Shared) (Q : Value -> Shared -> Prop) (E : Value -> Shared -> Prop), C i j -> Q (.int (g i j) s.toks) { s with toks := s.toks + 1 } -> wpAny (model X.prog X.w) X.A (f (.int i t) (.int j u)) Q E s) :
   OpR X f (rI C fun i j => .int (g i j)) := by
 intro pins s σ H x y v u Q I rx ry h
 obtain ⟨i, j, rfl, rfl, hc, q⟩ := h
 obtain ⟨t, rfl⟩ := rx
 obtain ⟨t', rfl⟩ := ry
 exact rule i j t t' s _ _ hc ⟨.int (g i j), H, I.tok _, ⟨_, rfl⟩, q⟩
theorem opI0 {f : Value -> Value -> Sem Value} {g : Int -> Int -> Int}
   (rule : ∀ (i j : Int) (t u : Tok) (s : Shared) (Q : Value -> Shared -> Prop) (E : Value -> Shared -> Prop), Q (.int (g i j) s.toks) { s with toks := s.toks + 1 } -> wpAny (model X.prog X.w) X.A (f (.int i t) (.int j u)) Q E s) :
   OpR X f (rI0 fun i j => .int (g i j)) := by
 intro pins s σ H x y v u Q I rx ry h
 obtain ⟨i, j, rfl, rfl, q⟩ := h
 obtain ⟨t, rfl⟩ := rx
 obtain ⟨t', rfl⟩ := ry
 exact rule i j t t' s _ _ ⟨.int (g i j), H, I.tok _, ⟨_, rfl⟩, q⟩
theorem opB0 {f : Value -> Value -> Sem Value} {g : Int -> Int -> Bool}
   (rule : ∀ (i j : Int) (t u : Tok) (s : Shared) (Q : Value -> Shared -> Prop) (E : Value -> Shared -> Prop), Q (.bool (g i j)) s -> wpAny (model X.prog X.w) X.A (f (.int i t) (.int j u)) Q E s) :
   OpR X f (rI0 fun i j => .bl (g i j)) := by
 intro pins s σ H x y v u Q I rx ry h
 obtain ⟨i, j, rfl, rfl, q⟩ := h
 obtain ⟨t, rfl⟩ := rx
 obtain ⟨t', rfl⟩ := ry
 exact rule i j t t' s _ _ ⟨.bl (g i j), H, I, rfl, q⟩
def CDiv (i j : Int) : Prop := 0 < j /\ j < 1073741824
def CPow (i j : Int) : Prop := 0 <= j /\ j <= 1000000 /\ i.natAbs < 2 ^ 64
def CMul (i j : Int) : Prop := (-(2 ^ 64) < i /\ i < 2 ^ 64) \/ (-(2 ^ 64) < j /\ j < 2 ^ 64)
theorem CMul.ok {i j : Int} (h : CMul i j) : IntMulOk i j := by
 rcases h with ⟨h1, h2⟩ | ⟨h1, h2⟩
 · exact .of_left (intBits_le_64 h1 h2)
 · exact .of_right (intBits_le_64 h1 h2)
theorem op_add : OpR X (binaryOp .Add) (rI0 fun i j => .int (i + j)) := opI0 fun _ _ _ _ _ _ _ q => add_int q
theorem op_sub : OpR X (binaryOp .Sub) (rI0 fun i j => .int (i - j)) := opI0 fun _ _ _ _ _ _ _ q => sub_int q
theorem op_mul : OpR X (binaryOp .Mult) (rI CMul fun i j => .int (i * j)) := opI fun _ _ _ _ _ _ _ hc q => mul_int q hc.ok
theorem op_fdiv : OpR X (binaryOp .FloorDiv) (rI CDiv fun i j => .int (i / j)) := opI fun i j _ _ _ _ _ hc q => by
 have h1 : (0 : Int) < j := hc.1
 have h2 : j < 1073741824 := hc.2
 exact floordiv_int (by omega) (by rw [Int.fdiv_eq_ediv_of_nonneg i (by omega)]; exact q) (.inl (PyProof.noPylong_small (by omega)))
theorem op_mod : OpR X (binaryOp .Mod) (rI (fun _ j => 0 < j) fun i j => .int (i % j)) := opI fun i j _ _ _ _ _ hc q => by
 have h1 : (0 : Int) < j := hc
 exact mod_int' (by omega) (by rw [Int.fmod_eq_emod_of_nonneg i (by omega)]; exact q)
theorem op_pow : OpR X (binaryOp .Pow) (rI CPow fun i j => .int (i ^ j.toNat)) := opI fun _ _ _ _ _ _ _ hc q => pow_int_small hc.1 hc.2.1 hc.2.2 q
theorem op_xor : OpR X (binaryOp .BitXor) (rI0 fun i j => .int (Builtin.bitXor i j)) := opI0 fun _ _ _ _ _ _ _ q => xor_int q
theorem unI {f : Value -> Sem Value} {g : Int -> Int}
   (rule : ∀ (i : Int) (t : Tok) (s : Shared) (Q : Value -> Shared -> Prop) (E : Value -> Shared -> Prop), Q (.int (g i) s.toks) { s with toks := s.toks + 1 } -> wpAny (model X.prog X.w) X.A (f (.int i t)) Q E s) :
   UnR X f (rU fun i => .int (g i)) := by
 intro pins s σ H x v Q I rx h
 obtain ⟨i, rfl, q⟩ := h
 obtain ⟨t, rfl⟩ := rx
 exact rule i t s _ _ ⟨.int (g i), H, I.tok _, ⟨_, rfl⟩, q⟩
theorem un_neg : UnR X (unaryOp .USub) (rU fun i => .int (-i)) := unI fun _ _ _ _ _ q => neg_int q
end
def scal : V -> V -> Bool
 | .non, .non => true | .non, .int _ => true | .int _, .non => true | .non, .bl _ => true | .bl _, .non => true | .non, .str _ => true | .str _, .non => true
 | .int _, .int _ => true | .bl _, .bl _ => true | .str _, .str _ => true | .byt _, .byt _ => true
 | .int _, .str _ => true | .str _, .int _ => true | .bl _, .str _ => true | .str _, .bl _ => true
 | _, _ => false
def rEq : R2 := fun x y H Q => scal x y = true /\ Q (.bl (decide (x = y))) H
def rNe : R2 := fun x y H Q => scal x y = true /\ Q (.bl (!decide (x = y))) H
theorem dec_int {i j : Int} : decide (V.int i = V.int j) = (i == j) := by
 rw [Bool.eq_iff_iff]
 simp
theorem dec_bl {i j : Bool} : decide (V.bl i = V.bl j) = (i == j) := by
 rw [Bool.eq_iff_iff]
 simp
theorem dec_str {i j : Str} : decide (V.str i = V.str j) = (i == j) := by
 rw [Bool.eq_iff_iff]
 simp
theorem dec_byt {i j : Array UInt8} : decide (V.byt i = V.byt j) = (i.toList == j.toList) := by
 rw [Bool.eq_iff_iff]
 cases i
 cases j
 simp
section
variable {X : Cx} {a b c : Expr} {ta tb tc : TE} {pos : Pos}
theorem zR {pins : List (Addr × Obj)} {σ : St} {H : Hp} {s : Shared} {Q : VK} {k k' : Bool} (I : Inv X pins σ H s) (q : Q (.bl k) H) (e : k = k') : EP X pins σ Q (.bool k') s := by
 subst e
 exact ⟨.bl k, H, I, rfl, q⟩
theorem op_eq : OpR X (compareOp .Eq) rEq := by
 intro pins s σ H x y v u Q I rx ry h
 obtain ⟨hs, q⟩ := h
 cases x with
 | non =>
   cases rx
   cases y with
   | non => cases ry; exact PySem.EqNone.eq_none_none (zR I q (by simp))
   | bl j => cases ry; exact PySem.EqNone.eq_none_bool (zR I q (by simp))
   | int j => obtain ⟨t', rfl⟩ := ry; exact PySem.EqNone.eq_none_int (zR I q (by simp))
   | str j => obtain ⟨t', rfl⟩ := ry; exact PySem.EqNone.eq_none_str (zR I q (by simp))
   | _ => exact absurd (show false = true from hs) Bool.false_ne_true
 | bl i =>
   cases rx
   cases y with
   | non => cases ry; exact PySem.EqNone.eq_bool_none (zR I q (by simp))
   | bl j => cases ry; exact eq_bool (zR I q dec_bl)
   | str j => obtain ⟨t', rfl⟩ := ry; exact PySem.EqMixed.eq_bool_str (zR I q (by simp))
   | _ => exact absurd (show false = true from hs) Bool.false_ne_true
 | int i =>
   obtain ⟨t, rfl⟩ := rx
   cases y with
   | non => cases ry; exact PySem.EqNone.eq_int_none (zR I q (by simp))
   | int j => obtain ⟨t', rfl⟩ := ry; exact eq_int (zR I q dec_int)
   | str j => obtain ⟨t', rfl⟩ := ry; exact PySem.EqMixed.eq_int_str (zR I q (by simp))
   | _ => exact absurd (show false = true from hs) Bool.false_ne_true
 | str i =>
   obtain ⟨t, rfl⟩ := rx
   cases y with
   | non => cases ry; exact PySem.EqNone.eq_str_none (zR I q (by simp))
   | bl j => cases ry; exact PySem.EqMixed.eq_str_bool (zR I q (by simp))
   | int j => obtain ⟨t', rfl⟩ := ry; exact PySem.EqMixed.eq_str_int (zR I q (by simp))
   | str j => obtain ⟨t', rfl⟩ := ry; exact eq_str (zR I q dec_str)
   | _ => exact absurd (show false = true from hs) Bool.false_ne_true
 | byt i =>
   obtain ⟨t, rfl⟩ := rx
   cases y with
   | byt j => obtain ⟨t', rfl⟩ := ry; exact PySem.W.eq_bytes (zR I q dec_byt)
   | _ => exact absurd (show false = true from hs) Bool.false_ne_true
 | _ => cases y <;> exact absurd (show false = true from hs) Bool.false_ne_true
theorem op_ne : OpR X (compareOp .NotEq) rNe := by
 intro pins s σ H x y v u Q I rx ry h
 obtain ⟨hs, q⟩ := h
 cases x with
 | non =>
   cases rx
   cases y with
   | non => cases ry; exact PySem.EqNone.ne_none_none (zR I q (by simp))
   | bl j => cases ry; exact PySem.EqNone.ne_none_bool (zR I q (by simp))
   | int j => obtain ⟨t', rfl⟩ := ry; exact PySem.EqNone.ne_none_int (zR I q (by simp))
   | str j => obtain ⟨t', rfl⟩ := ry; exact PySem.EqNone.ne_none_str (zR I q (by simp))
   | _ => exact absurd (show false = true from hs) Bool.false_ne_true
 | bl i =>
   cases rx
   cases y with
   | non => cases ry; exact PySem.EqNone.ne_bool_none (zR I q (by simp))
   | bl j => cases ry; exact ne_bool (zR I q (congrArg not dec_bl))
   | str j => obtain ⟨t', rfl⟩ := ry; exact PySem.EqMixed.ne_bool_str (zR I q (by simp))
   | _ => exact absurd (show false = true from hs) Bool.false_ne_true
 | int i =>
   obtain ⟨t, rfl⟩ := rx
   cases y with
   | non => cases ry; exact PySem.EqNone.ne_int_none (zR I q (by simp))
   | int j => obtain ⟨t', rfl⟩ := ry; exact ne_int (zR I q (congrArg not dec_int))
   | str j => obtain ⟨t', rfl⟩ := ry; exact PySem.EqMixed.ne_int_str (zR I q (by simp))
   | _ => exact absurd (show false = true from hs) Bool.false_ne_true
 | str i =>
   obtain ⟨t, rfl⟩ := rx
   cases y with
   | non => cases ry; exact PySem.EqNone.ne_str_none (zR I q (by simp))
   | bl j => cases ry; exact PySem.EqMixed.ne_str_bool (zR I q (by simp))
   | int j => obtain ⟨t', rfl⟩ := ry; exact PySem.EqMixed.ne_str_int (zR I q (by simp))
   | str j => obtain ⟨t', rfl⟩ := ry; exact ne_str (zR I q (congrArg not dec_str))
   | _ => exact absurd (show false = true from hs) Bool.false_ne_true
 | byt i =>
   obtain ⟨t, rfl⟩ := rx
   cases y with
   | byt j => obtain ⟨t', rfl⟩ := ry; exact PySem.W.ne_bytes (zR I q (congrArg not dec_byt))
   | _ => exact absurd (show false = true from hs) Bool.false_ne_true
 | _ => cases y <;> exact absurd (show false = true from hs) Bool.false_ne_true
theorem op_lt : OpR X (compareOp .Lt) (rI0 fun i j => .bl (decide (i < j))) := opB0 fun _ _ _ _ _ _ _ q => lt_int q
theorem op_gt : OpR X (compareOp .Gt) (rI0 fun i j => .bl (decide (j < i))) := opB0 fun _ _ _ _ _ _ _ q => gt_int q
theorem op_isN : OpR X (compareOp .Is) (fun x y H Q => y = .non /\ Q (.bl (decide (x = .non))) H) := by
 intro pins s σ H x y v u Q I rx ry h
 obtain ⟨rfl, q⟩ := h
 cases ry
 refine is_none_gen (zR I q ?_)
 cases x <;> first
   | (cases rx; rfl)
   | (obtain ⟨t, rfl⟩ := rx; rfl)
theorem zP (b : Expr) {op : CmpOp} (h : op ≠ .In := by decide) (h2 : op ≠ .NotIn := by decide) : behindInMarks op b = false := by
 have e1 : (op == CmpOp.In) = false := by cases op <;> first | rfl | exact absurd rfl h
 have e2 : (op == CmpOp.NotIn) = false := by cases op <;> first | rfl | exact absurd rfl h2
 cases b <;> simp [behindInMarks, e1, e2]
theorem xW {op : CmpOp} {r : R2} (ho : OpR X (compareOp op) r) (ha : PE X a ta) (hb : PE X b tb) (hm : behindInMarks op b = false) : PE X (.Compare a [op] [b] pos) (tOp r ta tb) := by
 intro pins s σ H Q I h
 exact wpAny_Compare1 (binT ha hb I h fun v u s2 x y H2 I2 rx ry q => ho pins s2 σ H2 x y v u Q I2 rx ry q) hm
def tTest (t : TE) : TT := fun σ H Q => t σ H fun x H' => ∃ k, x = .bl k /\ Q k H'
theorem zK {op : CmpOp} {r : R2} (ho : OpR X (compareOp op) r) (ha : PE X a ta) (hb : PE X b tb) (hm : behindInMarks op b = false) : PT X (.Compare a [op] [b] pos) (tTest (tOp r ta tb)) := by
 intro pins s σ H Q I h
 refine wpAny_isTrue_Compare1 (thn (ha pins s σ H _ I h) fun v s1 ⟨x, H1, I1, r1, q1⟩ => thn (hb pins s1 σ H1 _ I1 q1) fun u s2 ⟨y, H2, I2, r2, q2⟩ =>
   thn (ho pins s2 σ H2 x y v u _ I2 r1 r2 q2) fun c s3 ⟨z, H3, I3, r3, k, e, q3⟩ => ?_) hm
 subst e
 cases r3
 exact wpAny_truthy_bool ⟨H3, I3, q3⟩
def tChain (r r' : R2) (ta tb tc : TE) : TE := fun σ H Q => ta σ H fun x H1 => tb σ H1 fun y H2 => r x y H2 fun z H3 => ∃ k, z = .bl k /\
 (if k = true then tc σ H3 fun w' H4 => r' y w' H4 Q else Q (.bl false) H3)
theorem line63 : (sizeLine : Nat) < 2 ^ 63 := by rw [sizeLine_eq]; decide
theorem op_add_str : OpR X (binaryOp .Add) (fun x y H Q => ∃ i j, x = .str i /\ y = .str j /\ i.length + j.length <= sizeLine /\ Q (.str (i ++ j)) H) := by
 intro pins s σ H x y v u Q I rx ry h
 obtain ⟨i, j, rfl, rfl, hz, q⟩ := h
 obtain ⟨t, rfl⟩ := rx
 obtain ⟨t', rfl⟩ := ry
 exact add_str (fun t' tk => ⟨.str (i ++ j), H, I.tok _, ⟨_, rfl⟩, q⟩) hz
theorem vals1 {x : V} {us : List Value} (r : Vals [x] us) : ∃ u, us = [u] /\ RelV x u := by
 cases r with
 | cons r1 r2 => cases r2; exact ⟨_, rfl, r1⟩
theorem vals2 {x y : V} {us : List Value} (r : Vals [x, y] us) : ∃ u w', us = [u, w'] /\ RelV x u /\ RelV y w' := by
 cases r with
 | cons r1 r2 =>
   cases r2 with
   | cons r3 r4 => cases r4; exact ⟨_, _, rfl, r1, r3⟩
def LenV (K : PySem.W.Frag) (x : V) (H : Hp) (n : Nat) : Prop :=
 match x with
 | .str y => y.length <= sizeLine /\ n = y.length
 | .byt y => y.size <= sizeLine /\ n = y.size
 | .ref p => (∃ xs, SqL K H p xs /\ n = xs.length) \/ ∃ xs, SqT K H p xs /\ n = xs.length
 | _ => False
theorem call_len : yW X (.builtin "len") (fun xs H Q => ∃ x n, xs = [x] /\ LenV X.K x H n /\ Q (.int n) H) := by
 intro pins s σ H xs us Q I r h
 obtain ⟨x, n, rfl, e, q⟩ := h
 obtain ⟨u, rfl, rx⟩ := vals1 r
 have hl := line63
 have hs : sizeLine = 16777216 := sizeLine_eq
 cases x with
 | str y =>
   obtain ⟨t, rfl⟩ := rx
   obtain ⟨hy, e'⟩ : y.length <= sizeLine /\ n = y.length := e
   subst e'
   exact len_str (by omega) ⟨.int _, H, I.tok _, ⟨_, rfl⟩, q⟩
 | byt y =>
   obtain ⟨t, rfl⟩ := rx
   obtain ⟨hy, e'⟩ : y.size <= sizeLine /\ n = y.size := e
   subst e'
   exact PySem.W.len_bytes (by omega) ⟨.int _, H, I.tok _, ⟨_, rfl⟩, q⟩
 | ref p =>
   cases rx
   have e' : (∃ xs, SqL X.K H p xs /\ n = xs.length) \/ ∃ xs, SqT X.K H p xs /\ n = xs.length := e
   rcases e' with ⟨xs, hx, e'⟩ | ⟨xs, hx, e'⟩
   · subst e'
     obtain ⟨its, r', pl, hz⟩ := I.list hx
     have hlen := r'.length
     exact Calls.call_len_list pl.isList (by simp only [List.size_toArray]; omega) ⟨.int xs.length, H, I.tok _, ⟨_, by simp only [List.size_toArray]; rw [hlen]⟩, q⟩
   · subst e'
     obtain ⟨its, r', pl, hz⟩ := I.tuple hx
     have hlen := r'.length
     exact len_tuple pl (by simp only [List.size_toArray]; omega) ⟨.int xs.length, H, I.tok _, ⟨_, by simp only [List.size_toArray]; rw [hlen]⟩, q⟩
 | _ => exact (show False from e).elim
end
structure ObjM (h : Heap) (x dx C : Addr) (mA : Str -> Option Value) : Prop where
 obj : h.get? x = some (PySem.W.instObj C dx)
 ns : h.Ns1 dx mA
 ne : dx ≠ x
theorem lookIn_ns {h : Heap} {dx : Addr} {mA : Str -> Option Value} (n : h.Ns1 dx mA) : ∃ od, h.get? dx = some od /\ ∀ name, PySem.W.lookIn name od = some (mA name) := by
 obtain ⟨o, es, ep, ho, hd, hk, _, hm⟩ := n
 refine ⟨o, ho, fun name => ?_⟩
 have e := hm name
 unfold nsFind findBy at e
 rw [← Array.find?_toList] at e
 unfold PySem.W.lookIn
 rw [hd]
 dsimp only
 split
 · rename_i y q
   rw [q] at e
   exact congrArg some e
 · rename_i q
   rw [q] at e
   have a : es.toList.any (·.refKey) = false := by
     rw [List.any_eq_false]
     intro y hy
     obtain ⟨z, t, hkey⟩ := hk y (Array.mem_toList_iff.mp hy)
     simp [DictEntry.refKey, hkey]
   have a' : ¬ es.toList.any (·.refKey) = true := by rw [a]; exact Bool.false_ne_true
   rw [if_neg a']
   exact congrArg some e
theorem ObjM.look {h : Heap} {x dx C : Addr} {mA : Str -> Option Value} (I : ObjM h x dx C mA) : ∃ od, PySem.W.InstAt h x (PySem.W.instObj C dx) C (some od) /\ ∀ name, PySem.W.lookIn name od = some (mA name) :=
 let ⟨od, ho, hl⟩ := lookIn_ns I.ns
 ⟨od, ⟨I.obj, rfl, rfl, ho⟩, hl⟩
section
variable {prog : Program} {w : World} {A : Around} {E : Value -> Shared -> Prop} {s : Shared} {K : PySem.W.Frag} {x dx C f : Addr} {mA : Str -> Option Value} {name : Str} {v : Value}
end
theorem RelO.some_of {v : V} {o : Option Value} (r : RelO (some v) o) : ∃ u, o = some u /\ RelV v u := by
 cases o with
 | none => exact (show False from r).elim
 | some u => exact ⟨u, rfl, r⟩
section
variable {P : Program} {w : World} {H H' : Hp} {h h' : Heap} {a C dx : Addr} {fs fs' : List (Str × V)}
theorem ins_get (hok : HOk P w H h) (e : H a = some (.ins C dx fs)) : ∃ mA, ObjM h a dx C mA /\ (∀ f, RelO (fs.lookup f) (mA f)) /\ PySem.Within mA (fs.map (·.1)) /\ fs.length <= 1000 /\ H dx = some (.own a) := by
 obtain ⟨d, z, ne, ob, mA, n, r, q⟩ := (show ObjOk P w H h a (.ins C dx fs) from hok a _ e)
 exact ⟨mA, ⟨ob, n, ne⟩, r, q, z, d⟩
end
structure Cls (K : PySem.W.Frag) (C : Addr) : Prop where
 pg : PySem.W.plainGet K C Str.empty = true
 hd : PySem.W.hasDictIn K C = true
 po : PySem.W.plainOver K C = true
 sa : PySem.W.findIn K (.ref C) "__setattr__" = some (some (.builtin "object.__setattr__"))
theorem Cls.get {K : PySem.W.Frag} {C : Addr} (c : Cls K C) (f : Str) : PySem.W.plainGet K C f = true := c.pg
structure Con (K : PySem.W.Frag) (C : Addr) (f : Str) (v : V) (u : Value) : Prop where
 at_ : PySem.W.findIn K (.ref C) f = some (some u)
 rel : RelV v u
 get : PySem.W.specialIn K u "__get__" = some none
 cp : PySem.W.copiedNames.contains f = false
structure Meth (K : PySem.W.Frag) (C : Addr) (m : Str) (f : Addr) : Prop where
 at_ : PySem.W.findIn K (.ref C) m = some (some (.ref f))
 fn : PySem.W.isFn K (.ref f) = true
 kp : PySem.W.keepIn K (.ref f) = true
section
variable {X : Cx} {pins : List (Addr × Obj)} {σ : St} {H : Hp} {s : Shared} {a C dx : Addr} {fs : List (Str × V)} {f : Str} {v : V} {A : Around} {E : Value -> Shared -> Prop}
end
section
variable {X : Cx} {o e value : Expr} {f : Str} {pos pos' tpos : Pos} {ta tv : TE}
end
section
variable {X : Cx} {pins : List (Addr × Obj)} {σ : St} {H : Hp} {s : Shared} {A : Around} {E : Value -> Shared -> Prop} {Q : Value -> Shared -> Prop} {c : Value} {b : Bool}
inductive TyOf (K : PySem.W.Frag) (H : Hp) : V -> Value -> Prop where
 | non : TyOf K H .non (.type "NoneType")
 | bl (x : Bool) : TyOf K H (.bl x) (.type "bool")
 | int (i : Int) : TyOf K H (.int i) (.type "int")
 | str (x : Str) : TyOf K H (.str x) (.type "str")
 | flt (x : UInt64) : TyOf K H (.flt x) (.type "float")
 | lst {a : Addr} {xs : List V} (e : H a = some (.lst xs)) : TyOf K H (.ref a) (.type "list")
 | frz {a : Addr} {o : Obj} {xs : List V} (e : H a = some (.frz o (.lst xs))) : TyOf K H (.ref a) (.type "list")
 | tup {a : Addr} {xs : List V} (e : H a = some (.tup xs)) : TyOf K H (.ref a) (.type "tuple")
 | dK {a : Addr} {kvs : List (Key × V)} (e : H a = some (.dK kvs)) : TyOf K H (.ref a) (.type "dict")
 | dT {a : Addr} {kvs : List (List Key × V)} (e : H a = some (.dT kvs)) : TyOf K H (.ref a) (.type "dict")
 | ins {a C dx : Addr} {fs : List (Str × V)} (e : H a = some (.ins C dx fs)) (cl : Cls K C) (ha : PySem.W.findIn K (.ref C) "__class__" = some (some (.builtin "object.__class__")))
     (hn : PySem.W.specialIn K (.builtin "object.__class__") "__get__" = some (some (.builtin "getset_descriptor.__get__"))) (htk : PySem.W.takesIn K (.builtin "object.__class__") = some true)
     (hm : PySem.W.mroIn K C (.type "object") = some true) : TyOf K H (.ref a) (.ref C)
theorem isinst_ok {x : V} {u t : Value} (I : Inv X pins σ H s) (rx : RelV x u) (ty : TyOf X.K H x t) (e : PySem.W.kitOne X.K t c = some b) (h : ∀ tk, Q (.bool b) { s with toks := tk }) :
   wpAny (model X.prog X.w) A (call (.builtin "isinstance") [u, c]) Q E s := by
 cases ty with
 | non => cases (show u = Value.none from rx); exact PySem.W.kia_one PySem.W.kitx_none I.kIn True.intro e (fun z => nomatch z) h
 | bl y => cases (show u = Value.bool y from rx); exact PySem.W.kia_one PySem.W.kitx_bool I.kIn True.intro e (fun z => nomatch z) h
 | int i => obtain ⟨t, q⟩ := (show ∃ t, u = Value.int i t from rx); cases q; exact PySem.W.kia_one PySem.W.kitx_int I.kIn True.intro e (fun z => nomatch z) h
 | str y => obtain ⟨t, q⟩ := (show ∃ t, u = Value.str y t from rx); cases q; exact PySem.W.kia_one PySem.W.kitx_str I.kIn True.intro e (fun z => nomatch z) h
 | flt y => obtain ⟨t, q⟩ := (show ∃ t, u = Value.float y t from rx); cases q; exact PySem.W.kia_one PySem.W.kitx_float I.kIn True.intro e (fun z => nomatch z) h
 | @lst a xs ea =>
   cases (show u = Value.ref a from rx)
   obtain ⟨_, _, n, _, h1⟩ := (show ObjOk X.prog X.w H s.heap a (.lst xs) from I.hok a _ ea)
   exact PySem.W.kia_one PySem.W.kitx_list I.kIn ⟨_, h1, rfl⟩ e (fun z => nomatch z) h
 | @frz a ob xs ea =>
   cases (show u = Value.ref a from rx)
   obtain ⟨_, _, _, n, _, h1⟩ := (show ObjOk X.prog X.w H s.heap a (.frz ob (.lst xs)) from I.hok a _ ea)
   exact PySem.W.kia_one PySem.W.kitx_list I.kIn ⟨_, h1, rfl⟩ e (fun z => nomatch z) h
 | @tup a xs ea =>
   cases (show u = Value.ref a from rx)
   obtain ⟨_, _, _, p⟩ := (show ObjOk X.prog X.w H s.heap a (.tup xs) from I.hok a _ ea)
   obtain ⟨o, h1, h2, _⟩ := p
   exact PySem.W.kia_one PySem.W.kitx_tuple I.kIn ⟨o, h1, h2⟩ e (fun z => nomatch z) h
 | @dK a kvs ea =>
   cases (show u = Value.ref a from rx)
   obtain ⟨_, _, vs, _, p⟩ := (show ObjOk X.prog X.w H s.heap a (.dK kvs) from I.hok a _ ea)
   obtain ⟨o, es, ep, h1, h2, _⟩ := p
   exact PySem.W.kia_one PySem.W.kitx_dict I.kIn ⟨o, h1, h2.1⟩ e (fun z => nomatch z) h
 | @dT a kvs ea =>
   cases (show u = Value.ref a from rx)
   obtain ⟨_, _, xs, _, o, es, ep, h1, h2, _⟩ := (show ObjOk X.prog X.w H s.heap a (.dT kvs) from I.hok a _ ea)
   exact PySem.W.kia_one PySem.W.kitx_dict I.kIn ⟨o, h1, h2.1⟩ e (fun z => nomatch z) h
 | @ins a C dx fs ea cl ha hn htk hm =>
   cases (show u = Value.ref a from rx)
   obtain ⟨mA, O, _⟩ := ins_get I.hok ea
   obtain ⟨od, J, _⟩ := O.look
   exact PySem.W.kia_one (PySem.W.kitx_own (cl.get _) cl.hd ha hn htk hm) I.kIn J e (fun z => nomatch z) h
end
structure Room (k : Nat) (A : Around) : Prop where
 hd : A.handled = none
 dp : A.depth + 3 * k + 5 < recursionLimit
 un : A.units + 16 * k + 200 < cLine
theorem Room.mono {j k : Nat} {A : Around} (r : Room k A) (h : j <= k) : Room j A := ⟨r.hd, by have := r.dp; omega, by have := r.un; omega⟩
theorem Room.deeper {k : Nat} {A : Around} (r : Room (k + 1) A) (env : Env) : Room k (A.deeper env) :=
 ⟨r.hd, by have := r.dp; show A.depth + 1 + 3 * k + 5 < _; omega, by have := r.un; show A.units + 3 + 16 * k + 200 < _; omega⟩
theorem Room.depth {k : Nat} {A : Around} (r : Room k A) : A.depth < recursionLimit := by have := r.dp; omega
theorem Room.units {k : Nat} {A : Around} (r : Room k A) : A.units + 64 < cLine := by have := r.un; omega
def tNil : TA := fun _ H Q => Q [] H
def tCons (ta : TE) (tr : TA) : TA := fun σ H Q => ta σ H fun x H1 => tr σ H1 fun xs H2 => Q (x :: xs) H2
section
variable {X : Cx} {e : Expr} {es : List Expr} {te : TE} {t : TA} {pos : Pos}
theorem pa_nil : PA X [] tNil := fun _ _ _ _ H Q I h => Calls.spliced_nil ⟨[], H, I, .nil, h⟩
theorem zA (ha : PE X e te) (hr : PA X es t) (hs : starEach (e :: es) X.env = (false, eval e X.env) :: starEach es X.env := by rfl) : PA X (e :: es) (tCons te t) := by
 intro pos pins s σ H Q I h
 rw [hs]
 show wpAny _ _ (spliced ((false, eval e X.env) :: backTo pos (starEach es X.env))) _ _ s
 refine Calls.spliced_cons (thn (ha pins s σ H _ I h) fun u s1 ⟨x, H1, I1, r1, q1⟩ => ?_)
 exact thn (hr pos pins s1 σ H1 _ I1 q1) fun us s2 ⟨xs, H2, I2, r2, q2⟩ => ⟨x :: xs, H2, I2, .cons r1 r2, q2⟩
def tTup (t : TA) : TE := fun σ H Q => t σ H fun xs H1 => xs.length <= sizeLine /\ ∀ p, H1 p = none -> Q (.ref p) (upd H1 p (.tup xs))
def tLst (t : TA) : TE := fun σ H Q => t σ H fun xs H1 => xs.length <= sizeLine /\ ∀ p, H1 p = none -> Q (.ref p) (upd H1 p (.lst xs))
theorem yE {x1} (h : PA X es t) : PE X (.Tuple es x1 pos) (tTup t) := by
 intro pins s σ H Q I hq
 refine wpAny_Tuple_spliced (thn (h pos pins s σ H _ I hq) fun us s1 ⟨xs, H1, I1, r, z, q⟩ => ⟨by rw [← r.length]; exact z, ?_⟩)
 have hf : H1 s1.heap.objs.size = none := I1.hok.fresh (Nat.le_refl _)
 refine ⟨.ref s1.heap.objs.size, upd H1 s1.heap.objs.size (.tup xs), I1.laid (t' := s1.toks) (fun b u e => Heap.get?_push_of_some _ e) (Nat.le_refl _) ?_, rfl, q _ hf⟩
 exact ⟨z, us, r, ⟨_, Heap.get?_push_size _ rfl, rfl, _, rfl⟩⟩
theorem yM (h : PA X es t) : PE X (.List es pos) (tLst t) := by
 intro pins s σ H Q I hq
 refine wpAny_List_spliced (thn (h pos pins s σ H _ I hq) fun us s1 ⟨xs, H1, I1, r, z, q⟩ => ⟨by rw [← r.length]; exact z, ?_⟩)
 have hf : H1 s1.heap.objs.size = none := I1.hok.fresh (Nat.le_refl _)
 refine ⟨.ref s1.heap.objs.size, upd H1 s1.heap.objs.size (.lst xs), I1.laid (t' := s1.toks) (fun b u e => Heap.get?_push_of_some _ e) (Nat.le_refl _) ?_, rfl, q _ hf⟩
 exact ⟨z, us, 0, r, Heap.get?_push_size _ rfl⟩
end
abbrev Sp := List V -> Hp -> VK -> XK -> Prop
abbrev CXT := List Env -> Hp -> Shared -> XK -> Value -> Shared -> Prop
structure Env0 (P : Program) (w : World) (K : PySem.W.Frag) (mg : Str -> Option Value) (base : Heap) (A : Around) (outer : List Env) (s : Shared) (H : Hp) : Prop where
 frames : A.frames = some outer
 mod : Mod K mg base
 bs : ∀ b o, base.get? b = some o -> s.heap.get? b = some o /\ H b = none
 bsz : base.objs.size <= s.heap.objs.size
 funs : s.heap.FunFrames base outer
 frf : ∀ b ∈ frs outer, H b = none
 hok : HOk P w H s.heap
 bare : AllBare s.gens
def CE (outer : List Env) (P : Program) (w : World) (H : Hp) (s : Shared) (Q : VK) (u : Value) (s' : Shared) : Prop :=
 ∃ v H', s'.os = s.os /\ AllBare s'.gens /\ Un (frs outer) [] H H' s.heap s'.heap /\ HOk P w H' s'.heap /\ RelV v u /\ Q v H'
def CR (CX : CXT) (outer : List Env) (P : Program) (w : World) (H : Hp) (s : Shared) (Q : VK) (E : XK) (r : Result) (s' : Shared) : Prop :=
 match r with
 | .ok (.ret u) => CE outer P w H s Q u s'
 | .ok _ => False
 | .error e => CX outer H s E e s'
structure FnOk (P : Program) (w : World) (K : PySem.W.Frag) (mg : Str -> Option Value) (base : Heap) (CX : CXT) (k : Nat) (f : Addr) (fd : FuncData) (ps : List Str) (sp : Sp) : Prop where
 len : ∀ vs H Q E, sp vs H Q E -> vs.length = ps.length
 run : ∀ (A : Around) (outer : List Env) (s : Shared) (H : Hp) (args : Args) (us : List Value) (vs : List V) (Q : VK) (E : XK), Room k A -> Env0 P w K mg base A outer s H -> BindsTo s fd args (ps.zip us) -> Vals vs us -> sp vs H Q E ->
   codeAny (model P w) A (.call (.ref f) args) (CR CX outer P w H s Q E) s
theorem FnOk.mono {P : Program} {w : World} {K : PySem.W.Frag} {mg : Str -> Option Value} {base : Heap} {CX : CXT} {j k : Nat} {f : Addr} {fd : FuncData} {ps : List Str} {sp : Sp} (F : FnOk P w K mg base CX j f fd ps sp) (h : j <= k) :
   FnOk P w K mg base CX k f fd ps sp := ⟨F.len, fun A outer s H args us vs Q E hr => F.run A outer s H args us vs Q E (hr.mono h)⟩
section
variable {X : Cx} {pins : List (Addr × Obj)} {σ : St} {H : Hp} {s s' : Shared}
theorem Inv.env0 (I : Inv X pins σ H s) : Env0 X.prog X.w X.K X.mg X.base X.A X.stack s H :=
 ⟨I.ok.frames, I.ok.mod, I.bs, Nat.le_trans I.ok.bsz I.sz, I.stack, I.stkFree, I.hok, I.bare⟩
theorem Inv.after {Q : VK} {u : Value} (I : Inv X pins σ H s) (h : CE X.stack X.prog X.w H s Q u s') : EP X pins σ Q u s' := by
 obtain ⟨v, H', os, bare, un, hok, r, q⟩ := h
 obtain ⟨hh, g, d, t, os'⟩ := s'
 obtain rfl : os' = s.os := os
 exact ⟨v, H', I.call (h' := hh) (g' := g) (d' := d) (t' := t) (ch := []) un hok bare (fun b z => absurd z (by simp)), r, q⟩
end
def tCall (sp : Sp) (dvs : List V) (E : XK) (t : TA) : TE := fun σ H Q => t σ H fun vs H1 => sp (vs ++ dvs) H1 Q E
def Binds (K : PySem.W.Frag) (fd : FuncData) (ps : List Str) (ds : List Value) : Prop :=
 ∀ (s : Shared) (us : List Value), K.In s.heap -> (us ++ ds).length = ps.length -> BindsTo s fd ⟨us, []⟩ (ps.zip (us ++ ds))
theorem Binds.all {K : PySem.W.Frag} {fd : FuncData} {ps : List Str} (h : ∀ us : List Value, us.length = ps.length -> bindArgs fd ⟨us, []⟩ = pure (ps.zip us)) : Binds K fd ps [] := fun s us _ hl => by
 rw [List.append_nil] at hl ⊢
 exact .of_eq (h us hl)
def qN (CX : CXT) (X : Cx) (E : XK) : Prop := ∀ (pins : List (Addr × Obj)) (σ : St) (H : Hp) (s : Shared) (e : Value) (s' : Shared), Inv X pins σ H s -> CX X.stack H s E e s' -> X.xe e s'
section
variable {X : Cx} {CX : CXT} {k : Nat} {f C : Addr} {fd : FuncData} {ps : List Str} {sp : Sp} {dvs : List V} {ds : List Value} {E : XK} {x m : Str} {p pos apos : Pos} {e o : Expr} {es : List Expr} {ta : TE} {t : TA}
theorem run_fn {pins : List (Addr × Obj)} {σ : St} {H : Hp} {s : Shared} {Q : VK} {us : List Value} {vs : List V} (F : FnOk X.prog X.w X.K X.mg X.base CX k f fd ps sp) (hr : Room k X.A) (hb : Binds X.K fd ps ds) (hd : Vals dvs ds) (hx : qN CX X E)
   (I : Inv X pins σ H s) (r : Vals vs us) (h : sp (vs ++ dvs) H Q E) : wpAny (model X.prog X.w) X.A (call (.ref f) us) (EP X pins σ Q) X.xe s := by
 have r2 : Vals (vs ++ dvs) (us ++ ds) := r.append hd
 have hl : (us ++ ds).length = ps.length := by rw [← r2.length]; exact F.len _ _ _ _ h
 refine wpAny_call (codeAny_mono (F.run X.A X.stack s H ⟨us, []⟩ (us ++ ds) (vs ++ dvs) Q E hr I.env0 (hb s us I.kIn hl) r2 h) fun r s' hq => ?_)
 cases r with
 | error e => exact hx pins σ H s e s' I hq
 | ok fl =>
   cases fl with
   | ret u => exact I.after hq
   | next => exact False.elim hq
   | brk => exact False.elim hq
   | cont => exact False.elim hq
theorem pe_call (F : FnOk X.prog X.w X.K X.mg X.base CX k f fd ps sp) (hr : Room k X.A) (hg : Gl X x) (hm : X.mg x = some (.ref f)) (hk : PySem.W.keepIn X.K (.ref f) = true) (hb : Binds X.K fd ps ds) (hd : Vals dvs ds) (hx : qN CX X E)
   (ha : PA X (e :: es) t) (hdb : (x == ("__debug__" : Str)) = false := by decide) (he : starEach (e :: es) X.env = (false, eval e X.env) :: starEach es X.env := by rfl) (hpl : (backTo pos (starEach es X.env)).any (·.1) = false := by rfl) :
   PE X (.Call (.Name x p) (e :: es) [] pos) (tCall sp dvs E t) := by
 intro pins s σ H Q I h
 refine wpAny_Call_Name_kw (xH I hg hm ?_ hdb)
 refine PySem.W.callWith_K (h₀ := X.base) I.ok.mod.kin hk (thn (ha pos pins s σ H _ I h) fun us s1 ⟨vs, H1, I1, r, q⟩ => ⟨I1.kIn, ?_⟩) he hpl
 exact run_fn F hr hb hd hx I1 r q
structure Mk (K : PySem.W.Frag) (C f : Addr) : Prop where
 makes : PySem.W.makesIn K C = true
 init : PySem.W.findIn K (.ref C) "__init__" = some (some (.ref f))
 fn : PySem.W.isFn K (.ref f) = true
 kp : PySem.W.keepIn K (.ref C) = true
end
section
variable {X : Cx} {CX : CXT} {k : Nat} {f C : Addr} {fd : FuncData} {ps ks : List Str} {sp : Sp} {E : XK} {x m : Str} {p pos apos kpos : Pos} {e o : Expr} {es : List Expr} {kws : List Keyword} {te ta : TE} {t tk : TA} {nm : Option Str}
structure KBinds (K : PySem.W.Frag) (fd : FuncData) (ps ks : List Str) (g : List Value -> List Value -> List Value) (gV : List V -> List V -> List V) : Prop where
 to : ∀ (s : Shared) (us ws : List Value), K.In s.heap -> (g us ws).length = ps.length -> BindsTo s fd ⟨us, ks.zip ws⟩ (ps.zip (g us ws))
 rel : ∀ {vs : List V} {us : List Value} {zs : List V} {ws : List Value}, Vals vs us -> Vals zs ws -> Vals (gV vs zs) (g us ws)
variable {g : List Value -> List Value -> List Value} {gV : List V -> List V -> List V}
end
structure FnScope (N P : List Str) (sc : Scope) : Prop where
 kind : sc.kind = .function
 co : sc.isCoroutine = false
 gen : sc.isGenerator = false
 nd : N.Nodup
 pre : N.take P.length = P
 par : ∀ x ∈ P, sc.names.lookup x = some .local \/ sc.names.lookup x = some .cell
 nofree : ∀ y ∈ sc.names, y.2 ≠ .free
theorem jX {kindOf : Str -> Option NameKind} {x : Str} : ∀ {binds : List (Str × Value)} {m : Str -> Option Value}, (∀ v, (x, v) ∉ binds) -> bindL kindOf binds m x = m x
 | [], _, _ => rfl
 | (n, v) :: r, m, h => by
   unfold bindL
   rw [jX fun w hw => h w (List.mem_cons_of_mem _ hw)]
   split
   · have : x ≠ n := by rintro rfl; exact h v List.mem_cons_self
     simp [this]
   · rfl
theorem jZ {kindOf : Str -> Option NameKind} {x : Str} : ∀ {binds : List (Str × Value)} {m : Str -> Option Value}, (∀ v, (x, v) ∉ binds) -> bindC kindOf binds m x = m x
 | [], _, _ => rfl
 | (n, v) :: r, m, h => by
   unfold bindC
   rw [jZ fun w hw => h w (List.mem_cons_of_mem _ hw)]
   split
   · rfl
   · have : x ≠ n := by rintro rfl; exact h v List.mem_cons_self
     simp [this]
theorem jY {kindOf : Str -> Option NameKind} {x : Str} {v : Value} : ∀ {P : List Str} {vs : List Value} {i : Nat} {m : Str -> Option Value}, P.Nodup -> P[i]? = some x -> vs[i]? = some v -> kindOf x = some .local ->
   bindL kindOf (P.zip vs) m x = some v
 | [], _, _, _, _, h, _, _ => by simp at h
 | _ :: _, [], _, _, _, _, h, _ => by simp at h
 | p :: P, w :: vs, 0, m, nd, h1, h2, hk => by
   simp at h1 h2; subst h1; subst h2
   show bindL kindOf ((p, w) :: P.zip vs) m p = _
   unfold bindL
   rw [jX fun v hv => (List.nodup_cons.mp nd).1 (List.of_mem_zip hv).1, if_pos hk]
   simp
 | p :: P, w :: vs, i + 1, m, nd, h1, h2, hk => by
   show bindL kindOf ((p, w) :: P.zip vs) m x = _
   unfold bindL
   exact jY (i := i) (List.nodup_cons.mp nd).2 (by simpa using h1) (by simpa using h2) hk
theorem qA {kindOf : Str -> Option NameKind} {x : Str} {v : Value} : ∀ {P : List Str} {vs : List Value} {i : Nat} {m : Str -> Option Value}, P.Nodup -> P[i]? = some x -> vs[i]? = some v -> kindOf x ≠ some .local ->
   bindC kindOf (P.zip vs) m x = some v
 | [], _, _, _, _, h, _, _ => by simp at h
 | _ :: _, [], _, _, _, _, h, _ => by simp at h
 | p :: P, w :: vs, 0, m, nd, h1, h2, hk => by
   simp at h1 h2; subst h1; subst h2
   show bindC kindOf ((p, w) :: P.zip vs) m p = _
   unfold bindC
   rw [jZ fun v hv => (List.nodup_cons.mp nd).1 (List.of_mem_zip hv).1, if_neg hk]
   simp
 | p :: P, w :: vs, i + 1, m, nd, h1, h2, hk => by
   show bindC kindOf ((p, w) :: P.zip vs) m x = _
   unfold bindC
   exact qA (i := i) (List.nodup_cons.mp nd).2 (by simpa using h1) (by simpa using h2) hk
def start (N : List Str) (vs : List V) : St := vs.map some ++ List.replicate (N.length - vs.length) none
def yL (CX : CXT) (P : Program) (w : World) (K : PySem.W.Frag) (mg : Str -> Option Value) (base : Heap) (N : List Str) (qual : Str) (scope : Scope) (f : Addr) (cd : Value) (A : Around) (outer : List Env) (s : Shared) (H : Hp) (E : XK) : Cx where
 prog := P
 w := w
 K := K
 mg := mg
 base := base
 A := A.deeper (envOfC qual scope s.heap.objs.size f cd)
 N := N
 s₀ := s
 H₀ := H
 env := envOfC qual scope s.heap.objs.size f cd
 outer := outer
 stack := envOfC qual scope s.heap.objs.size f cd :: outer
 ex := []
 calm := true
 fn := fun _ => true
 pn := []
 xe := fun e s' => wpAny (model P w) (A.deeper (envOfC qual scope s.heap.objs.size f cd)) (leaving (envOfC qual scope s.heap.objs.size f cd) e) (fun _ s'' => CX outer H s E e s'') (fun e' s'' => CX outer H s E e' s'') s'
theorem cell_has {sc : Scope} {n : Nat} {x : Str} (h : sc.names.lookup x = some .cell) : ∃ c, (cellsFrom n sc.names []).lookup x = some c := by
 have q := PySem.W.cellsFrom_some sc.names n [] (.inl h)
 exact Option.isSome_iff_exists.mp q
theorem inv_start {CX : CXT} {P : Program} {w : World} {K : PySem.W.Frag} {mg : Str -> Option Value} {base : Heap} {N ps : List Str} {qual : Str} {scope : Scope} {f : Addr} {cd : Value} {A : Around} {outer : List Env} {s s1 : Shared} {H : Hp} {E : XK} {us : List Value} {vs : List V}
   (S : FnScope N ps scope) (hd : A.handled = none) (e0 : Env0 P w K mg base A outer s H) (hl : vs.length = ps.length) (r : Vals vs us)
   (x : InCallC s s.heap.objs.size (bindL (envOfC qual scope s.heap.objs.size f cd).kindOf (ps.zip us) fun _ => none) (cellsFrom (s.heap.objs.size + 1) scope.names []) (bindC (envOfC qual scope s.heap.objs.size f cd).kindOf (ps.zip us) fun _ => none) s1) :
   Inv (yL CX P w K mg base N qual scope f cd A outer s H E) [] (start N vs) H s1 := by
 have hpl : ps.length <= N.length := by have := congrArg List.length S.pre; rw [List.length_take] at this; omega
 obtain ⟨h1, tk, rfl, hk⟩ := x.done
 have noA : ∀ b : Addr, b ∉ (yL CX P w K mg base N qual scope f cd A outer s H E).ex := fun b z => absurd (show b ∈ ([] : List Addr) from z) (by simp)
 refine ⟨⟨e0.mod, S.kind, rfl, rfl, Nat.le_refl _, fun y z c h1 h2 => ?_, fun y hy => ?_, fun y c _ h => ?_, fun _ => hd, Around.frames_deeper e0.frames, .inr ⟨rfl, rfl⟩, fun b z => absurd z (noA b), e0.bs, e0.bsz, fun b _ _ => noA b, fun b z => absurd z (noA b), e0.funs, e0.frf⟩,
   rfl, e0.bare, Un.kept hk, ⟨_, x.toInCall.ns, fun i y v h1 h2 h3 => ?_⟩, fun y c h => ⟨_, x.cell y c h⟩, e0.hok.fresh (Nat.le_refl _), fun y c h => ?_, fun p hp => absurd (show p ∈ ([] : List (Addr × Obj)) from hp) (by simp), e0.hok.kept hk, ?_⟩
 · exact name_of_addr x.apart (PySem.mem_of_lookup h1) (PySem.mem_of_lookup h2)
 · have hy : scope.names.lookup y = some .cell \/ scope.names.lookup y = some .free := hy
   rcases hy with hy | hy
   · exact cell_has hy
   · exact absurd rfl (S.nofree _ (PySem.mem_of_lookup hy))
 · exact Nat.le_of_lt (x.above y c (PySem.mem_of_lookup h))
 · have hi : i < vs.length := by
     unfold start at h2
     by_cases hi : i < vs.length
     · exact hi
     · rw [List.getElem?_append_right (by simpa using hi)] at h2
       rw [List.getElem?_replicate] at h2
       split at h2 <;> cases h2
   have ha : vs[i]? = some v := by
     unfold start at h2
     rw [List.getElem?_append_left (by simpa using hi), List.getElem?_map] at h2
     cases e : vs[i]? with
     | none => rw [e] at h2; cases h2
     | some a => rw [e] at h2; cases h2; rfl
   obtain ⟨u, hu, rv⟩ := r.get ha
   have hp : ps[i]? = some y := by
     rw [← S.pre, List.getElem?_take_of_lt (by omega)]; exact h1
   have ndP : ps.Nodup := by rw [← S.pre]; exact S.nd.sublist (List.take_sublist _ _)
   refine ⟨u, rv, ?_⟩
   rcases S.par y (List.mem_of_getElem? hp) with k | k
   · exact .inl ⟨k, jY ndP hp hu k⟩
   · obtain ⟨c, e⟩ := cell_has (n := s.heap.objs.size + 1) k
     refine .inr ⟨.inl k, c, e, ?_⟩
     have q := x.cell y c e
     rw [qA ndP hp hu (by show scope.names.lookup y ≠ _; rw [k]; decide)] at q
     exact q
 · exact e0.hok.fresh (Nat.le_of_lt (x.above y c (PySem.mem_of_lookup h)))
 · unfold start
   show _ = N.length
   rw [List.length_append, List.length_map, List.length_replicate]
   omega
theorem fn_of {CX : CXT} {P : Program} {w : World} {K : PySem.W.Frag} {mg : Str -> Option Value} {base : Heap} {k : Nat} {f : Addr} {name qual : Str} {params : Arguments} {body : List Stmt} {scope : Scope} {dV kV doc pm cdv ct oc : Value} {an od : Option Addr}
   {osl : Array (Option Value)} {N ps : List Str} {sp : Sp} (lk : K.lookup f = some ⟨oc, od, .func (PySem.W.fnOf name qual params body scope dV kV doc pm an cdv ct), osl⟩) (hcd : PySem.W.codeIn K cdv qual = true) (S : FnScope N ps scope)
   (len : ∀ vs H Q E, sp vs H Q E -> vs.length = ps.length)
   (hbody : ∀ (A : Around) (outer : List Env) (s : Shared) (H : Hp) (vs : List V) (Q : VK) (E : XK), Room k (A.deeper (envOfC qual scope s.heap.objs.size f cdv)) -> sp vs H Q E ->
     ∃ t, PSs (yL CX P w K mg base N qual scope f cdv A outer s H E) body t /\ t { nx := fun _ H' => Q .non H', rt := Q } (start N vs) H) :
   FnOk P w K mg base CX (k + 1) f (PySem.W.fnOf name qual params body scope dV kV doc pm an cdv ct) ps sp := by
 refine ⟨len, fun A outer s H args us vs Q E hr e0 hb r hsp => ?_⟩
 have hl := len _ _ _ _ hsp
 have KX : K.In s.heap := e0.mod.kin.keeps fun b o e => (e0.bs b o e).1
 have lim : s.heap.NoLimit := e0.mod.nolimit.keeps fun b o e => (e0.bs b o e).1
 have hkind : ∀ y ∈ ps.zip us, scope.names.lookup y.1 = some .local \/ (scope.names.lookup y.1 = some .cell /\ ((cellsFrom (s.heap.objs.size + 1) scope.names []).lookup y.1).isSome = true) := fun ⟨n, v⟩ hy => by
   rcases S.par n (List.of_mem_zip hy).1 with q | q
   · exact .inl q
   · exact .inr ⟨q, PySem.W.cellsFrom_some _ _ _ (.inl q)⟩
 refine codeAny_call_function hr.depth (KX _ _ lk) rfl S.co S.gen rfl (PySem.W.codeRec_of KX hcd) (hb _ _ _ _ ?_)
 refine wpAny_newFunctionEnv_cells S.kind hkind fun env he s1 x => ?_
 subst he
 refine ⟨lim.keeps x.toInCall.keep, codeAny_func ?_⟩
 obtain ⟨t, ht, hq⟩ := hbody A outer s H vs Q E (hr.deeper _) hsp
 have I : Inv (yL CX P w K mg base N qual scope f cdv A outer s H E) [] (start N vs) H s1 := inv_start S hr.hd e0 hl r x
 refine wpAny_mono (ht [] s1 (start N vs) H _ I hq) (fun fl s' hs => ?_) fun e s' hs => hs
 have fin : ∀ {σ' : St} {H' : Hp} {v : V} {u : Value}, Inv (yL CX P w K mg base N qual scope f cdv A outer s H E) [] σ' H' s' -> RelV v u -> Q v H' -> CE outer P w H s Q u s' :=
   fun {σ' H' v u} J rv q => ⟨v, H', J.os, J.bare, J.base, J.hok, rv, q⟩
 cases fl with
 | ret u =>
   obtain ⟨v, σ', H', J, rv, q⟩ := hs
   exact fin J rv q
 | next =>
   obtain ⟨σ', H', J, q⟩ := hs
   exact fin (v := V.non) (u := Value.none) J rfl q
 | brk =>
   obtain ⟨_, _, _, q⟩ := hs
   exact False.elim q
 | cont =>
   obtain ⟨_, _, _, q⟩ := hs
   exact False.elim q
section
variable {X : Cx} {x : Str} {p pos : Pos} {e : Expr} {es : List Expr} {t : TA} {id T : String} {r : List V -> Hp -> VK -> Prop}
def tCB (r : List V -> Hp -> VK -> Prop) (t : TA) : TE := fun σ H Q => t σ H fun vs H1 => r vs H1 Q
theorem zO (hc : yW X (.builtin id) r) (hg : Gl X x) (hm : X.mg x = none) (hv : bootBuiltins x = some (.builtin id)) (ha : PA X (e :: es) t) (hn : x ≠ "__name__" := by decide) (hdb : (x == ("__debug__" : Str)) = false := by decide)
   (he : starEach (e :: es) X.env = (false, eval e X.env) :: starEach es X.env := by rfl) (hpl : (backTo pos (starEach es X.env)).any (·.1) = false := by rfl) : PE X (.Call (.Name x p) (e :: es) [] pos) (tCB r t) := by
 intro pins s σ H Q I h
 refine wpAny_Call_Name_kw (jJ I hg hm hv ?_ hn hdb)
 exact PyProof.Rows.callWith_builtin1 (thn (ha pos pins s σ H _ I h) fun us s1 ⟨vs, H1, I1, r1, q1⟩ => hc pins s1 σ H1 vs us Q I1 r1 q1) he hpl
theorem yU (hc : yW X (.type T) r) (hg : Gl X x) (hm : X.mg x = none) (hv : bootBuiltins x = some (.type T)) (ha : PA X (e :: es) t) (hn : x ≠ "__name__" := by decide) (hdb : (x == ("__debug__" : Str)) = false := by decide)
   (he : starEach (e :: es) X.env = (false, eval e X.env) :: starEach es X.env := by rfl) (hpl : (backTo pos (starEach es X.env)).any (·.1) = false := by rfl) : PE X (.Call (.Name x p) (e :: es) [] pos) (tCB r t) := by
 intro pins s σ H Q I h
 refine wpAny_Call_Name_kw (jJ I hg hm hv ?_ hn hdb)
 exact PyProof.Rows.callWith_type1 (thn (ha pos pins s σ H _ I h) fun us s1 ⟨vs, H1, I1, r1, q1⟩ => hc pins s1 σ H1 vs us Q I1 r1 q1) he hpl
end
end L2
namespace HT
open PySem PyProof.Rows
section
open PySem.SeqAt
open PySem.AutoSeq1 (wpAny_loadPart')
open PySem.MeetsSeq PySem.MeetsSeq2 PySem.MeetsSeq3
end
section
variable {prog : Program} {w : World} {A : Around} {E : Value -> Shared -> Prop} {s : Shared}
theorem cat_tup {t b : Addr} {vs ws : List Value} {Q : Value -> Shared -> Prop} (ht : IsTup s.heap t vs.toArray) (hb : IsTup s.heap b ws.toArray) (hv : vs ≠ [])
   (h1 : ws = [] -> Q (.ref t) s) (h2 : ws ≠ [] -> Q (.ref s.heap.objs.size) { s with heap := s.heap.push { cls := .type "tuple", data := .seq (vs ++ ws).toArray } })
   (hsz : vs.length + ws.length <= sizeLine) : wpAny (model prog w) A (binaryOp .Add (.ref t) (.ref b)) Q E s := by
 obtain ⟨⟨cls, dd, data, sl⟩, ho, hc, n, hd⟩ := id ht
 obtain ⟨⟨cls2, dd2, data2, sl2⟩, ho2, hc2, n2, hd2⟩ := id hb
 simp only at hc hd hc2 hd2
 subst hc hd hc2 hd2
 have e : vs.toArray ++ ws.toArray = (vs ++ ws).toArray := by simp
 by_cases hw : ws = []
 · exact concat_meets ⟨_, ho, rfl⟩ ⟨_, ho2, rfl⟩ noFill_tuple_add seq_tuple_add PySem.F.slot_tuple_add PySem.F.entry_tuple_add (PySem.F.args_tuple_add_2 _ _)
     (tuple_addW1 t b vs.toArray ws.toArray n n2 dd dd2 sl sl2 (by simpa using hv) (by simp [hw])) ⟨ho, ho2, h1 hw⟩
 · refine concat_meets ⟨_, ho, rfl⟩ ⟨_, ho2, rfl⟩ noFill_tuple_add seq_tuple_add PySem.F.slot_tuple_add PySem.F.entry_tuple_add (PySem.F.args_tuple_add_2 _ _)
     (tuple_addW2 t b vs.toArray ws.toArray n n2 dd dd2 sl sl2 (by simpa using hv) (by simpa using hw) (by rw [List.size_toArray, List.size_toArray]; exact hsz)) ⟨ho, ho2, ?_⟩
   rw [e]
   exact h2 hw
def sIx (n d : Nat) : Option Int -> Nat
 | none => d
 | some v => if v < 0 then (v + (n : Int)).toNat else min v.toNat n
theorem sIx_none (n d : Nat) : sIx n d none = d := rfl
theorem sIx_nat (n d k : Nat) : sIx n d (some (k : Int)) = min k n := by
 show (if (k : Int) < 0 then ((k : Int) + (n : Int)).toNat else min (k : Int).toNat n) = min k n
 rw [if_neg (by omega), Int.toNat_natCast]
theorem sIx_le (n d : Nat) (hd : d <= n) (o : Option Int) : sIx n d o <= n := by
 cases o with
 | none => exact hd
 | some v =>
   show (if v < 0 then (v + (n : Int)).toNat else min v.toNat n) <= n
   by_cases hv : v < 0
   · rw [if_pos hv]; omega
   · rw [if_neg hv]; exact Nat.min_le_right _ _
theorem clip_eq (v : Int) (n d : Nat) : (if v < 0 then max (v + (n : Int)) 0 else min v (n : Int)) = ((sIx n d (some v) : Nat) : Int) := by
 show (if v < 0 then max (v + (n : Int)) 0 else min v (n : Int)) = (((if v < 0 then (v + (n : Int)).toNat else min v.toNat n) : Nat) : Int)
 by_cases hv : v < 0
 · simp only [if_pos hv]; omega
 · simp only [if_neg hv]; omega
theorem adjust_gen (lo hi : Option Int) (n : Nat) : Builtin.Slice.sliceAdjust lo hi 1 (n : Int) = (((sIx n 0 lo : Nat) : Int), ((sIx n n hi : Nat) : Int)) := by
 have h1 : ¬ ((1 : Int) < 0) := by omega
 unfold Builtin.Slice.sliceAdjust
 simp only [h1, if_false]
 refine Prod.ext ?_ ?_
 · cases lo with
   | none => rfl
   | some v => exact clip_eq v n 0
 · cases hi with
   | none => rfl
   | some v => exact clip_eq v n n
theorem places_gen (i j : Nat) : Builtin.Slice.slicePlaces (i : Int) (j : Int) 1 = j - i := by
 unfold Builtin.Slice.slicePlaces
 have h1 : (1 : Int) > 0 := by omega
 simp only [h1, if_true, Int.ediv_one]
 split <;> omega
theorem jB {v : Value} {o : Option Int} {Q : Option Int -> Shared -> Prop} (p : IsPart v o) (h : Q o s) : wpAny (model prog w) A (Builtin.Slice.slicePartIndex v) Q E s := by
 cases p with
 | none => exact slicePart_none h
 | int i t => exact slicePart_int h
theorem sliceApplied_gen {sl : Addr} {vl vu : Value} {lo hi : Option Int} {n : Nat} {Q : Int × Int × Nat -> Shared -> Prop} (hs : s.heap.IsSliceOf sl vl vu .none) (pl : IsPart vl lo) (pu : IsPart vu hi)
   (h : Q (((sIx n 0 lo : Nat) : Int), 1, sIx n n hi - sIx n 0 lo) s) : wpAny (model prog w) A (Builtin.Slice.sliceApplied (.ref sl) (pure (n : Int))) Q E s := by
 obtain ⟨os, hos, hcs, hds⟩ := id hs
 unfold Builtin.Slice.sliceApplied Builtin.Slice.sliceFields
 refine wpAny_bind (wpAny_bind (wpAny_field hos hds (x := vl) rfl (wpAny_bind (wpAny_field hos hds (x := vu) rfl (wpAny_bind (wpAny_field hos hds (x := .none) rfl (wpAny_pure ?_)))))))
 refine wpAny_bind (slicePart_none ?_)
 show wpAny _ _ (if ((1 : Int) == 0) = true then _ else _) _ _ s
 rw [if_neg (by decide)]
 refine wpAny_bind (jB pl (wpAny_bind (jB pu (wpAny_bind (wpAny_pure ?_)))))
 show wpAny _ _ (match Builtin.Slice.sliceAdjust lo hi 1 (n : Int) with | (lo, hi) => pure (lo, (1 : Int), Builtin.Slice.slicePlaces lo hi 1)) _ _ s
 rw [adjust_gen lo hi n]
 show wpAny _ _ (pure (((sIx n 0 lo : Nat) : Int), (1 : Int), Builtin.Slice.slicePlaces ((sIx n 0 lo : Nat) : Int) ((sIx n n hi : Nat) : Int) 1)) _ _ s
 rw [places_gen]
 exact wpAny_pure h
theorem pick_gen (xs : Array Value) (i k : Nat) : ((List.range k).filterMap fun (m : Nat) => xs[((i : Int) + (m : Int) * 1).toNat]?).toArray = ((xs.toList.drop i).take k).toArray := by
 have e : (fun (m : Nat) => xs[((i : Int) + (m : Int) * 1).toNat]?) = fun m => xs[i + m]? := by
   funext m
   have : ((i : Int) + (m : Int) * 1).toNat = i + m := by omega
   rw [this]
 rw [e]
 have := pick_run xs i k
 rw [List.filterMap_map] at this
 have e2 : ((fun x => xs[x]?) ∘ fun x => i + x) = fun m => xs[i + m]? := rfl
 rw [e2] at this
 rw [this]
theorem getItem_tuple_cut {t sl : Addr} {items : Array Value} {vl vu : Value} {lo hi : Option Int} {Q : Value -> Shared -> Prop} (ht : IsTup s.heap t items) (hs : s.heap.IsSliceOf sl vl vu .none) (pl : IsPart vl lo) (pu : IsPart vu hi)
   (hw : ¬ (sIx items.size 0 lo = 0 /\ sIx items.size items.size hi = items.size))
   (h : Q (.ref s.heap.objs.size) { s with heap := s.heap.push { cls := .type "tuple", data := .seq ((items.toList.drop (sIx items.size 0 lo)).take (sIx items.size items.size hi - sIx items.size 0 lo)).toArray } })
   (hsz : items.size <= sizeLine) : wpAny (model prog w) A (getItem (.ref t) (.ref sl)) Q E s := by
 have htake : sizeOk (.seq ((items.toList.drop (sIx items.size 0 lo)).take (sIx items.size items.size hi - sIx items.size 0 lo)).toArray) := by
   show ((items.toList.drop (sIx items.size 0 lo)).take (sIx items.size items.size hi - sIx items.size 0 lo)).toArray.size <= sizeLine
   rw [List.size_toArray, List.length_take, List.length_drop, Array.length_toList]
   omega
 have hj : sIx items.size items.size hi <= items.size := sIx_le _ _ (Nat.le_refl _) hi
 obtain ⟨os, hos, hcs, hds⟩ := id hs
 have hTs : s.TypeIs (.ref sl) "slice" := ⟨os, hos, hcs⟩
 unfold getItem
 try with_reducible refine wpAny_holding ?_
 first | refine wpAny_bind (wpAny_pure ?_) | skip
 refine wpAny_bind (wpAny_sequenceKey ht.typeIs (by decide) ?_)
 refine wpAny_bind (wpAny_callSpecial?_slot (name := Str.ofString "__getitem__") ht.typeIs PyProof.Rows.slot_tuple_getitem
   (wpAny_call_entry PyProof.Rows.slot_tuple_getitem ht.typeIs entry_tuple_getitem ?_ (args_tuple_getitem _ _)))
 show wpAny _ _ (Builtin.Tuple.tupleItemsOf (.ref t) >>= _) _ _ s
 refine wpAny_bind (tupleItemsOf_ ht ?_)
 refine wpAny_bind (wpAny_typeOf hTs ?_)
 rw [if_pos (by decide)]
 refine wpAny_bind (sliceApplied_gen hs pl pu ?_)
 have hno : ¬ ((((sIx items.size 0 lo : Nat) : Int) == 0 && (1 : Int) == 1 && (sIx items.size items.size hi - sIx items.size 0 lo) == items.size) = true) := by
   intro q
   rw [Bool.and_eq_true, Bool.and_eq_true] at q
   have q1 : ((sIx items.size 0 lo : Nat) : Int) = 0 := eq_of_beq q.1.1
   have q2 : sIx items.size items.size hi - sIx items.size 0 lo = items.size := eq_of_beq q.2
   exact hw ⟨by omega, by omega⟩
 show wpAny _ _ (if (((sIx items.size 0 lo : Nat) : Int) == 0 && (1 : Int) == 1 && (sIx items.size items.size hi - sIx items.size 0 lo) == items.size) = true then _ else _) _ _ s
 rw [if_neg hno, pick_gen]
 first
   | exact wpAny_bind (m := Builtin.Tuple.tupleExact _) (wpAny_newObj_type (wpAny_pure ⟨_, rfl, wpAny_pure h⟩) htake)
   | exact wpAny_bind (m := Builtin.Tuple.tupleExact _) (wpAny_newObj_type (wpAny_bind (wpAny_pure (wpAny_pure ⟨_, rfl, wpAny_pure h⟩))) htake)
   | exact wpAny_bind (wpAny_bind (m := Builtin.Tuple.tupleExact _) (wpAny_newObj_type (wpAny_pure (wpAny_pure ⟨_, rfl, wpAny_pure h⟩)) htake))
   | exact wpAny_bind (wpAny_bind (m := Builtin.Tuple.tupleExact _) (wpAny_newObj_type (wpAny_pure ⟨_, rfl, wpAny_pure h⟩) htake))
end
end HT
namespace L2
open PySem PySem.Spec PyProof.Rows
abbrev TO := St -> Hp -> (Option Int -> Hp -> Prop) -> Prop
def PO (X : Cx) (e : Option Expr) (t : TO) : Prop :=
 ∀ (pins : List (Addr × Obj)) (s : Shared) (σ : St) (H : Hp) (Q : Option Int -> Hp -> Prop), Inv X pins σ H s -> t σ H Q ->
   wpAny (model X.prog X.w) X.A (evalPart e X.env) (fun u s' => ∃ o H', Inv X pins σ H' s' /\ IsPart u o /\ Q o H') X.xe s
def tNoPart : TO := fun _ H Q => Q none H
def tPart (t : TE) : TO := fun σ H Q => t σ H fun x H1 => ∃ i, x = .int i /\ Q (some i) H1
section
variable {X : Cx} {e : Expr} {te : TE} {lo hi : Option Expr} {tl th : TO} {pos p2 : Pos}
theorem po_none : PO X none tNoPart := by
 intro pins s σ H Q I h
 rw [evalPart_none]
 exact wpAny_pure ⟨none, H, I, .none, h⟩
theorem yG (h : PE X e te) : PO X (some e) (tPart te) := by
 intro pins s σ H Q I hw
 rw [evalPart_some]
 refine thn (h pins s σ H _ I hw) fun u s1 ⟨x, H1, I1, r1, q1⟩ => ?_
 obtain ⟨i, rfl, q⟩ := q1
 obtain ⟨t, rfl⟩ := r1
 exact ⟨some i, H1, I1, .int i t, q⟩
def SlR (X : Cx) (r : V -> Option Int -> Option Int -> Hp -> VK -> Prop) : Prop :=
 ∀ (pins : List (Addr × Obj)) (s : Shared) (σ : St) (H : Hp) (x : V) (v vl vu : Value) (lo hi : Option Int) (sl : Addr) (Q : VK), Inv X pins σ H s -> RelV x v -> s.heap.IsSliceOf sl vl vu .none -> IsPart vl lo -> IsPart vu hi -> r x lo hi H Q ->
   ∃ T id, typeLookup (.type T) "__getitem__" = pure (some (.builtin id)) /\ s.TypeIs v T /\ wpAny (model X.prog X.w) X.A (getItem v (.ref sl)) (EP X pins σ Q) X.xe s
def tSl (r : V -> Option Int -> Option Int -> Hp -> VK -> Prop) (te : TE) (tl th : TO) : TE := fun σ H Q => te σ H fun x H1 => tl σ H1 fun l H2 => th σ H2 fun u H3 => r x l u H3 Q
theorem yH {r : V -> Option Int -> Option Int -> Hp -> VK -> Prop} (hr : SlR X r) (he : PE X e te) (hl : PO X lo tl) (hu : PO X hi th) : PE X (.Subscript e (.Slice lo hi none p2) pos) (tSl r te tl th) := by
 intro pins s σ H Q I h
 refine Subscript_ (thn (he pins s σ H _ I h) fun v s1 ⟨x, H1, I1, r1, q1⟩ => ?_)
 refine wpAny_Slice (thn (hl pins s1 σ H1 _ I1 q1) fun vl s2 ⟨l, H2, I2, pl, q2⟩ => thn (hu pins s2 σ H2 _ I2 q2) fun vu s3 ⟨u, H3, I3, pu, q3⟩ => ?_)
 rw [evalPart_none]
 refine wpAny_pure ?_
 have I4 : Inv X pins σ H3 { s3 with heap := s3.heap.push { cls := .type "slice", data := .fields #[vl, vu, .none] } } := I3.kept (t' := s3.toks) fun b ob q => Heap.get?_push_of_some _ q
 obtain ⟨T, id, hT, ht, hg⟩ := hr pins { s3 with heap := s3.heap.push { cls := .type "slice", data := .fields #[vl, vu, .none] } } σ H3 x v vl vu l u s3.heap.objs.size Q I4 r1 (Heap.IsSliceOf.new ..) pl pu q3
 show wpAny (model X.prog X.w) X.A (subscriptTail e (.Slice lo hi none p2) v (.ref s3.heap.objs.size)) (EP X pins σ Q) X.xe { s3 with heap := s3.heap.push { cls := .type "slice", data := .fields #[vl, vu, .none] } }
 exact tail_any (ops := [.ref s3.heap.objs.size, v]) ht hT hg (by with_unfolding_all rfl)
def yO (xs : List V) (lo hi : Option Int) : List V := (xs.drop (HT.sIx xs.length 0 lo)).take (HT.sIx xs.length xs.length hi - HT.sIx xs.length 0 lo)
theorem xR (xs : List V) (lo hi : Option Int) : (yO xs lo hi).length <= xs.length := by
 unfold yO
 rw [List.length_take, List.length_drop]
 omega
def rSlT (K : PySem.W.Frag) : V -> Option Int -> Option Int -> Hp -> VK -> Prop := fun x lo hi H Q => ∃ a xs, x = .ref a /\ SqT K H a xs /\
 ¬ (HT.sIx xs.length 0 lo = 0 /\ HT.sIx xs.length xs.length hi = xs.length) /\ ∀ p, H p = none -> Q (.ref p) (upd H p (.tup (yO xs lo hi)))
theorem sl_tup : SlR X (rSlT X.K) := by
 intro pins s σ H x v vl vu lo hi sl Q I rx hs pl pu h
 obtain ⟨a, xs, rfl, hx, hw, q⟩ := h
 cases rx
 obtain ⟨its, r, ht, hz⟩ := I.tuple hx
 have hlen : its.toArray.size = xs.length := by rw [List.size_toArray]; exact r.length.symm
 refine ⟨"tuple", _, PyProof.Rows.slot_tuple_getitem.lookup, ht.typeIs, ?_⟩
 refine HT.getItem_tuple_cut ht hs pl pu (by rw [hlen]; exact hw) ?_ (by rw [hlen]; exact hz)
 rw [hlen]
 refine ⟨.ref s.heap.objs.size, _, I.laid (t' := s.toks) (o := .tup (yO xs lo hi)) (fun b ob q => Heap.get?_push_of_some _ q) (Nat.le_refl _) ?_, rfl, q _ (I.hok.fresh (Nat.le_refl _))⟩
 exact ⟨Nat.le_trans (xR xs lo hi) hz, _, (r.drop (HT.sIx xs.length 0 lo)).take (HT.sIx xs.length xs.length hi - HT.sIx xs.length 0 lo), IsTup.new _ _⟩
def rCatT (K : PySem.W.Frag) : R2 := fun x y H Q => ∃ a b xs ys, x = .ref a /\ y = .ref b /\ SqT K H a xs /\ SqT K H b ys /\ xs ≠ [] /\ xs.length + ys.length <= sizeLine /\
 (ys = [] -> Q (.ref a) H) /\ (ys ≠ [] -> ∀ p, H p = none -> Q (.ref p) (upd H p (.tup (xs ++ ys))))
theorem Vals.nil_iff {xs : List V} {us : List Value} (r : Vals xs us) : us = [] ↔ xs = [] := by
 cases r with
 | nil => simp
 | cons _ _ => simp
theorem op_catT : OpR X (binaryOp .Add) (rCatT X.K) := by
 intro pins s σ H x y v u Q I rx ry h
 obtain ⟨a, b, xs, ys, rfl, rfl, ha, hb, hx, hz, q1, q2⟩ := h
 cases rx
 cases ry
 obtain ⟨its, r1, p1, _⟩ := I.tuple ha
 obtain ⟨its2, r2, p2, _⟩ := I.tuple hb
 refine HT.cat_tup p1 p2 (fun z => hx (r1.nil_iff.mp z)) (fun z => ⟨.ref a, H, I, rfl, q1 (r2.nil_iff.mp z)⟩) (fun z => ?_) (by rw [← r1.length, ← r2.length]; exact hz)
 refine ⟨.ref s.heap.objs.size, _, I.laid (t' := s.toks) (o := .tup (xs ++ ys)) (fun b ob q => Heap.get?_push_of_some _ q) (Nat.le_refl _) ?_, rfl, q2 (fun w => z (r2.nil_iff.mpr w)) _ (I.hok.fresh (Nat.le_refl _))⟩
 exact ⟨by rw [List.length_append]; exact hz, _, r1.append r2, IsTup.new _ _⟩
end
def ixN (n : Nat) (i : Int) : Option Nat := if 0 <= i then (if i < n then some i.toNat else none) else if -(n : Int) <= i then some (i + n).toNat else none
def atI {α : Type} (xs : List α) (i : Int) : Option α := (ixN xs.length i).bind fun j => xs[j]?
theorem ixN_seq {n : Nat} {i : Int} {j : Nat} (h : ixN n i = some j) : seqIndex? i n = some j /\ j < n /\ -(n : Int) <= i /\ i < n := by
 unfold ixN at h
 by_cases h0 : 0 <= i
 · rw [if_pos h0] at h
   by_cases h1 : i < n
   · rw [if_pos h1] at h
     have e : i.toNat = j := Option.some.inj h
     exact ⟨by rw [seqIndex_of h0 h1, e], by omega, by omega, h1⟩
   · rw [if_neg h1] at h; cases h
 · rw [if_neg h0] at h
   by_cases h1 : -(n : Int) <= i
   · rw [if_pos h1] at h
     have e : (i + n).toNat = j := Option.some.inj h
     exact ⟨by rw [seqIndex_neg (by omega) h1, e], by omega, h1, by omega⟩
   · rw [if_neg h1] at h; cases h
theorem qM {α : Type} {xs : List α} {i : Int} {v : α} (h : atI xs i = some v) : ∃ j, seqIndex? i xs.length = some j /\ xs[j]? = some v /\ j < xs.length /\ -(xs.length : Int) <= i /\ i < xs.length := by
 unfold atI at h
 cases e : ixN xs.length i with
 | none => rw [e] at h; cases h
 | some j =>
   rw [e] at h
   obtain ⟨h1, h2, h3, h4⟩ := ixN_seq e
   exact ⟨j, h1, h, h2, h3, h4⟩
theorem yB {α : Type} {xs : List α} {j : Nat} {v : α} (h : xs[j]? = some v) : atI xs (j : Int) = some v := by
 have hj : j < xs.length := (List.getElem?_eq_some_iff.mp h).1
 have e : ixN xs.length (j : Int) = some j := by
   unfold ixN
   rw [if_pos (by omega), if_pos (by omega)]; simp
 unfold atI; rw [e]; exact h
theorem atI_last {α : Type} (xs : List α) (v : α) : atI (xs ++ [v]) (-1) = some v := by
 have hl : (xs ++ [v]).length = xs.length + 1 := by simp
 have e : ixN (xs ++ [v]).length (-1) = some xs.length := by
   unfold ixN
   rw [hl, if_neg (by decide), if_pos (by omega)]
   congr 1
   omega
 unfold atI
 rw [e]
 show (xs ++ [v])[xs.length]? = some v
 simp
def PlainIx (b : Expr) : Prop := ∀ o i, subscripted b false o i = operate [o, i] (getItem o i)
def IxR (X : Cx) (r : R2) : Prop :=
 ∀ (value slice : Expr) (pins : List (Addr × Obj)) (s : Shared) (σ : St) (H : Hp) (x y : V) (v u : Value) (Q : VK), Inv X pins σ H s -> RelV x v -> RelV y u -> r x y H Q ->
   subscripted slice false v u = operate [v, u] (getItem v u) -> wpAny (model X.prog X.w) X.A (subscriptTail value slice v u) (EP X pins σ Q) X.xe s
def MtR (X : Cx) (id : String) (r : V -> List V -> Hp -> VK -> Prop) : Prop :=
 ∀ (pins : List (Addr × Obj)) (s : Shared) (σ : St) (H : Hp) (x : V) (xs : List V) (v : Value) (us : List Value) (Q : VK), Inv X pins σ H s -> RelV x v -> Vals xs us -> r x xs H Q ->
   wpAny (model X.prog X.w) X.A (call (.builtin id) (v :: us)) (EP X pins σ Q) X.xe s
section
variable {X : Cx} {a b : Expr} {ta tb : TE} {pos : Pos}
theorem IxR.or {r r' : R2} (h : IxR X r) (h' : IxR X r') : IxR X (fun x y H Q => r x y H Q \/ r' x y H Q) := by
 intro value slice pins s σ H x y v u Q I rx ry q hs
 rcases q with q | q
 · exact h value slice pins s σ H x y v u Q I rx ry q hs
 · exact h' value slice pins s σ H x y v u Q I rx ry q hs
theorem yA {r : R2} (hr : IxR X r) (ha : PE X a ta) (hb : PE X b tb) (hs : PlainIx b) : PE X (.Subscript a b pos) (tOp r ta tb) := by
 intro pins s σ H Q I h
 exact Subscript_ (binT ha hb I h fun v u s2 x y H2 I2 rx ry q => hr a b pins s2 σ H2 x y v u Q I2 rx ry q (hs _ _))
def rIxL (K : PySem.W.Frag) : R2 := fun x y H Q => ∃ p xs i v, x = .ref p /\ y = .int i /\ SqL K H p xs /\ atI xs i = some v /\ Q v H
def rIxT (K : PySem.W.Frag) : R2 := fun x y H Q => ∃ p xs i v, x = .ref p /\ y = .int i /\ SqT K H p xs /\ atI xs i = some v /\ Q v H
def rIxS : R2 := fun x y H Q => ∃ z i c, x = .str z /\ y = .int i /\ z.length <= sizeLine /\ atI z.cps.toList i = some c /\ Q (.str ⟨#[c]⟩) H
theorem ix_list : IxR X (rIxL X.K) := by
 intro value slice pins s σ H x y v u Q I rx ry h hs
 obtain ⟨p, xs, i, z, rfl, rfl, hq, he, q⟩ := h
 cases rx
 obtain ⟨t, rfl⟩ := ry
 obtain ⟨its, r, pl, hz⟩ := I.list hq
 obtain ⟨j, h1, h2, h3, h4, h5⟩ := qM he
 obtain ⟨w, ew, rw'⟩ := r.get h2
 have hl := r.length
 have hn := line63
 have fin : EP X pins σ Q w s := ⟨z, H, I, rw', q⟩
 by_cases h0 : 0 <= i
 · have hj : i.toNat = j := by
     rw [seqIndex_of h0 h5] at h1
     exact Option.some.inj h1
   exact item_listR pl.isList h0 (by omega) (by rw [hj]; simpa using ew) fin hs
 · have hj : (i + (its.toArray.size : Int)).toNat = j := by
     rw [seqIndex_neg (by omega) h4] at h1
     rw [List.size_toArray, ← hl]
     exact Option.some.inj h1
   exact subscriptTail_builtinR (x := w) pl.isList.typeIs slot_list_getitem.lookup
     (wpAny_getItem_list_neg (Q := fun r s' => r = w /\ EP X pins σ Q r s') pl.isList (by omega) (by rw [List.size_toArray] <;> omega) (by omega) (by rw [hj]; simpa using ew) ⟨rfl, fin⟩) hs
theorem ix_tup : IxR X (rIxT X.K) := by
 intro value slice pins s σ H x y v u Q I rx ry h hs
 obtain ⟨p, xs, i, z, rfl, rfl, hq, he, q⟩ := h
 cases rx
 obtain ⟨t, rfl⟩ := ry
 obtain ⟨its, r, pl, hz⟩ := I.tuple hq
 obtain ⟨j, h1, h2, h3, h4, h5⟩ := qM he
 obtain ⟨w, ew, rw'⟩ := r.get h2
 have hl := r.length
 have hn := line63
 have fin : EP X pins σ Q w s := ⟨z, H, I, rw', q⟩
 exact subscriptTail_builtinR (x := w) pl.typeIs slot_tuple_getitem.lookup
   (getItem_tuple (j := j) (Q := fun r s' => r = w /\ EP X pins σ Q r s') pl (by omega) (by omega) (by rw [List.size_toArray, ← hl]; exact h1) (by simpa using ew) ⟨rfl, fin⟩) hs
theorem ix_str : IxR X rIxS := by
 intro value slice pins s σ H x y v u Q I rx ry h hs
 obtain ⟨z, i, c, rfl, rfl, hz, he, q⟩ := h
 obtain ⟨t, rfl⟩ := rx
 obtain ⟨t', rfl⟩ := ry
 obtain ⟨j, h1, h2, h3, h4, h5⟩ := qM he
 have hl : z.cps.toList.length = z.length := by simp [Str.length]
 rw [hl] at h1 h4 h5
 have hn := line63
 exact tail_any (typeIs_str s z t) slot_str_getitem.lookup (getItem_str (c := c) (by
   have e1 : decide (i < -(2 ^ 63 : Int)) = false := decide_eq_false (by omega)
   have e2 : decide (i ≥ 2 ^ 63) = false := decide_eq_false (by omega)
   rw [e1, e2, Bool.or_false]) (by rw [h1]; simpa using h2) ⟨.str ⟨#[c]⟩, H, I.tok _, ⟨_, rfl⟩, q⟩) hs
def rIx (K : PySem.W.Frag) : R2 := fun x y H Q => rIxL K x y H Q \/ rIxT K x y H Q \/ rIxS x y H Q
theorem ix_seq : IxR X (rIx X.K) := ix_list.or (ix_tup.or ix_str)
theorem Inv.lst {pins : List (Addr × Obj)} {σ : St} {H : Hp} {s : Shared} {p : Addr} {xs : List V} (I : Inv X pins σ H s) (h : H p = some (.lst xs)) :
   ∃ (its : List Value) (n : Nat), Vals xs its /\ s.heap.get? p = some { cls := .type "list", data := .seq its.toArray n } /\ xs.length <= sizeLine := by
 obtain ⟨z, its, n, r, e⟩ := I.hok p _ h
 exact ⟨its, n, r, e, z⟩
theorem qD (lo hi : Option Int) (n : Nat) : (sliceBounds lo hi none n).1 = ((HT.sIx n 0 lo : Nat) : Int) /\ (sliceBounds lo hi none n).2.1 = ((HT.sIx n n hi : Nat) : Int) /\ (sliceBounds lo hi none n).2.2 = 1 := by
 refine ⟨?_, ?_, rfl⟩
 · cases lo with
   | none => simp [sliceBounds, HT.sIx]
   | some i =>
     simp only [sliceBounds, HT.sIx, Option.getD_none, show (1 : Int) > 0 by decide, if_true]
     by_cases h : i < 0
     · simp only [h, if_true] <;> omega
     · simp only [h, if_false] <;> omega
 · cases hi with
   | none => simp [sliceBounds, HT.sIx]
   | some i =>
     simp only [sliceBounds, HT.sIx, Option.getD_none, show (1 : Int) > 0 by decide, if_true]
     by_cases h : i < 0
     · simp only [h, if_true] <;> omega
     · simp only [h, if_false] <;> omega
theorem jP (its : List Value) (lo hi : Option Int) : slicePick its.toArray lo hi none = ((its.drop (HT.sIx its.length 0 lo)).take (HT.sIx its.length its.length hi - HT.sIx its.length 0 lo)).toArray := by
 obtain ⟨h1, h2, h3⟩ := qD lo hi its.toArray.size
 unfold slicePick
 rw [h1, h2, h3]
 simp only [sliceRange_one, pick_run, List.size_toArray] <;> rfl
def rSlL (K : PySem.W.Frag) : V -> Option Int -> Option Int -> Hp -> VK -> Prop := fun x lo hi H Q => ∃ a xs, x = .ref a /\ SqL K H a xs /\ ∀ p, H p = none -> Q (.ref p) (upd H p (.lst (yO xs lo hi)))
theorem sl_list : SlR X (rSlL X.K) := by
 intro pins s σ H x v vl vu lo hi sl Q I rx hs pl pu h
 obtain ⟨a, xs, rfl, hx, q⟩ := h
 cases rx
 obtain ⟨its, r, ht, hz⟩ := I.list hx
 have hlen := r.length
 refine ⟨"list", _, slot_list_getitem.lookup, ht.isList.typeIs, ?_⟩
 refine wpAny_getItem_list_slice ht.isList hs pl pu .none (by simp) ?_ (by rw [List.size_toArray] <;> omega)
 rw [jP, ← hlen]
 refine ⟨.ref s.heap.objs.size, _, I.laid (t' := s.toks) (o := .lst (yO xs lo hi)) (fun b ob q => Heap.get?_push_of_some _ q) (Nat.le_refl _) ?_, rfl, q _ (I.hok.fresh (Nat.le_refl _))⟩
 exact ⟨Nat.le_trans (xR xs lo hi) hz, _, 0, (r.drop (HT.sIx xs.length 0 lo)).take (HT.sIx xs.length xs.length hi - HT.sIx xs.length 0 lo), Heap.get?_push_size _ rfl⟩
theorem call_list_of : yW X (.type "list") (fun xs H Q => ∃ p ys, xs = [.ref p] /\ (SqL X.K H p ys \/ SqT X.K H p ys) /\ ∀ l, H l = none -> Q (.ref l) (upd H l (.lst ys))) := by
 intro pins s σ H xs us Q I r h
 obtain ⟨p, ys, rfl, hq, q⟩ := h
 obtain ⟨u, rfl, rx⟩ := vals1 r
 cases rx
 have fin : ∀ (its : List Value), Vals ys its -> ys.length <= sizeLine -> ∀ (h' : Heap) (c' : Nat), (∀ b o', s.heap.get? b = some o' -> h'.get? b = some o') ->
     h'.get? s.heap.objs.size = some { cls := .type "list", dict := none, data := .seq its.toArray c', slots := #[] } -> EP X pins σ Q (.ref s.heap.objs.size) { s with heap := h' } := fun its r' hz h' c' kp e =>
   ⟨.ref s.heap.objs.size, _, I.laid (t' := s.toks) kp (Nat.le_refl _) (show ObjOk X.prog X.w _ h' _ (.lst ys) from ⟨hz, its, c', r', e⟩), rfl, q _ (I.hok.fresh (Nat.le_refl _))⟩
 rcases hq with hq | hq
 · obtain ⟨its, r', pl, hz⟩ := I.list hq
   have hlen := r'.length
   obtain ⟨o, ho, hc, n, hd⟩ := pl.isList
   exact call_list_seq p (.inl rfl) ho hc hd (fun h' c' kp e => fin its r' hz h' c' kp e) (by simp only [List.size_toArray] <;> omega)
 · obtain ⟨its, r', pl, hz⟩ := I.tuple hq
   have hlen := r'.length
   obtain ⟨o, ho, hc, n, hd⟩ := pl
   exact call_list_seq p (.inr rfl) ho hc hd (fun h' c' kp e => fin its r' hz h' c' kp e) (by simp only [List.size_toArray] <;> omega)
theorem call_tuple_of : yW X (.type "tuple") (fun xs H Q => ∃ p ys, xs = [.ref p] /\ ((SqL X.K H p ys /\ ∀ l, H l = none -> Q (.ref l) (upd H l (.tup ys))) \/ (SqT X.K H p ys /\ Q (.ref p) H))) := by
 intro pins s σ H xs us Q I r h
 obtain ⟨p, ys, rfl, h⟩ := h
 obtain ⟨u, rfl, rx⟩ := vals1 r
 cases rx
 rcases h with ⟨hq, q⟩ | ⟨hq, q⟩
 · obtain ⟨its, r', pl, hz⟩ := I.list hq
   have hlen := r'.length
   refine call_tuple_list pl.isList (fun h' kp => ?_) (by simp only [List.size_toArray] <;> omega)
   have I1 : Inv X pins σ H { s with heap := h' } := I.kept (t' := s.toks) kp
   have I2 : Inv X pins σ (upd H h'.objs.size (.tup ys)) { s with heap := h'.push { cls := .type "tuple", data := .seq its.toArray } } :=
     I1.laid (t' := s.toks) (fun b o e => Heap.get?_push_of_some _ e) (Nat.le_refl _) (show ObjOk X.prog X.w _ _ _ (.tup ys) from ⟨hz, its, r', IsTup.new _ _⟩)
   exact ⟨.ref h'.objs.size, _, I2, rfl, q _ (I1.hok.fresh (Nat.le_refl _))⟩
 · obtain ⟨its, r', pl, hz⟩ := I.tuple hq
   exact call_tuple_same pl ⟨.ref p, H, I, rfl, q⟩
def tyV (K : PySem.W.Frag) (T : String) (x : V) (H : Hp) : Prop := match x with
 | .str _ => T = "str"
 | .int _ => T = "int"
 | .ref p => (T = "list" /\ ∃ xs, SqL K H p xs) \/ (T = "tuple" /\ ∃ o, K.lookup p = some o /\ o.cls = .type "tuple" /\ o.dict = none) \/
     (T = "dict" /\ ((∃ kvs, H p = some (.dK kvs)) \/ ∃ kvs, H p = some (.dT kvs))) \/ (T = "set" /\ ∃ S n, H p = some (.set S n))
 | _ => False
theorem tyV_is {pins : List (Addr × Obj)} {σ : St} {H : Hp} {s : Shared} {T : String} {x : V} {v : Value} (I : Inv X pins σ H s) (r : RelV x v) (ty : tyV X.K T x H) :
   s.TypeIs v T /\ ∀ a, v = .ref a -> ∃ ob, s.heap.get? a = some ob /\ ob.dict = none := by
 cases x with
 | str z =>
   obtain ⟨t, rfl⟩ := r
   cases (show T = "str" from ty)
   exact ⟨typeIs_str s z t, fun _ e => nomatch e⟩
 | int i =>
   obtain ⟨t, rfl⟩ := r
   cases (show T = "int" from ty)
   exact ⟨typeIs_int s i t, fun _ e => nomatch e⟩
 | ref p =>
   cases r
   rcases ty with ⟨rfl, xs, hq⟩ | ⟨rfl, o, hk, hc, hd⟩ | ⟨rfl, hk⟩ | ⟨rfl, S, n, hk⟩
   · obtain ⟨its, _, pl, _⟩ := I.list hq
     refine ⟨pl.isList.typeIs, fun a e => ?_⟩
     cases e
     obtain ⟨o, n, e, c, hd, _⟩ := pl
     exact ⟨o, e, hd⟩
   · refine ⟨⟨o, I.kIn p o hk, hc⟩, fun a e => ?_⟩
     cases e
     exact ⟨o, I.kIn _ o hk, hd⟩
   · have z : ∃ o, s.heap.get? p = some o /\ o.ExactDict := by
       rcases hk with ⟨kvs, hk⟩ | ⟨kvs, hk⟩
       · obtain ⟨_, _, _, _, o, _, _, e, ex, _⟩ := I.hok p _ hk
         exact ⟨o, e, ex⟩
       · obtain ⟨_, _, _, _, o, _, _, e, ex, _⟩ := I.hok p _ hk
         exact ⟨o, e, ex⟩
     obtain ⟨o, e, ex⟩ := z
     refine ⟨⟨o, e, ex.1⟩, fun a e2 => ?_⟩
     cases e2
     exact ⟨o, e, ex.2.1⟩
   · obtain ⟨o, _, _, _, e, ex, _⟩ := I.hok p _ hk
     refine ⟨⟨o, e, ex.1⟩, fun a e2 => ?_⟩
     cases e2
     exact ⟨o, e, ex.2.1⟩
 | _ => exact False.elim ty
def tBM0 (K : PySem.W.Frag) (T : String) (r : V -> List V -> Hp -> VK -> Prop) (to : TE) : TE := fun σ H Q => to σ H fun x H1 => tyV K T x H1 /\ r x [] H1 Q
def tBM (K : PySem.W.Frag) (T : String) (r : V -> List V -> Hp -> VK -> Prop) (to : TE) (t : TA) : TE := fun σ H Q => to σ H fun x H1 => tyV K T x H1 /\ t σ H1 fun xs H2 => r x xs H2 Q
variable {o e : Expr} {es : List Expr} {to : TE} {t : TA} {name : Str} {apos cpos : Pos} {T id : String} {r : V -> List V -> Hp -> VK -> Prop}
theorem pe_bm0 (pa : PlainAttrs T) (slot : Slot T name id) (hty : typeOf (.builtin id) = pure (.type "method_descriptor")) (hm : MtR X id r) (ho : PE X o to)
   (hbase : attributeBase o name X.env (eval o X.env) = eval o X.env := by rfl) (hline : (apos.endLine == cpos.line) = true := by rfl) : PE X (.Call (.Attribute o name apos) [] [] cpos) (tBM0 X.K T r to) := by
 intro pins s σ H Q I h
 refine wpAny_Call_method0_late hbase hline (thn (ho pins s σ H _ I h) fun v s1 ⟨x, H1, I1, r1, ty, q1⟩ => ?_)
 obtain ⟨h1, h2⟩ := tyV_is I1 r1 ty
 exact ⟨T, id, pa, slot, hty, h1, h2, Calls.callWith_builtin rfl (PySem.evalArgs_none (hm pins s1 σ H1 x [] v [] Q I1 r1 .nil q1))⟩
theorem yQ (pa : PlainAttrs T) (slot : Slot T name id) (hty : typeOf (.builtin id) = pure (.type "method_descriptor")) (hm : MtR X id r) (ho : PE X o to) (ha : PA X (e :: es) t)
   (hbase : attributeBase o name X.env (eval o X.env) = eval o X.env := by rfl)
   (hfew : ((backTo cpos (starEach (e :: es) X.env)).all (fun x => !x.1) && (backToKw cpos (keywordEach [] X.env)).all (fun x => x.1.isSome)
     && decide ((e :: es).length + ([] : List Keyword).length + (if ([] : List Keyword).isEmpty then 0 else 1) < 30)) = true := by rfl)
   (hline : (apos.endLine == cpos.line) = true := by rfl) (hs : starEach (e :: es) X.env = (false, eval e X.env) :: starEach es X.env := by rfl) (hplain : (backTo cpos (starEach es X.env)).any (·.1) = false := by rfl) :
   PE X (.Call (.Attribute o name apos) (e :: es) [] cpos) (tBM X.K T r to t) := by
 intro pins s σ H Q I h
 refine wpAny_Call_method_late hbase hfew hline rfl (thn (ho pins s σ H _ I h) fun v s1 ⟨x, H1, I1, r1, ty, q1⟩ => ?_)
 obtain ⟨h1, h2⟩ := tyV_is I1 r1 ty
 refine ⟨T, id, pa, slot, hty, h1, h2, ?_⟩
 have hA := ha cpos pins s1 σ H1 _ I1 q1
 rw [hs] at hA ⊢
 refine Calls.callWith_builtin (by show (false || (backTo cpos (starEach es X.env)).any (·.1)) = false; rw [hplain] <;> rfl) (Calls.evalArgs_plain ?_)
 exact thn hA fun us s2 ⟨vs, H2, I2, r2, q2⟩ => hm pins s2 σ H2 x vs v us Q I2 r1 r2 q2
end
def MtM (X : Cx) (id : String) (r : V -> List V -> Hp -> VK -> Prop) : Prop :=
 ∀ (pins : List (Addr × Obj)) (s : Shared) (σ : St) (H : Hp) (x : V) (xs : List V) (v : Value) (us : List Value) (Q : VK), Inv X pins σ H s -> RelV x v -> Vals xs us -> r x xs H Q ->
   wpAny (model X.prog X.w) X.A (call (.builtin id) (v :: us)) (EP X pins σ Q) X.xe s
theorem Vals.one : ∀ {x : V} {us : List Value}, Vals [x] us -> ∃ u, us = [u] /\ RelV x u
 | _, _, .cons r .nil => ⟨_, rfl, r⟩
theorem Vals.zero : ∀ {us : List Value}, Vals [] us -> us = []
 | _, .nil => rfl
theorem Vals.dropLast {xs : List V} {us : List Value} (h : Vals xs us) : Vals xs.dropLast us.dropLast := by
 induction h with
 | nil => exact .nil
 | cons r t ih =>
   cases t with
   | nil => exact .nil
   | cons q t' => exact .cons r ih
theorem erase_last {α : Type} (l : List α) : l.eraseIdx (l.length - 1) = l.dropLast := by
 induction l with
 | nil => rfl
 | cons a r ih =>
   cases r with
   | nil => rfl
   | cons b r =>
     have e : (a :: b :: r).length - 1 = ((b :: r).length - 1) + 1 := by
       have h1 : (a :: b :: r).length = r.length + 2 := rfl
       have h2 : (b :: r).length = r.length + 1 := rfl
       omega
     rw [e, List.eraseIdx_cons_succ, ih]
     all_goals rfl
section
variable {X : Cx} {pins : List (Addr × Obj)} {σ : St} {H : Hp} {s : Shared} {l b : Addr} {xs ys zs : List V}
theorem Inv.lset {its its' : List Value} {n : Nat} {f : Array Value -> Array Value} {t' : Nat} (I : Inv X pins σ H s) (hH : H l = some (.lst xs))
   (e : s.heap.get? l = some { cls := .type "list", data := .seq its.toArray n }) (hf : f its.toArray = its'.toArray) (hv : Vals ys its') (hz : ys.length <= sizeLine) :
   Inv X pins σ (upd H l (.lst ys)) { s with heap := s.heap.update l (Obj.mapSeq f), toks := t' } := by
 have q := PySem.IsL.update e f
 rw [hf] at q
 refine I.write (x := l) (e := l) (by rw [hH]; exact trivial) (.inl rfl) (fun b' u hb hu => (Heap.get?_update_other s.heap (Obj.mapSeq f) (Ne.symm hb)).trans hu) ⟨_, q⟩ ?_
 exact ⟨hz, its', _, hv, q⟩
theorem Inv.lnew {its : List Value} {t' : Nat} (I : Inv X pins σ H s) (hv : Vals ys its) (hz : ys.length <= sizeLine) :
   Inv X pins σ (upd H s.heap.objs.size (.lst ys)) { s with heap := s.heap.push { cls := .type "list", data := .seq its.toArray }, toks := t' } :=
 I.laid (fun _ _ q => Heap.get?_push_of_some _ q) (Nat.le_refl _) ⟨hz, its, 0, hv, Heap.get?_push_size _ rfl⟩
theorem Inv.fresh (I : Inv X pins σ H s) : H s.heap.objs.size = none := I.hok.fresh (Nat.le_refl _)
theorem Inv.lstM (I : Inv X pins σ H s) (hH : H l = some (.lst xs)) : xs.length <= sizeLine /\ ∃ (its : List Value) (n : Nat), Vals xs its /\ xs.length = its.length /\ s.heap.get? l = some { cls := .type "list", data := .seq its.toArray n } := by
 obtain ⟨z, its, n, r, e⟩ := I.hok l _ hH
 exact ⟨z, its, n, r, r.length, e⟩
end
section
variable {X : Cx}
def rAppend : V -> List V -> Hp -> VK -> Prop := fun x vs H Q => ∃ l xs y, x = .ref l /\ vs = [y] /\ H l = some (.lst xs) /\ xs.length < sizeLine /\ Q .non (upd H l (.lst (xs ++ [y])))
theorem mt_append : MtM X "list.append" rAppend := by
 intro pins s σ H x vs v us Q I rx rv h
 obtain ⟨l, xs, y, rfl, rfl, hH, hz, q⟩ := h
 cases rx
 obtain ⟨u, rfl, ru⟩ := rv.one
 obtain ⟨z, its, n, r, hl, e⟩ := I.lstM hH
 refine call_meets F.slot_list_append ⟨_, e, rfl⟩ F.entry_list_append (F.args_list_append_2 _ _) (PySem.list_append l its.toArray n u (by rw [List.size_toArray]; omega)) ⟨e, ?_⟩
 refine ⟨.non, _, I.lset (its' := its ++ [u]) hH e (by simp) (r.append (.cons ru .nil)) ?_, rfl, q⟩
 rw [List.length_append, List.length_singleton]
 omega
def rPop : V -> List V -> Hp -> VK -> Prop := fun x vs H Q => ∃ l xs y, x = .ref l /\ vs = [] /\ H l = some (.lst xs) /\ xs[xs.length - 1]? = some y /\ Q y (upd H l (.lst xs.dropLast))
theorem mt_pop : MtM X "list.pop" rPop := by
 intro pins s σ H x vs v us Q I rx rv h
 obtain ⟨l, xs, y, rfl, rfl, hH, hy, q⟩ := h
 cases rx
 have hus := rv.zero
 subst hus
 obtain ⟨z, its, n, r, hl, e⟩ := I.lstM hH
 obtain ⟨u, hu, ru⟩ := r.get hy
 have hy' : its.toArray[its.toArray.size - 1]? = some u := by
   show its.toArray[its.length - 1]? = some u
   rw [← Array.getElem?_toList, ← hl]
   exact hu
 refine call_meets F.slot_list_pop ⟨_, e, rfl⟩ F.entry_list_pop (F.args_list_pop_1 _) (MeetsSeq.list_pop_last l its.toArray n u hy' (by rw [List.size_toArray]; omega)) ⟨e, ?_⟩
 refine ⟨y, _, I.lset (its' := its.dropLast) hH e ?_ r.dropLast ?_, ru, q⟩
 · show its.toArray.eraseIdxIfInBounds (its.toArray.size - 1) = its.dropLast.toArray
   rw [List.size_toArray, List.eraseIdxIfInBounds_toArray, erase_last]
 · rw [List.length_dropLast]
   omega
def rCat : R2 := fun x y H Q => ∃ l b xs zs, x = .ref l /\ y = .ref b /\ H l = some (.lst xs) /\ H b = some (.lst zs) /\ xs.length + zs.length <= sizeLine /\ ∀ p, H p = none -> Q (.ref p) (upd H p (.lst (xs ++ zs)))
theorem op_cat : OpR X (binaryOp .Add) rCat := by
 intro pins s σ H x y v u Q I rx ry h
 obtain ⟨l, b, xs, zs, rfl, rfl, hH, hB, hz, q⟩ := h
 cases rx
 cases ry
 obtain ⟨z, its, n, r, hl, e⟩ := I.lstM hH
 obtain ⟨z2, its2, n2, r2, hl2, e2⟩ := I.lstM hB
 refine PySem.P.add_list e e2 ?_ (by rw [List.size_toArray, List.size_toArray]; omega)
 have ea : its.toArray ++ its2.toArray = (its ++ its2).toArray := by simp
 rw [ea]
 exact ⟨.ref _, _, I.lnew (t' := s.toks) (r.append r2) (by rw [List.length_append]; omega), rfl, q _ I.fresh⟩
end
section
variable {prog : Program} {w : World} {A : Around} {E : Value -> Shared -> Prop} {s : Shared}
end
section
variable {X : Cx}
end
section
variable {κ : Type} [DecidableEq κ]
def xS (kvs : List (κ × V)) (k : κ) : Option V := (kvs.find? fun kv => decide (kv.1 = k)).map (·.2)
def putK (kvs : List (κ × V)) (k : κ) (v : V) : List (κ × V) :=
 if (kvs.any fun kv => decide (kv.1 = k)) = true then kvs.map (fun kv => if kv.1 = k then (kv.1, v) else kv) else kvs ++ [(k, v)]
theorem valV_pos {p : κ × V} {r : List (κ × V)} {k : κ} (e : p.1 = k) : xS (p :: r) k = some p.2 := by simp [xS, List.find?_cons, e]
theorem valV_neg {p : κ × V} {r : List (κ × V)} {k : κ} (e : ¬ p.1 = k) : xS (p :: r) k = xS r k := by simp [xS, List.find?_cons, e]
theorem RelO.isSome_eq {o : Option V} {u : Option Value} (r : RelO o u) : o.isSome = u.isSome := by
 cases o with
 | none => cases u with
   | none => rfl
   | some _ => exact (show False from r).elim
 | some _ => cases u with
   | none => exact (show False from r).elim
   | some _ => rfl
theorem RelO.getD {o : Option V} {u : Option Value} {d : V} {d' : Value} (r : RelO o u) (rd : RelV d d') : RelV (o.getD d) (u.getD d') := by
 cases o with
 | none => cases u with
   | none => exact rd
   | some _ => exact (show False from r).elim
 | some _ => cases u with
   | none => exact (show False from r).elim
   | some _ => exact r
theorem KV.val {kvs : List (κ × V)} {vs : List (κ × Value)} (r : KV kvs vs) (k : κ) : RelO (xS kvs k) (valueAt vs k) := by
 unfold KV at r
 induction r with
 | nil => exact True.intro
 | @cons p q ps qs h t ih =>
   obtain ⟨h1, h2⟩ := h
   by_cases e : p.1 = k
   · have e' : q.1 = k := h1.symm.trans e
     have b : valueAt (q :: qs) k = some q.2 := by simp [valueAt, List.find?_cons, e']
     rw [valV_pos e, b]; exact h2
   · have e' : ¬ q.1 = k := fun z => e (h1.trans z)
     have b : valueAt (q :: qs) k = valueAt qs k := by simp [valueAt, List.find?_cons, e']
     rw [valV_neg e, b]; exact ih
theorem KV.any {kvs : List (κ × V)} {vs : List (κ × Value)} (r : KV kvs vs) (k : κ) : (kvs.any fun kv => decide (kv.1 = k)) = vs.any fun kv => decide (kv.1 = k) := by
 unfold KV at r
 induction r with
 | nil => rfl
 | cons h t ih => rw [List.any_cons, List.any_cons, ih, h.1]
theorem KV.keys {kvs : List (κ × V)} {vs : List (κ × Value)} (r : KV kvs vs) : kvs.map (·.1) = vs.map (·.1) := by
 unfold KV at r
 induction r with
 | nil => rfl
 | cons h t ih => rw [List.map_cons, List.map_cons, ih, h.1]
theorem KV.length {kvs : List (κ × V)} {vs : List (κ × Value)} (r : KV kvs vs) : kvs.length = vs.length := Paired.length r
end
theorem kV_is {P : Program} {w : World} {k : Key} {u : Value} (r : RelV (kV k) u) : (zX P w).is k u = true := by
 cases k with
 | inl i => obtain ⟨t, e⟩ := (show ∃ t, u = Value.int i t from r); subst e; exact mixKind_int P w i t
 | inr x => obtain ⟨t, e⟩ := (show ∃ t, u = Value.str x t from r); subst e; exact yR P w x t
theorem jV {P : Program} {w : World} : ∀ {ks : List Key} {us : List Value}, Vals (ks.map kV) us -> ItemsAre (zX P w) ks us
 | [], _, r => by rw [List.map_nil] at r; cases r; exact .nil
 | k :: ks, _, r => by
   rw [List.map_cons] at r
   cases r with
   | cons h t => exact .cons (kV_is h) (jV t)
abbrev KT (H : Hp) : List (List Key × V) -> List (List Key × Addr × Value) -> Prop := Paired fun p q => p.1 = q.1 /\ H q.2.1 = some (.tup (p.1.map kV)) /\ RelV p.2 q.2.2
theorem KT.val {H : Hp} {kvs : List (List Key × V)} {xs : List (List Key × Addr × Value)} (r : KT H kvs xs) (k : List Key) : RelO (xS kvs k) ((atKey xs k).map (·.2)) := by
 induction r with
 | nil => exact True.intro
 | @cons p q ps qs h t ih =>
   obtain ⟨h1, _, h2⟩ := h
   by_cases e : p.1 = k
   · have e' : q.1 = k := h1.symm.trans e
     have b : atKey (q :: qs) k = some q.2 := by simp [atKey, List.find?_cons, e']
     rw [valV_pos e, b]; exact h2
   · have e' : ¬ q.1 = k := fun z => e (h1.trans z)
     have b : atKey (q :: qs) k = atKey qs k := by simp [atKey, List.find?_cons, e']
     rw [valV_neg e, b]; exact ih
section
variable {P : Program} {w : World} {H : Hp} {h : Heap} {a : Addr}
end
def DGet (H : Hp) (a : Addr) (y : V) (r : Option V) : Prop :=
 (∃ kvs k, Rd H a (.dK kvs) /\ y = kV k /\ r = xS kvs k) \/ ∃ kvs k b, Rd H a (.dT kvs) /\ y = .ref b /\ H b = some (.tup (k.map kV)) /\ r = xS kvs k
def DPut (H : Hp) (a : Addr) (y v : V) (H' : Hp) : Prop :=
 (∃ kvs k, H a = some (.dK kvs) /\ y = kV k /\ kvs.length < sizeLine /\ H' = upd H a (.dK (putK kvs k v))) \/
 ∃ kvs k b, H a = some (.dT kvs) /\ y = .ref b /\ H b = some (.tup (k.map kV)) /\ kvs.length < sizeLine /\ H' = upd H a (.dT (putK kvs k v))
theorem DGet.k {H : Hp} {a : Addr} {kvs : List (Key × V)} {k : Key} (e : H a = some (.dK kvs)) : DGet H a (kV k) (xS kvs k) := .inl ⟨kvs, k, .inl e, rfl, rfl⟩
theorem DGet.t {H : Hp} {a b : Addr} {kvs : List (List Key × V)} {k : List Key} (e : H a = some (.dT kvs)) (eb : H b = some (.tup (k.map kV))) : DGet H a (.ref b) (xS kvs k) := .inr ⟨kvs, k, b, .inl e, rfl, eb, rfl⟩
theorem DPut.k {H : Hp} {a : Addr} {kvs : List (Key × V)} {k : Key} {v : V} (e : H a = some (.dK kvs)) (hl : kvs.length < sizeLine) : DPut H a (kV k) v (upd H a (.dK (putK kvs k v))) := .inl ⟨kvs, k, e, rfl, hl, rfl⟩
theorem DPut.t {H : Hp} {a b : Addr} {kvs : List (List Key × V)} {k : List Key} {v : V} (e : H a = some (.dT kvs)) (eb : H b = some (.tup (k.map kV))) (hl : kvs.length < sizeLine) :
   DPut H a (.ref b) v (upd H a (.dT (putK kvs k v))) := .inr ⟨kvs, k, b, e, rfl, eb, hl, rfl⟩
section
variable {X : Cx} {pins : List (Addr × Obj)} {σ : St} {H : Hp} {s : Shared} {a : Addr} {y v : V} {u r : Value} {o : Option V} {A : Around} {E : Value -> Shared -> Prop}
theorem Inv.big (I : Inv X pins σ H s) : sysModules < s.heap.objs.size := by
 have h : mainGlobals < s.heap.objs.size := (I.mod.glob.keeps I.bk).lt
 exact Nat.lt_trans (by decide) h
theorem d_write {h' : Heap} {t' : Nat} {ob : HO} (I : Inv X pins σ H s) (mu : Mut (H a)) (hs : Heap.SameBut a s.heap h') (he : ∃ q, h'.get? a = some q) (new : ObjOk X.prog X.w (upd H a ob) h' a ob) :
   Inv X pins σ (upd H a ob) { s with heap := h', toks := t' } :=
 I.write (x := a) (e := a) mu (.inl rfl) (fun b q hb z => (hs.2 b hb).trans z) he new
end
section
variable {X : Cx} {pins : List (Addr × Obj)} {σ : St} {H : Hp} {s : Shared} {a : Addr} {kvs : List (Key × V)} {k : Key} {u : Value} {A : Around} {E : Value -> Shared -> Prop}
end
def NoSl (i : Expr) : Prop := ∀ ov iv, subscripted i false ov iv = operate [ov, iv] (getItem ov iv)
theorem subD_of {prog : Program} {w : World} {A : Around} {E : Value -> Shared -> Prop} {s : Shared} {env : Env} {value slice : Expr} {pos : Pos} {T id : String} {Q : Value -> Shared -> Prop}
   (hl : typeLookup (.type T) "__getitem__" = pure (some (.builtin id))) (hs : NoSl slice)
   (h : wpAny (model prog w) A (eval value env) (fun o s₁ => wpAny (model prog w) A (eval slice env) (fun i s₂ => s₂.TypeIs o T /\ wpAny (model prog w) A (getItem o i) Q E s₂) E s₁) E s) :
   wpAny (model prog w) A (eval (.Subscript value slice pos) env) Q E s := by
 refine Subscript_ (wpAny_mono h (fun o s₁ h₁ => wpAny_mono h₁ (fun i s₂ h₂ => ?_) fun _ _ x => x) fun _ _ x => x)
 obtain ⟨hT, h₂⟩ := h₂
 unfold subscriptTail
 refine wpAny_bind ?_
 rw [getitemInPython_of_ne hT.not_modules]
 refine wpAny_bind (wpAny_specialOf hT hl ?_)
 have fin : wpAny (model prog w) A (subscripted slice false o i) (fun r s₃ => wpAny (model prog w) A (letTemporaryGo value o r >>= fun _ => pure r) Q E s₃) E s₂ := by
   rw [hs o i]
   exact wpAny_operating (wpAny_mono h₂ (fun r s₃ h₃ => wpAny_bind (wpAny_letTemporaryGo (wpAny_pure h₃))) fun _ _ x => x)
 first
   | exact wpAny_pure (wpAny_bind fin)
   | exact wpAny_bind (wpAny_pure (wpAny_bind fin))
   | exact wpAny_bind fin
def tDGet (td ty : TE) : TE := fun σ H Q => td σ H fun x H1 => ty σ H1 fun y H2 => ∃ a v, x = .ref a /\ DGet H2 a y (some v) /\ Q v H2
section
variable {X : Cx} {o i e value : Expr} {pos pos' tpos : Pos} {td ty tv : TE}
end
def tDNewK : TE := fun _ H Q => ∀ p, H p = none -> Q (.ref p) (upd H p (.dK []))
section
variable {X : Cx} {pos : Pos}
end
def tPairs : List (TE × TE) -> St -> Hp -> (List (V × V) -> Hp -> Prop) -> Prop
 | [], _, H, Q => Q [] H
 | (tk, tv) :: r, σ, H, Q => tk σ H fun x H1 => tv σ H1 fun y H2 => tPairs r σ H2 fun ps H3 => Q ((x, y) :: ps) H3
abbrev VV : List (V × V) -> List (Value × Value) -> Prop := Paired fun p q => RelV p.1 q.1 /\ RelV p.2 q.2
def PPs (X : Cx) (pos : Pos) (keys : List (Option Expr)) (values : List Expr) (trs : List (TE × TE)) : Prop :=
 ∀ (pins : List (Addr × Obj)) (s : Shared) (σ : St) (H : Hp) (Q : List (V × V) -> Hp -> Prop), Inv X pins σ H s -> tPairs trs σ H Q ->
   wpAny (model X.prog X.w) X.A (evalPairs (pairTrees keys values X.env pos)) (fun vs s' => ∃ ps H', Inv X pins σ H' s' /\ VV ps vs /\ Q ps H') X.xe s
def mergeK (kvs more : List (Key × V)) : List (Key × V) := more.foldl (fun acc kv => putK acc kv.1 kv.2) kvs
def tDisp (trs : List (TE × TE)) : TE := fun σ H Q => ∀ p, H p = none -> tPairs trs σ (upd H p (.dK [])) fun ps H2 => H2 p = some (.dK []) /\ ∃ kvs : List (Key × V), ps = kvs.map (fun kv => (kV kv.1, kv.2)) /\ kvs.length <= 15 /\ Q (.ref p) (upd H2 p (.dK (mergeK [] kvs)))
structure M1 (X : Cx) (o : Expr) (m : Str) (apos : Pos) (e : Expr) (cpos : Pos) : Prop where
 base : attributeBase o m X.env (eval o X.env) = eval o X.env
 few : ((backTo cpos (starEach [e] X.env)).all (fun x => !x.1) && (backToKw cpos (keywordEach [] X.env)).all (fun x => x.1.isSome)
   && decide (([e] : List Expr).length + ([] : List Keyword).length + (if ([] : List Keyword).isEmpty then 0 else 1) < 30)) = true
 line : (apos.endLine == cpos.line) = true
 trees : backTo cpos (starEach [e] X.env) = [(false, eval e X.env)]
structure M2 (X : Cx) (o : Expr) (m : Str) (apos : Pos) (e f : Expr) (cpos : Pos) : Prop where
 base : attributeBase o m X.env (eval o X.env) = eval o X.env
 few : ((backTo cpos (starEach [e, f] X.env)).all (fun x => !x.1) && (backToKw cpos (keywordEach [] X.env)).all (fun x => x.1.isSome)
   && decide (([e, f] : List Expr).length + ([] : List Keyword).length + (if ([] : List Keyword).isEmpty then 0 else 1) < 30)) = true
 line : (apos.endLine == cpos.line) = true
 trees : backTo cpos (starEach [e, f] X.env) = [(false, eval e X.env), (false, eval f X.env)]
section
variable {X : Cx} {pins : List (Addr × Obj)} {σ : St} {H : Hp} {s : Shared} {a : Addr} {y d : V} {u r : Value} {o : Option V} {A : Around} {E : Value -> Shared -> Prop}
end
section
variable {X : Cx} {o e f : Expr} {apos cpos : Pos} {td ty tx : TE}
end
section
variable {X : Cx} {pins : List (Addr × Obj)} {σ : St} {H : Hp} {s : Shared} {a : Addr} {kvs : List (Key × V)} {A : Around} {E : Value -> Shared -> Prop}
end
section
variable {X : Cx} {pins : List (Addr × Obj)} {σ : St} {H : Hp} {s : Shared} {a : Addr} {y : V} {u : Value} {A : Around} {E : Value -> Shared -> Prop}
end
end L2
namespace Att
open PySem PySem.W PySem.Calls PyProof.Rows
theorem xT {P : Params} {h : Heap} : ∀ (ns : List Int) (vs : List Value), WellAll P h vs (ns.map WData.int) -> IntsAre vs ns := by
 intro ns
 induction ns with
 | nil =>
   intro vs w
   rw [List.map_nil] at w
   cases w
   exact .nil
 | cons n ns ih =>
   intro vs w
   rw [List.map_cons] at w
   cases w with
   | cons a b =>
     cases a
     exact .cons _ _ (ih _ b)
theorem script_of {l : OpenLaw} {n : Nat} (hn : l.most = some n) {P : Params} {h : Heap} {args : List WData} {vals : List Value}
   (hpre : l.row.toRowW.claim.pre args = true) (hwl : WellAll P h vals args) :
   ∃ a vs ns, vals = [Value.ref a] /\ args = [WData.list (ns.map WData.int)] /\ h.get? a = some { cls := .type "list", data := .seq vs.toArray } /\ IntsAre vs ns /\ ns.length <= n := by
 have hsh : WShape.hasAll [] args [.list .int] = true := (pre_splitW hpre).1
 have hc : l.pre.holds [] { args := args } = true := (pre_splitW hpre).2
 obtain ⟨d, r, rfl, h1, h2⟩ := hasAllW_cons hsh
 obtain rfl := hasAllW_nil h2
 obtain ⟨xs, rfl, h3⟩ := hasW_list h1
 obtain ⟨ns, rfl⟩ := items_int h3
 have hlen : ns.length <= n := by
   unfold OpenLaw.pre at hc
   have h4 : (WTm.not (.lt (.lit (.int (n : Int))) (.len (.arg 0)))).holds [] { args := [.list (ns.map .int)] } = true := by
     have h4 := (holds_andW hc).1
     rw [hn] at h4
     exact h4
   have h5 := condW_of h4 (w_not (w_lt w_lit (w_len_list (w_arg rfl))))
   rw [List.length_map] at h5
   refine Nat.le_of_not_lt fun q => ?_
   have q' : (n : Int) < ((ns.length : Nat) : Int) := by omega
   first
     | (rw [decide_eq_true q'] at h5; exact absurd h5 (by decide))
     | (simp at h5; omega)
 cases hwl with
 | cons w1 w2 =>
   cases w2
   cases w1 with
   | list ho hall => exact ⟨_, _, ns, rfl, rfl, ho, xT ns _ hall, hlen⟩
theorem post_true (l : OpenLaw) (args : List WData) : l.row.toRowW.claim.post args (.bool true) args = true :=
 postW_of (r := l.row.toRowW) (X := (true == true))
   (show WShape.has [] (.bool true) .bool = true by first | rfl | decide | simp [WShape.has, WShape.arms, WShape.armsAll])
   (show (WTm.eq .res (.lit (.bool true))).value [] { args := args, res := some (.bool true), after := args } = some (.bool (true == true)) from w_eq_bool (w_res rfl) w_lit) rfl
theorem attach_call {l : OpenLaw} {n : Nat} {q : Program} {loose : List Str} {XP : (Str -> Option Value) -> Heap -> Prop} {YP : World -> Heap -> Prop} {d : DefRec}
   (hn : l.most = some n) (hdf : d.params.defaults = [])
   (call : ∀ (w : World) (s₀ s₁ : Shared) (mg mb : Str -> Option Value) (fa : Addr) (o : Obj) (pm cd doc : Value) (a : Addr) (vs : List Value) (ns : List Int),
     Ground q loose [] XP w s₀ mg mb s₁.heap -> YP w s₁.heap ->
     s₁.heap.get? fa = some o -> o.data = .func (docDef d.name d.params d.body d.scope pm cd doc) -> s₁.heap.CodeRec cd d.name -> mg d.name = some (.ref fa) ->
     s₁.heap.get? a = some { cls := .type "list", data := .seq vs.toArray } -> IntsAre vs ns -> ns.length <= n -> s₁.gens = #[] ->
     codeAny (model l.prog w) callerA (.call (.ref fa) ⟨[.ref a], []⟩) (fun r s' => r = .ok (.ret (.bool true)) /\ OldK s₁.heap s'.heap /\ s'.os = s₁.os /\ AllBare s'.gens) s₁) :
   WalkO q loose XP YP l.row.toRowW d [] (fun f vs => PySem.call f vs) := by
 intro w s₀ s₁ mg mb G Y fa o pm cd doc dV kV ho hd hcd hD hmg hg args vals as hpre hlay hrd hwl hlo
 obtain rfl : dV = .none := Dflts.none hD hdf
 obtain rfl : kV = .none := Dflts.noKw hD
 obtain ⟨a, vs, ns, rfl, rfl, hobj, hints, hlen⟩ := script_of hn hpre hwl
 refine enter_call (codeAny_mono (call w s₀ s₁ mg mb fa o pm cd doc a vs ns G Y ho (fd_plain hd) hcd hmg hobj hints hlen hg) fun r s' hq => ?_)
 obtain ⟨rfl, h2, h3, h4⟩ := hq
 exact ⟨.inl ⟨.bool true, .bool true, [], rfl, fun _ => rfl, .bool true, post_true l _, fun _ => ⟨List.Pairwise.nil, fun _ hm => (nomatch hm)⟩⟩, h2, h3, h4⟩
section
variable {prog : Program} {w : World} {A : Around} {E : Value -> Shared -> Prop} {s : Shared} {K : Frag}
end
end Att
namespace L2
open PySem PySem.Spec PyProof.Rows
theorem vals_ints : ∀ {vs : List Value} {ns : List Int}, IntsAre vs ns -> Vals (ns.map V.int) vs
 | _, _, .nil => .nil
 | _, _, .cons n t h => .cons ⟨t, rfl⟩ (vals_ints h)
def Only (H : Hp) : Prop := ∀ b, H b = none \/ ∃ o xs, H b = some (.frz o (.lst xs))
theorem law_call {P : Program} {w : World} {K : PySem.W.Frag} {mg mb : Str -> Option Value} {CX : CXT} {k : Nat} {fa a : Addr} {fd : FuncData} {x : Str} {sp : Sp} {s₁ : Shared} {vs : List Value} {ns : List Int}
   (KX : K.In s₁.heap) (hns : s₁.heap.Ns mainGlobals mg) (hb : s₁.heap.Ns builtinsNs mb) (hbb : ∀ x : Str, x ≠ "__name__" -> mb x = bootBuiltins x) (hlim : s₁.heap.NoLimit) (hg : s₁.gens = #[])
   (ha : s₁.heap.get? a = some { cls := .type "list", data := .seq vs.toArray }) (hi : IntsAre vs ns) (hl : ns.length <= sizeLine) (hr : Room k callerA)
   (F : ∀ base : Heap, K.In base -> base.Ns mainGlobals mg -> FnOk P w K mg base CX k fa fd [x] sp) (hbind : ∀ (s : Shared) (u : Value), BindsTo s fd ⟨[u], []⟩ [(x, u)])
   (hsp : ∀ H : Hp, Only H -> SqL K H a (ns.map V.int) -> sp [.ref a] H (fun v _ => v = .bl true) fun _ _ _ => False)
   (hCX : ∀ H e s', CX [] H s₁ (fun _ _ _ => False) e s' -> False) :
   codeAny (model P w) callerA (.call (.ref fa) ⟨[.ref a], []⟩) (fun r s' => r = .ok (.ret (.bool true)) /\ OldK s₁.heap s'.heap /\ s'.os = s₁.os /\ AllBare s'.gens) s₁ := by
 have rv := vals_ints hi
 have lenV := hi.length
 have core : ∀ H : Hp, Only H -> SqL K H a (ns.map V.int) -> HOk P w H s₁.heap -> (∀ b, H b ≠ none -> b = a) -> (H a ≠ none -> K.lookup a = none) ->
     codeAny (model P w) callerA (.call (.ref fa) ⟨[.ref a], []⟩) (fun r s' => r = .ok (.ret (.bool true)) /\ OldK s₁.heap s'.heap /\ s'.os = s₁.os /\ AllBare s'.gens) s₁ := by
   intro H hO hS hok hA hK
   have base_of : ∀ {b : Addr} {o : Obj}, s₁.heap.get? b = some o -> H b = none -> (qH s₁.heap H).get? b = some o := fun e n => hidT_get e n
   have noA : ∀ {b : Addr} {o : Obj} {es : Array DictEntry} {ep : Nat}, s₁.heap.get? b = some o -> o.data = .dict es ep -> H b = none := fun {b o es ep} e d => by
     cases q : H b with
     | none => rfl
     | some u =>
       have e' : b = a := hA b (by rw [q]; simp)
       subst e'
       rw [ha] at e; cases e
       have d' : Data.seq vs.toArray _ = Data.dict es ep := d
       cases d'
   have nsK : ∀ {b : Addr} {m : Str -> Option Value}, s₁.heap.Ns b m -> (qH s₁.heap H).Ns b m := fun {b m} ⟨o, es, ep, e, d, r⟩ => ⟨o, es, ep, base_of e (noA e d), d, r⟩
   have hKb : K.In (qH s₁.heap H) := fun b o e => base_of (KX b o e) (by
     cases q : H b with
     | none => rfl
     | some u =>
       have e' : b = a := hA b (by rw [q]; simp)
       subst e'
       rw [hK (by rw [q]; simp)] at e; cases e)
   have hM : Mod K mg (qH s₁.heap H) := ⟨hKb, nsK hns, ⟨mb, nsK hb, hbb⟩, let ⟨mc, h1, h2⟩ := hlim; ⟨mc, nsK h1, h2⟩⟩
   have e0 : Env0 P w K mg (qH s₁.heap H) callerA [] s₁ H := ⟨rfl, hM, fun b o e => of_hidT e, Nat.le_of_eq (hidT_size _ _), trivial, fun b hb => absurd (show b ∈ ([] : List Addr) from hb) (by simp), hok, .of_eq hg⟩
   refine codeAny_mono ((F _ hKb (nsK hns)).run callerA [] s₁ H ⟨[.ref a], []⟩ [.ref a] [.ref a] _ _ hr e0 (hbind s₁ (.ref a)) (.cons rfl .nil) (hsp H hO hS)) fun r s' h => ?_
   cases r with
   | error e => exact (hCX H e s' h).elim
   | ok fl =>
     cases fl with
     | next => exact False.elim h
     | brk => exact False.elim h
     | cont => exact False.elim h
     | ret u =>
       obtain ⟨v, H', os, bare, un, hok', r', q⟩ := h
       have q' : v = .bl true := q
       subst q'
       obtain rfl : u = Value.bool true := r'
       refine ⟨rfl, OldK.of_keep fun b o e => ?_, os, bare⟩
       cases q : H b with
       | none => exact un.keep b o e q (by intro z; exact absurd (show b ∈ ([] : List Addr) from z) (by simp)) (by simp)
       | some u =>
         rcases hO b with z | ⟨ob, xs, z⟩
         · rw [q] at z; cases z
         · have z2 := un.frzs b ob _ z
           obtain ⟨e1, _⟩ := hok b _ z
           obtain ⟨e2, _⟩ := hok' b _ z2
           rw [e] at e1; cases e1
           exact e2
 cases hk : K.lookup a with
 | some o =>
   have e := KX a o hk
   rw [ha] at e
   cases e
   refine core (fun _ => none) (fun _ => .inl rfl) (.inr ⟨_, vs.toArray, _, hk, rfl, rfl, rfl, by rw [List.size_toArray, lenV]; exact hl, by simpa using rv⟩) (fun b u z => by have z' : (none : Option HO) = some u := z; cases z') (fun b z => absurd rfl z) fun z => absurd rfl z
 | none =>
   refine core (fun b => if b = a then some (.frz { cls := .type "list", data := .seq vs.toArray } (.lst (ns.map V.int))) else none) (fun b => ?_) (.inl (.inr ⟨{ cls := .type "list", data := .seq vs.toArray }, if_pos rfl⟩)) (fun b u z => ?_) (fun b z => ?_) fun _ => hk
   · by_cases hb : b = a
     · exact .inr ⟨_, _, if_pos hb⟩
     · exact .inl (if_neg hb)
   · by_cases hb : b = a
     · have z' := (if_pos hb).symm.trans z
       cases z'
       subst hb
       exact ⟨ha, by rw [List.length_map]; exact hl, vs, _, rv, ha⟩
     · have z' := (if_neg hb).symm.trans z
       cases z'
   · by_cases hb : b = a
     · exact hb
     · exact absurd (if_neg hb) z
theorem walk_of {l : PySem.W.OpenLaw} {n k : Nat} {q : Program} {loose : List Str} {XP : (Str -> Option Value) -> Heap -> Prop} {YP : World -> Heap -> Prop} {d : DefRec} {K : Params -> PySem.W.Frag} {CX : World -> CXT} {sp : World -> Sp} {x : Str}
   (hn : l.most = some n) (hn2 : n <= sizeLine) (hdf : d.params.defaults = []) (hr : Room k callerA)
   (hY : ∀ (w : World) (h : Heap), YP w h -> (K w.params).In h)
   (F : ∀ (w : World) (mg : Str -> Option Value) (fa : Addr) (h : Heap), (K w.params).In h -> h.Ns mainGlobals mg -> mg d.name = some (.ref fa) ->
     ∃ fd : FuncData, (∀ (s : Shared) (u : Value), BindsTo s fd ⟨[u], []⟩ [(x, u)]) /\
       ∀ base : Heap, (K w.params).In base -> base.Ns mainGlobals mg -> FnOk l.prog w (K w.params) mg base (CX w) k fa fd [x] (sp w))
   (hsp : ∀ (w : World) (H : Hp) (a : Addr) (ns : List Int), ns.length <= n -> Only H -> SqL (K w.params) H a (ns.map V.int) -> sp w [.ref a] H (fun v _ => v = .bl true) fun _ _ _ => False)
   (hCX : ∀ (w : World) (H : Hp) (s : Shared) (e : Value) (s' : Shared), CX w [] H s (fun _ _ _ => False) e s' -> False) :
   PySem.W.WalkO q loose XP YP l.row.toRowW d [] (fun f vs => PySem.call f vs) := by
 refine Att.attach_call hn hdf fun w s₀ s₁ mg mb fa o pm cd doc a vs ns G Y ho hd hcd hmg hobj hints hlen hg => ?_
 have KX := hY w _ Y
 obtain ⟨fd, hb, hF⟩ := F w mg fa _ KX G.T.g hmg
 exact law_call KX G.T.g G.T.b G.T.builtins G.T.nolimit hg hobj hints (Nat.le_trans hlen hn2) hr hF hb (fun H hO hS => hsp w H a ns hlen hO hS) fun H e s' => hCX w H s₁ e s'
def zW (s : Stmt) : Arguments := match s with
 | .FunctionDef _ a _ _ _ _ _ _ _ _ => a
 | _ => { posonlyargs := [], args := [], vararg := none, kwonlyargs := [], kw_defaults := [], kwarg := none, defaults := [] }
def zT (s : Stmt) : List Stmt := match s with
 | .FunctionDef _ _ b _ _ _ _ _ _ _ => b
 | _ => []
def zG (s : Stmt) : Scope := match s with
 | .FunctionDef _ _ _ _ _ _ sc _ _ _ => sc
 | _ => { kind := .function, names := [], isGenerator := false, isCoroutine := false }
abbrev CX0 : CXT := fun _ _ _ _ _ _ => False
abbrev E0 : XK := fun _ _ _ => False
theorem pass0 {X : Cx} : qN CX0 X E0 := fun _ _ _ _ _ _ _ h => h.elim
structure Fun (K : PySem.W.Frag) (x qual : Str) (st : Stmt) (f : Addr) (fd : FuncData) : Prop where
 ex : ∃ (oc : Value) (od : Option Addr) (kV doc pm : Value) (an : Option Addr) (cdv ct : Value) (osl : Array (Option Value)),
   fd = PySem.W.fnOf x qual (zW st) (zT st) (zG st) .none kV doc pm an cdv ct /\ K.lookup f = some ⟨oc, od, .func fd, osl⟩ /\ PySem.W.codeIn K cdv qual = true
 kp : PySem.W.keepIn K (.ref f) = true
section
variable {P : Program} {w : World} {K : PySem.W.Frag} {mg : Str -> Option Value} {base : Heap}
theorem Fun.ok {x qual : Str} {st : Stmt} {f : Addr} {fd : FuncData} {N ps : List Str} {k : Nat} {sp : Sp} (F : Fun K x qual st f fd) (S : FnScope N ps (zG st)) (len : ∀ vs H Q E, sp vs H Q E -> vs.length = ps.length)
   (hbody : ∀ (cdv : Value) (A : Around) (outer : List Env) (s : Shared) (H : Hp) (vs : List V) (Q : VK) (E : XK), Room k (A.deeper (envOfC qual (zG st) s.heap.objs.size f cdv)) -> sp vs H Q E ->
     ∃ t, PSs (yL CX0 P w K mg base N qual (zG st) f cdv A outer s H E).nox (zT st) t /\ t { nx := fun _ H' => Q .non H', rt := Q } (start N vs) H) : FnOk P w K mg base CX0 (k + 1) f fd ps sp := by
 obtain ⟨oc, od, kV, doc, pm, an, cdv, ct, osl, rfl, lk, hcd⟩ := F.ex
 refine fn_of lk hcd S len fun A outer s H vs Q E hr hsp => ?_
 obtain ⟨t, h, q⟩ := hbody cdv A outer s H vs Q E hr hsp
 exact ⟨t, h.nox, q⟩
theorem Fun.binds {x qual : Str} {st : Stmt} {f : Addr} {fd : FuncData} {ps : List Str} (F : Fun K x qual st f fd)
   (h : ∀ (kV doc pm : Value) (an : Option Addr) (cdv ct : Value) (us : List Value), us.length = ps.length -> bindArgs (PySem.W.fnOf x qual (zW st) (zT st) (zG st) .none kV doc pm an cdv ct) ⟨us, []⟩ = pure (ps.zip us)) : Binds K fd ps [] := by
 obtain ⟨oc, od, kV, doc, pm, an, cdv, ct, osl, rfl, lk, hcd⟩ := F.ex
 exact .all (h kV doc pm an cdv ct)
theorem yF {x qual : Str} {st : Stmt} {f : Addr} {oc : Value} {od an : Option Addr} {osl : Array (Option Value)} {kV doc pm cdv ct : Value} (l : K.lookup f = some ⟨oc, od, .func (PySem.W.fnOf x qual (zW st) (zT st) (zG st) .none kV doc pm an cdv ct), osl⟩)
   (c : PySem.W.codeIn K cdv qual = true) (k : PySem.W.keepIn K (.ref f) = true) : Fun K x qual st f (PySem.W.fnOf x qual (zW st) (zT st) (zG st) .none kV doc pm an cdv ct) := ⟨⟨oc, od, kV, doc, pm, an, cdv, ct, osl, rfl, l, c⟩, k⟩
end
theorem hu_of {A : Around} {k : Nat} (hr : Room k A) : A.units + 1 < cLine := Nat.lt_of_le_of_lt (Nat.add_le_add_left (by decide : 1 <= 64) _) hr.units
theorem zY {n : Nat} (h : n <= 1000) : n < sizeLine := Nat.lt_of_le_of_lt h (by decide)
section
variable {X : Cx}
theorem pv (i : Nat) {x : Str} {pos : Pos} (hN : X.N[i]? = some x := by rfl) (hv : Vis X.env.scope x := by first | exact Or.inl rfl | exact Or.inr (Or.inl rfl) | exact Or.inr (Or.inr rfl)) (hd : (x == ("__debug__" : Str)) = false := by decide)
   (hcd : (x == ("__classdict__" : Str)) = false := by decide) : PE X (.Name x pos) (tVar i) := pe_var hN hv hd hcd
end
theorem xP {A B : Prop} (h : B) : if false = true then A else B := by
 rw [if_neg Bool.false_ne_true]
 exact h
theorem iteT {A B : Prop} (h : A) : if true = true then A else B := by
 rw [if_pos rfl]
 exact h
def Same (H H' : Hp) : Prop := ∀ b o, H b = some o -> H' b = some o
theorem Same.refl (H : Hp) : Same H H := fun _ _ h => h
theorem Same.trans {H H1 H2 : Hp} (a : Same H H1) (b : Same H1 H2) : Same H H2 := fun c o h => b c o (a c o h)
theorem Same.free {H H' : Hp} (e : Same H H') {l : Addr} (h : H' l = Option.none) : H l = Option.none := by
 cases q : H l with
 | none => rfl
 | some o =>
   rw [e l o q] at h
   cases h
theorem Same.seq {K : PySem.W.Frag} {H H' : Hp} {a : Addr} {xs : List V} (e : Same H H') (h : SqL K H a xs) : SqL K H' a xs := by
 rcases h with (h | ⟨o, h⟩) | h
 · exact .inl (.inl (e _ _ h))
 · exact .inl (.inr ⟨o, e _ _ h⟩)
 · exact .inr h
section
variable {X : Cx}
end
section
variable {κ : Type} [DecidableEq κ]
end
def closL (env : Env) : List (Str × NameKind) -> List (Str × Addr) -> List (Str × Addr)
 | [], cs => cs
 | (n, k) :: r, cs => if (k == NameKind.free) = true then closL env r ((n, (env.cells.lookup n).getD 0) :: cs) else closL env r cs
structure LcScope (xs ys : List Str) (scope around : Scope) : Prop where
 kind : scope.kind = .function
 nd : (xs ++ ys).Nodup
 own : ∀ x ∈ xs, scope.names.lookup x = some .local
 cap : ∀ y ∈ ys, scope.names.lookup y = some .free /\ (around.names.lookup y = some .cell \/ around.names.lookup y = some .free)
 nocell : ∀ y ∈ scope.names, y.2 ≠ .cell
 names : ∀ y ∈ scope.names, y.2 = .local -> scope.names.lookup y.1 = some .local
 free : ∀ y ∈ scope.names, y.2 = .free -> y.1 ∈ ys
def qL (X : Cx) (xs ys : List Str) (scope : Scope) (C : Addr) (s₀ : Shared) (H₀ : Hp) (fp : List Addr) : Cx where
 prog := X.prog
 w := X.w
 K := X.K
 mg := X.mg
 base := X.base
 A := X.A
 N := xs ++ ys
 s₀ := s₀
 H₀ := H₀
 env := compEnvC scope (closL X.env scope.names []) C X.env
 outer := X.stack
 stack := X.stack
 ex := fp
 fn := fun _ => false
 calm := X.calm
 pn := []
 xe := fun _ _ => False
def lcSt (xs : List Str) (js : List Nat) (σ : St) : St := xs.map (fun _ => none) ++ js.map fun j => (σ[j]?).join
def LcW (J : It) (n : List Str) (js : List Nat) (g : TG) (tc : Option TT) (te : TE) (σ : St) (H1 : Hp) (Q : VK) : Prop := ∃ W : Nat -> Nat -> List V -> St -> Hp -> Prop, (∃ m, W 0 m [] (lcSt n js σ) H1) /\ ∀ i m ys σ1 H, W i m ys σ1 H ->
 (J.stop i H /\ ∀ p, H p = none -> Q (.ref p) (upd H p (.lst ys))) \/
 (J.go i H /\ ys.length < sizeLine /\ ∀ x H', J.yld i H x H' -> g x σ1 H' fun σ2 H2 => match tc with
   | none => te σ2 H2 fun y H3 => ∃ m', m' < m /\ W (i + 1) m' (ys ++ [y]) σ2 H3
   | some c => c σ2 H2 fun b H3 => if b = true then te σ2 H3 fun y H4 => ∃ m', m' < m /\ W (i + 1) m' (ys ++ [y]) σ2 H4 else ∃ m', m' < m /\ W (i + 1) m' ys σ2 H3)
def tLC (n : List Str) (js : List Nat) (wi : TI) (g : TG) (tc : Option TT) (te : TE) : TE := fun σ H Q => wi σ H fun J H1 => LcW J n js g tc te σ H1 Q
def PIf (X : Cx) (ifs : List Expr) (tc : Option TT) : Prop := match ifs, tc with
 | [], none => True
 | [c], some t => PT X c t
 | _, _ => False
section
variable {X : Cx} {pins : List (Addr × Obj)} {σ : St} {H : Hp} {s : Shared} {xs ys : List Str} {scope : Scope} {fp : List Addr} {C D : Addr} {js : List Nat}
end
section
variable {X : Cx} {pins : List (Addr × Obj)} {σ : St} {H : Hp} {s : Shared} {xs ys : List Str} {scope : Scope} {js : List Nat} {tg iter elt : Expr} {ifs : List Expr} {pos : Pos} {wi : TI} {g : TG} {tc : Option TT} {te : TE}
structure LcEnd (X : Cx) (pins : List (Addr × Obj)) (σ : St) (C : Addr) (H' : Hp) (s' : Shared) : Prop where
 inv : Inv X pins σ H' s'
 ns : ∃ m, s'.heap.Ns C m
 free : H' C = none
 ne : C ≠ X.env.locals
 up : X.s₀.heap.objs.size <= C
 cells : ∀ x c, X.env.cells.lookup x = some c -> c ≠ C
 pin : ∀ p ∈ X.pn ++ pins, p.1 ≠ C
end
def Its (x : Str) : It := ⟨fun i _ => i < x.cps.size, fun i H v H' => H' = H /\ ∃ c, x.cps[i]? = some c /\ v = .str ⟨#[c]⟩, fun i _ => x.cps.size <= i⟩
section
variable {X : Cx} {tg : Expr}
def iStr (tl : TE) : TI := fun σ H R => tl σ H fun x H1 => ∃ z, x = .str z /\ R (Its z) H1
end
def rSlS : V -> Option Int -> Option Int -> Hp -> VK -> Prop := fun x lo hi H Q => ∃ z, x = .str z /\ z.length <= sizeLine /\ Q (.str (Txt.slice z lo hi)) H
section
variable {X : Cx}
theorem ints_pair : ∀ {ns : List Int} {its : List Value}, Vals (ns.map V.int) its -> ∃ xs : Array (Int × Tok), its.toArray = intItems xs /\ xs.toList.map (·.1) = ns
 | [], its, r => by
   rw [List.map_nil] at r
   cases r
   exact ⟨#[], by simp [intItems], rfl⟩
 | n :: ns, its, r => by
   rw [List.map_cons] at r
   cases r with
   | @cons a b as bs h t =>
     obtain ⟨xs, e, q⟩ := ints_pair t
     obtain ⟨tk, hb⟩ := (show ∃ tk, b = Value.int n tk from h)
     refine ⟨((n, tk) :: xs.toList).toArray, ?_, by simp [q]⟩
     have e2 : bs = (intItems xs).toList := by rw [← e]
     rw [hb, e2]
     simp [intItems]
theorem best_max (f : Nat -> Int) : ∀ k, (∀ i, i <= k -> f i <= f (argBest (fun i j => decide (f i > f j)) k)) /\ argBest (fun i j => decide (f i > f j)) k <= k
 | 0 => ⟨fun i hi => by have : i = 0 := by omega
                        subst this; exact Int.le_refl _, Nat.le_refl _⟩
 | k + 1 => by
   obtain ⟨h1, h2⟩ := best_max f k
   unfold argBest
   by_cases hc : f (k + 1) > f (argBest (fun i j => decide (f i > f j)) k)
   · rw [if_pos (decide_eq_true hc)]
     refine ⟨fun i hi => ?_, Nat.le_refl _⟩
     by_cases e : i = k + 1
     · subst e; exact Int.le_refl _
     · have := h1 i (by omega); omega
   · rw [if_neg (by simpa using hc)]
     refine ⟨fun i hi => ?_, by omega⟩
     by_cases e : i = k + 1
     · subst e; omega
     · exact h1 i (by omega)
def maxI : List Int -> Int
 | [] => 0
 | [n] => n
 | n :: m :: r => max n (maxI (m :: r))
theorem maxI_ge : ∀ {ns : List Int} {n : Int}, n ∈ ns -> n <= maxI ns
 | [a], n, h => by simp at h; subst h; exact Int.le_refl _
 | a :: b :: r, n, h => by
   rw [maxI]
   rcases List.mem_cons.mp h with h | h
   · subst h; omega
   · have := maxI_ge h; omega
theorem maxI_mem : ∀ {ns : List Int}, ns ≠ [] -> maxI ns ∈ ns
 | [a], _ => by simp [maxI]
 | a :: b :: r, _ => by
   rw [maxI]
   have := maxI_mem (ns := b :: r) (by simp)
   by_cases h : a <= maxI (b :: r)
   · rw [Int.max_eq_right h]; exact List.mem_cons_of_mem _ this
   · rw [Int.max_eq_left (by omega)]; exact List.mem_cons_self
theorem maxI_is {ns : List Int} {v : Int} (h1 : v ∈ ns) (h2 : ∀ n ∈ ns, n <= v) : v = maxI ns :=
 Int.le_antisymm (maxI_ge h1) (h2 _ (maxI_mem (List.ne_nil_of_mem h1)))
theorem call_maxI : yW X (.builtin "max") (fun xs H Q => X.calm = true /\ ∃ (p : Addr) (ns : List Int), xs = [.ref p] /\ SqL X.K H p (ns.map V.int) /\ ns ≠ [] /\ Q (.int (maxI ns)) H) := by
 intro pins s σ H xs us Q I r h
 obtain ⟨hc, p, ns, rfl, hp, hne, q⟩ := h
 obtain ⟨u, rfl, ru⟩ := vals1 r
 cases ru
 obtain ⟨its, rv, hl, hz⟩ := I.list hp
 obtain ⟨xs, e1, e2⟩ := ints_pair rv
 have hn : xs.size = ns.length := by rw [← e2]; simp
 have h0 : 0 < xs.size := by rw [hn]; exact List.length_pos_iff.mpr hne
 rw [e1] at hl
 refine max_intList (I.ok.hd hc) hl.isList h0 fun v h' tk hv k => ?_
 obtain ⟨tk', rfl⟩ := intItems_at hv
 refine ⟨.int (maxI ns), H, I.kept k, ⟨tk', ?_⟩, q⟩
 have b := best_max (numAt xs) (xs.size - 1)
 have at_mem : ∀ i, i < xs.size -> numAt xs i ∈ ns := fun i hi => by
   rw [← e2]
   simp only [numAt, Array.getElem?_eq_getElem hi, Option.map_some, Option.getD_some, List.mem_map]
   exact ⟨xs[i], by simp, rfl⟩
 have e3 : numAt xs (argBest (fun i j => decide (numAt xs i > numAt xs j)) (xs.size - 1)) = maxI ns := by
   refine maxI_is (at_mem _ (by omega)) fun n hn' => ?_
   rw [← e2] at hn'
   obtain ⟨y, hy, rfl⟩ := List.mem_map.mp hn'
   obtain ⟨i, hi, rfl⟩ := List.getElem_of_mem hy
   have hi' : i < xs.size := by simpa using hi
   have := b.1 i (by omega)
   simpa [numAt, hi'] using this
 rw [e3]
end
structure Has (P : Program) (w : World) (K : PySem.W.Frag) (mg : Str -> Option Value) (base : Heap) (k : Nat) (x : Str) (ps : List Str) (sp : Sp) : Prop where
 ex : ∃ f fd, FnOk P w K mg base CX0 k f fd ps sp /\ Binds K fd ps [] /\ PySem.W.keepIn K (.ref f) = true /\ mg x = some (.ref f)
def Gc (mg : Str -> Option Value) (x : Str) (v : V) : Prop := ∃ u, mg x = some u /\ RelV v u
section
variable {X : Cx} {k : Nat} {x : Str} {ps : List Str} {sp : Sp} {p pos : Pos} {e : Expr} {es : List Expr} {t : TA} {v : V}
theorem zL (h : Has X.prog X.w X.K X.mg X.base k x ps sp) (hr : Room k X.A) (hg : Gl X x) (ha : PA X (e :: es) t) (hdb : (x == ("__debug__" : Str)) = false := by decide)
   (he : starEach (e :: es) X.env = (false, eval e X.env) :: starEach es X.env := by rfl) (hpl : (backTo pos (starEach es X.env)).any (·.1) = false := by rfl) : PE X (.Call (.Name x p) (e :: es) [] pos) (tCall sp [] E0 t) := by
 obtain ⟨f, fd, F, b, kp, m⟩ := h.ex
 exact pe_call F hr hg m kp b .nil pass0 ha hdb he hpl
theorem xQ (h : Gc X.mg x v) (hg : Gl X x) (hd : (x == ("__debug__" : Str)) = false := by decide) : PE X (.Name x pos) (tC v) := by
 obtain ⟨u, m, r⟩ := h
 exact pe_glob hg m r hd
theorem xC {T : String} (hm : X.mg x = none) (hv : bootBuiltins x = some (.type T)) (hg : Gl X x) (hn : x ≠ "__name__" := by decide) (hd : (x == ("__debug__" : Str)) = false := by decide) : PE X (.Name x pos) (tC (.ty T)) :=
 pe_bltn hg hm hv rfl hn hd
end
def lcOk (xs ys : List Str) (scope around : Scope) : Bool :=
 (scope.kind == .function) && decide (xs ++ ys).Nodup && xs.all (fun x => scope.names.lookup x == some .local) &&
 ys.all (fun y => (scope.names.lookup y == some .free) && ((around.names.lookup y == some .cell) || (around.names.lookup y == some .free))) &&
 scope.names.all (fun y => (y.2 != .cell) && ((y.2 != .local) || (scope.names.lookup y.1 == some .local)) && ((y.2 != .free) || ys.contains y.1))
theorem lcOk.scope {xs ys : List Str} {scope around : Scope} (h : lcOk xs ys scope around = true) : LcScope xs ys scope around := by
 unfold lcOk at h
 simp only [Bool.and_eq_true, beq_iff_eq, decide_eq_true_eq, List.all_eq_true, Bool.or_eq_true, bne_iff_ne, List.contains_iff_mem] at h
 obtain ⟨⟨⟨⟨h1, h2⟩, h3⟩, h4⟩, h5⟩ := h
 exact ⟨h1, h2, h3, h4, fun y hy => (h5 y hy).1.1, fun y hy hl => (h5 y hy).1.2.resolve_left (fun z => z hl), fun y hy hf => (h5 y hy).2.resolve_left (fun z => z hf)⟩
section
variable {X : Cx} {xs ys : List Str} {scope : Scope} {js : List Nat} {tg iter elt : Expr} {ifs : List Expr} {pos : Pos} {wi : TI} {g : TG} {tc : Option TT} {te : TE}
end
theorem bt_len : bootBuiltins "len" = some (.builtin "len") := by decide +kernel
theorem bt_isinstance : bootBuiltins "isinstance" = some (.builtin "isinstance") := by decide +kernel
theorem bt_max : bootBuiltins "max" = some (.builtin "max") := by decide +kernel
theorem bt_tuple : bootBuiltins "tuple" = some (.type "tuple") := by decide +kernel
theorem bt_list : bootBuiltins "list" = some (.type "list") := by decide +kernel
theorem bt_int : bootBuiltins "int" = some (.type "int") := by decide +kernel
theorem bt_bool : bootBuiltins "bool" = some (.type "bool") := by decide +kernel
theorem bt_str : bootBuiltins "str" = some (.type "str") := by decide +kernel
theorem cx_K {CX : CXT} {P : Program} {w : World} {K : PySem.W.Frag} {mg : Str -> Option Value} {base : Heap} {N : List Str} {qual : Str} {scope : Scope} {f : Addr} {cd : Value} {A : Around} {outer : List Env} {s : Shared} {H : Hp} {E : XK} : (yL CX P w K mg base N qual scope f cd A outer s H E).K = K := rfl
theorem cx_calm {CX : CXT} {P : Program} {w : World} {K : PySem.W.Frag} {mg : Str -> Option Value} {base : Heap} {N : List Str} {qual : Str} {scope : Scope} {f : Addr} {cd : Value} {A : Around} {outer : List Env} {s : Shared} {H : Hp} {E : XK} : (yL CX P w K mg base N qual scope f cd A outer s H E).calm = true := rfl
theorem bk_calm {X : Cx} {xs ys : List Str} {scope : Scope} {C : Addr} {s₀ : Shared} {H₀ : Hp} {fp : List Addr} : (qL X xs ys scope C s₀ H₀ fp).calm = X.calm := rfl
theorem lenV_str {K : PySem.W.Frag} {y : Str} {H : Hp} {n : Nat} : LenV K (.str y) H n ↔ (y.length <= sizeLine /\ n = y.length) := Iff.rfl
theorem bk_K {X : Cx} {xs ys : List Str} {scope : Scope} {C : Addr} {s₀ : Shared} {H₀ : Hp} {fp : List Addr} : (qL X xs ys scope C s₀ H₀ fp).K = X.K := rfl
theorem ix_nat {ns : List Int} {k : Nat} (h : (k : Int) < ns.length) : atI (ns.map V.int) (k : Int) = some (.int (ns.getD k 0)) := by
 refine yB ?_
 have h' : k < ns.length := by omega
 rw [List.getElem?_map, List.getElem?_eq_getElem h', List.getD_eq_getElem?_getD, List.getElem?_eq_getElem h']
 rfl
def ForW (J : It) (g : TG) (tb : TS) (D : Ends) (σ : St) (H : Hp) : Prop := ∃ W : Nat -> Nat -> St -> Hp -> Prop, (∃ m, W 0 m σ H) /\ ∀ i m σ H, W i m σ H ->
 (J.stop i H /\ D.nx σ H) \/ (J.go i H /\ ∃ N : St -> Hp -> Prop, (∀ σ' H', N σ' H' -> ∃ m', m' < m /\ W (i + 1) m' σ' H') /\ ∀ x H', J.yld i H x H' -> g x σ H' fun σ2 H2 => tb { D with nx := N, ct := N, bk := D.nx } σ2 H2)
theorem tFor_eq {wi : TI} {g : TG} {tb : TS} {D : Ends} {σ : St} {H : Hp} : tFor wi g tb D σ H = wi σ H fun J H1 => ForW J g tb D σ H1 := rfl
theorem tLC_eq {n : List Str} {js : List Nat} {wi : TI} {g : TG} {tc : Option TT} {te : TE} {σ : St} {H : Hp} {Q : VK} : tLC n js wi g tc te σ H Q = wi σ H fun J H1 => LcW J n js g tc te σ H1 Q := rfl
theorem qI {K : PySem.W.Frag} {a : Addr} {xs : List V} {g : TG} {tb : TS} {D : Ends} {σ : St} {H : Hp} (Pv : Nat -> St -> Hp -> Prop) (h0 : Pv 0 σ H) (hl : ∀ i σ H, i <= xs.length -> Pv i σ H -> SqL K H a xs)
   (hs : ∀ i x σ H, xs[i]? = some x -> Pv i σ H -> g x σ H fun σ2 H2 => tb { D with nx := Pv (i + 1), ct := Pv (i + 1), bk := D.nx } σ2 H2) (hd : ∀ σ H, Pv xs.length σ H -> D.nx σ H) : ForW (Itl K a) g tb D σ H := for_list Pv h0 hl hs hd
theorem fw_tup {K : PySem.W.Frag} {a : Addr} {xs : List V} {g : TG} {tb : TS} {D : Ends} {σ : St} {H : Hp} (Pv : Nat -> St -> Hp -> Prop) (h0 : Pv 0 σ H) (hl : ∀ i σ H, i <= xs.length -> Pv i σ H -> SqT K H a xs)
   (hs : ∀ i x σ H, xs[i]? = some x -> Pv i σ H -> g x σ H fun σ2 H2 => tb { D with nx := Pv (i + 1), ct := Pv (i + 1), bk := D.nx } σ2 H2) (hd : ∀ σ H, Pv xs.length σ H -> D.nx σ H) : ForW (Itt K a) g tb D σ H := for_tup Pv h0 hl hs hd
theorem xJ {lo : Int} {n : Nat} {g : TG} {tb : TS} {D : Ends} {σ : St} {H : Hp} (Pv : Nat -> St -> Hp -> Prop) (h0 : Pv 0 σ H)
   (hs : ∀ i σ H, i < n -> Pv i σ H -> g (.int (lo + i)) σ H fun σ2 H2 => tb { D with nx := Pv (i + 1), ct := Pv (i + 1), bk := D.nx } σ2 H2) (hd : ∀ σ H, Pv n σ H -> D.nx σ H) : ForW (Itr lo n) g tb D σ H := for_range Pv h0 hs hd
theorem zI {t u : TS} {D : Ends} {σ : St} {H : Hp} (h : ∀ N : St -> Hp -> Prop, (∀ σ H, u D σ H -> N σ H) -> t { D with nx := N } σ H) : tSeq t u D σ H := h (u D) fun _ _ z => z
theorem if_abs {c : TT} {t u : TS} {D : Ends} {σ : St} {H : Hp} (h : ∀ T U : Hp -> Prop, (∀ H1, t D σ H1 -> T H1) -> (∀ H1, u D σ H1 -> U H1) -> c σ H fun b H1 => if b = true then T H1 else U H1) : tIfS c t u D σ H := h (t D σ) (u D σ) (fun _ z => z) fun _ z => z
theorem zZ {t u : TS} {D : Ends} {σ : St} {H : Hp} (J : St -> Hp -> Prop) (h1 : ∀ N : St -> Hp -> Prop, (∀ σ H, J σ H -> N σ H) -> t { D with nx := N } σ H) (h2 : ∀ σ H, J σ H -> u D σ H) : tSeq t u D σ H := h1 (u D) h2
structure Bi (mg : Str -> Option Value) : Prop where
 len : mg "len" = none
 range : mg "range" = none
 isinstance : mg "isinstance" = none
 max : mg "max" = none
 sum : mg "sum" = none
 all : mg "all" = none
 tuple : mg "tuple" = none
 list : mg "list" = none
 sorted : mg "sorted" = none
 set : mg "set" = none
 int : mg "int" = none
 bool : mg "bool" = none
 str : mg "str" = none
 dict : mg "dict" = none
theorem yJ {P : Program} {w : World} {K : PySem.W.Frag} {mg : Str -> Option Value} {base : Heap} {k : Nat} {x : Str} {ps : List Str} {sp : Sp} {st : Stmt} {f : Addr} {fd : FuncData} (F : Fun K x x st f fd) (ok : FnOk P w K mg base CX0 k f fd ps sp) (b : Binds K fd ps [])
   (m : mg x = some (.ref f)) : Has P w K mg base k x ps sp := ⟨f, fd, ok, b, F.kp, m⟩
inductive Dt where
 | non | bl (b : Bool) | int (i : Int) | str (x : Str) | tup (ds : List Dt) | lst (ds : List Dt)
mutual
def DAt (H : Hp) : Dt -> V -> Prop
 | .non, v => v = .non
 | .bl b, v => v = .bl b
 | .int i, v => v = .int i
 | .str x, v => v = .str x
 | .tup ds, v => ∃ a vs, v = .ref a /\ H a = some (.tup vs) /\ DAts H ds vs
 | .lst ds, v => ∃ a vs, v = .ref a /\ H a = some (.lst vs) /\ DAts H ds vs
def DAts (H : Hp) : List Dt -> List V -> Prop
 | [], vs => vs = []
 | d :: ds, vs => ∃ v r, vs = v :: r /\ DAt H d v /\ DAts H ds r
end
mutual
theorem DAt.same {H H' : Hp} (e : Same H H') : ∀ {d : Dt} {v : V}, DAt H d v -> DAt H' d v
 | .non, _, h => h
 | .bl _, _, h => h
 | .int _, _, h => h
 | .str _, _, h => h
 | .tup ds, v, h => by
   obtain ⟨a, vs, e1, e2, e3⟩ := h
   exact ⟨a, vs, e1, e _ _ e2, DAts.same e e3⟩
 | .lst ds, v, h => by
   obtain ⟨a, vs, e1, e2, e3⟩ := h
   exact ⟨a, vs, e1, e _ _ e2, DAts.same e e3⟩
theorem DAts.same {H H' : Hp} (e : Same H H') : ∀ {ds : List Dt} {vs : List V}, DAts H ds vs -> DAts H' ds vs
 | [], _, h => h
 | d :: ds, vs, h => by
   obtain ⟨v, r, e1, e2, e3⟩ := h
   exact ⟨v, r, e1, DAt.same e e2, DAts.same e e3⟩
end
theorem DAts.length {H : Hp} : ∀ {ds : List Dt} {vs : List V}, DAts H ds vs -> vs.length = ds.length
 | [], vs, h => by
   have h : vs = [] := h
   rw [h]
   rfl
 | d :: ds, vs, h => by
   obtain ⟨v, r, e1, e2, e3⟩ := h
   rw [e1, List.length_cons, List.length_cons, DAts.length e3]
theorem DAts.get {H : Hp} : ∀ {ds : List Dt} {vs : List V} {i : Nat} {d : Dt}, DAts H ds vs -> ds[i]? = some d -> ∃ v, vs[i]? = some v /\ DAt H d v
 | [], vs, i, d, _, e => by simp at e
 | d :: ds, vs, 0, d', h, e => by
   obtain ⟨v, r, e1, e2, e3⟩ := h
   simp at e
   subst e; subst e1
   exact ⟨v, rfl, e2⟩
 | d :: ds, vs, i + 1, d', h, e => by
   obtain ⟨v, r, e1, e2, e3⟩ := h
   subst e1
   simp at e
   obtain ⟨u, h1, h2⟩ := DAts.get e3 e
   exact ⟨u, by simpa using h1, h2⟩
theorem DAts.append {H : Hp} : ∀ {ds es : List Dt} {vs us : List V}, DAts H ds vs -> DAts H es us -> DAts H (ds ++ es) (vs ++ us)
 | [], es, vs, us, h, h' => by
   have h : vs = [] := h
   subst h
   exact h'
 | d :: ds, es, vs, us, h, h' => by
   obtain ⟨v, r, e1, e2, e3⟩ := h
   subst e1
   exact ⟨v, r ++ us, rfl, e2, DAts.append e3 h'⟩
theorem DAts.take {H : Hp} : ∀ {ds : List Dt} {vs : List V} (n : Nat), DAts H ds vs -> DAts H (ds.take n) (vs.take n)
 | ds, vs, 0, _ => rfl
 | [], vs, n + 1, h => by
   have h : vs = [] := h
   subst h
   rfl
 | d :: ds, vs, n + 1, h => by
   obtain ⟨v, r, e1, e2, e3⟩ := h
   subst e1
   exact ⟨v, r.take n, rfl, e2, DAts.take n e3⟩
theorem DAts.drop {H : Hp} : ∀ {ds : List Dt} {vs : List V} (n : Nat), DAts H ds vs -> DAts H (ds.drop n) (vs.drop n)
 | ds, vs, 0, h => by simpa using h
 | [], vs, n + 1, h => by
   have h : vs = [] := h
   subst h
   rfl
 | d :: ds, vs, n + 1, h => by
   obtain ⟨v, r, e1, e2, e3⟩ := h
   subst e1
   simpa using DAts.drop n e3
theorem DAts.one {H : Hp} {d : Dt} {v : V} (h : DAt H d v) : DAts H [d] [v] := ⟨v, [], rfl, h, rfl⟩
def DFit : Nat -> Dt -> Prop
 | n + 1, .tup ds => ds.length <= 1000 /\ ∀ d ∈ ds, DFit n d
 | n + 1, .lst ds => ds.length <= 1000 /\ ∀ d ∈ ds, DFit n d
 | 0, .tup _ => False
 | 0, .lst _ => False
 | _, _ => True
inductive Tm where
 | name (x : Str)
 | node (w : Str) (ts : List Tm)
mutual
def toD : Tm -> Dt
 | .name x => .tup [.str "name", .str x]
 | .node w ts => .tup (.str w :: toDs ts)
def toDs : List Tm -> List Dt
 | [] => []
 | t :: ts => toD t :: toDs ts
end
theorem toDs_map : ∀ ts : List Tm, toDs ts = ts.map toD
 | [] => rfl
 | t :: ts => by rw [toDs, toDs_map ts, List.map_cons]
theorem xZ (w : Str) (ts : List Tm) : toD (.node w ts) = .tup (.str w :: ts.map toD) := by rw [toD, toDs_map]
abbrev TAt (H : Hp) (t : Tm) (v : V) : Prop := DAt H (toD t) v
abbrev TAts (H : Hp) (ts : List Tm) (vs : List V) : Prop := DAts H (ts.map toD) vs
theorem TAt.name {H : Hp} {x : Str} {v : V} (h : TAt H (.name x) v) : ∃ a, v = .ref a /\ H a = some (.tup [.str "name", .str x]) := by
 obtain ⟨a, vs, e1, e2, u, r, e3, e4, e5⟩ := h
 obtain ⟨u2, r2, e6, e7, e8⟩ := e5
 have e4 : u = .str "name" := e4
 have e7 : u2 = .str x := e7
 have e8 : r2 = [] := e8
 subst e3; subst e4; subst e6; subst e7; subst e8
 exact ⟨a, e1, e2⟩
theorem TAt.mkName {H : Hp} {x : Str} {a : Addr} (h : H a = some (.tup [.str "name", .str x])) : TAt H (.name x) (.ref a) :=
 ⟨a, _, rfl, h, _, _, rfl, rfl, _, _, rfl, rfl, rfl⟩
theorem TAt.node {H : Hp} {w : Str} {ts : List Tm} {v : V} (h : TAt H (.node w ts) v) : ∃ a vs, v = .ref a /\ H a = some (.tup (.str w :: vs)) /\ TAts H ts vs := by
 unfold TAt at h
 rw [xZ] at h
 obtain ⟨a, vs, e1, e2, u, r, e3, e4, e5⟩ := h
 have e4 : u = .str w := e4
 subst e3; subst e4
 exact ⟨a, r, e1, e2, e5⟩
theorem TAt.mkNode {H : Hp} {w : Str} {ts : List Tm} {a : Addr} {vs : List V} (h : H a = some (.tup (.str w :: vs))) (hs : TAts H ts vs) : TAt H (.node w ts) (.ref a) := by
 unfold TAt
 rw [xZ]
 exact ⟨a, _, rfl, h, _, _, rfl, rfl, hs⟩
def Sh (w : Str) (n : Nat) : Prop := (w = "none" /\ n = 0) \/ (w = "all" /\ n = 0) \/ (w = "not" /\ n = 1) \/ (w = "both" /\ 2 <= n) \/ (w = "either" /\ 2 <= n)
structure Nm (x : Str) : Prop where
 pos : 1 <= x.length
 most : x.length <= 8
 low : ∀ c ∈ x.cps.toList, 97 <= c /\ c <= 122
 nn : x ≠ "none"
 na : x ≠ "all"
def Fit : Nat -> Tm -> Prop
 | _, .name x => Nm x
 | 0, .node w ts => Sh w ts.length /\ ts = []
 | n + 1, .node w ts => Sh w ts.length /\ ∀ t ∈ ts, Fit n t
theorem Fit.up : ∀ {n : Nat} {t : Tm}, Fit n t -> Fit (n + 1) t
 | n, .name _, h => by unfold Fit at h ⊢; exact h
 | 0, .node w ts, h => by
   unfold Fit at h
   obtain ⟨h1, h2⟩ := h
   subst h2
   exact ⟨h1, fun _ z => nomatch z⟩
 | n + 1, .node w ts, h => by
   unfold Fit at h ⊢
   exact ⟨h.1, fun t ht => Fit.up (h.2 t ht)⟩
theorem Fit.mono {n m : Nat} {t : Tm} (h : Fit n t) (hm : n <= m) : Fit m t := by
 obtain ⟨k, rfl⟩ := Nat.le.dest hm
 induction k with
 | zero => exact h
 | succ k ih => exact Fit.up (ih (by omega))
mutual
def wt : Tm -> Nat
 | .name _ => 1
 | .node _ ts => 1 + wts ts
def wts : List Tm -> Nat
 | [] => 0
 | t :: ts => wt t + wts ts
end
theorem wt_pos : ∀ t : Tm, 1 <= wt t
 | .name _ => by rw [wt]; omega
 | .node _ _ => by rw [wt]; omega
theorem wts_len : ∀ ts : List Tm, ts.length <= wts ts
 | [] => by simp
 | t :: ts => by
   have := wts_len ts
   have := wt_pos t
   rw [wts, List.length_cons]
   omega
theorem wts_mem : ∀ {ts : List Tm} {t : Tm}, t ∈ ts -> wt t <= wts ts
 | u :: ts, t, h => by
   rw [wts]
   rcases List.mem_cons.mp h with h | h
   · subst h; omega
   · have := wts_mem h; omega
theorem wts_append : ∀ ts us : List Tm, wts (ts ++ us) = wts ts + wts us
 | [], us => by simp [wts]
 | t :: ts, us => by rw [List.cons_append, wts, wts, wts_append ts us]; omega
theorem Fit.dfit : ∀ {n : Nat} {t : Tm}, Fit n t -> wt t <= 900 -> DFit (n + 1) (toD t)
 | n, .name x, _, _ => by
   rw [toD]
   unfold DFit
   refine ⟨by simp, fun d hd => ?_⟩
   rcases List.mem_cons.mp hd with rfl | hd
   · cases n <;> trivial
   · rw [List.mem_singleton.mp hd]
     cases n <;> trivial
 | n, .node w ts, h, hw => by
   rw [xZ]
   rw [wt] at hw
   have hl := wts_len ts
   unfold DFit
   refine ⟨by rw [List.length_cons, List.length_map]; omega, fun d hd => ?_⟩
   rcases List.mem_cons.mp hd with rfl | hd
   · cases n <;> trivial
   · obtain ⟨t, ht, rfl⟩ := List.mem_map.mp hd
     have hm := wts_mem ht
     cases n with
     | zero => rw [h.2] at ht; cases ht
     | succ n => exact Fit.dfit (h.2 t ht) (by omega)
theorem zF {H : Hp} {p : Addr} (h : H p = none) (o : HO) : Same H (upd H p o) := fun b u q => by rw [zH (zS q h)]; exact q
theorem len_app (p q : Str) : (p ++ q).length = p.length + q.length := by
 show (p.cps ++ q.cps).size = p.cps.size + q.cps.size
 rw [Array.size_append]
theorem cps_app (p q : Str) : (p ++ q).cps.toList = p.cps.toList ++ q.cps.toList := by
 show (p.cps ++ q.cps).toList = _
 rw [Array.toList_append]
theorem zV {n : Nat} (h : n <= 1000) : n <= sizeLine := Nat.le_of_lt (zY h)
theorem TAts.one {H : Hp} {t : Tm} {v : V} (h : TAt H t v) : TAts H [t] [v] := DAts.one h
theorem TAts.append {H : Hp} {ts us : List Tm} {vs ws : List V} (h : TAts H ts vs) (h' : TAts H us ws) : TAts H (ts ++ us) (vs ++ ws) := by
 unfold TAts
 rw [List.map_append]
 exact DAts.append h h'
theorem TAts.take {H : Hp} {ts : List Tm} {vs : List V} (n : Nat) (h : TAts H ts vs) : TAts H (ts.take n) (vs.take n) := by
 unfold TAts
 rw [List.map_take]
 exact DAts.take n h
theorem TAts.drop {H : Hp} {ts : List Tm} {vs : List V} (n : Nat) (h : TAts H ts vs) : TAts H (ts.drop n) (vs.drop n) := by
 unfold TAts
 rw [List.map_drop]
 exact DAts.drop n h
theorem TAts.length {H : Hp} {ts : List Tm} {vs : List V} (h : TAts H ts vs) : vs.length = ts.length := by
 have := DAts.length h
 rw [List.length_map] at this
 exact this
def TupSame (H H' : Hp) : Prop := ∀ b xs, H b = some (.tup xs) -> H' b = some (.tup xs)
theorem TupSame.refl (H : Hp) : TupSame H H := fun _ _ h => h
theorem TupSame.trans {H H1 H2 : Hp} (a : TupSame H H1) (b : TupSame H1 H2) : TupSame H H2 := fun c o h => b c o (a c o h)
theorem Same.tups {H H' : Hp} (e : Same H H') : TupSame H H' := fun b xs h => e b _ h
theorem TupSame.upd_lst {H H' : Hp} {a : Addr} {o : HO} {xs : List V} (e : TupSame H H') (h : H' a = some (.lst xs)) : TupSame H (upd H' a o) := fun b ys hb => by
 rw [zH (ne_of (e _ _ hb) h (by intro z; cases z))]
 exact e _ _ hb
theorem TupSame.upd_new {H H' : Hp} {a : Addr} {o : HO} (e : TupSame H H') (h : H' a = none) : TupSame H (upd H' a o) := fun b ys hb => by
 rw [zH (zS (e _ _ hb) h)]
 exact e _ _ hb
theorem Same.upd {H H1 : Hp} {a : Addr} {o : HO} (e : Same H H1) (h : H a = none) : Same H (upd H1 a o) := fun b u hb => by
 rw [zH (zS hb h)]
 exact e _ _ hb
mutual
theorem TAt.tups {H H' : Hp} (e : TupSame H H') : ∀ {t : Tm} {v : V}, TAt H t v -> TAt H' t v
 | .name x, v, h => by
   obtain ⟨a, e1, h2⟩ := TAt.name h
   subst e1
   exact TAt.mkName (e _ _ h2)
 | .node w ts, v, h => by
   obtain ⟨a, vs, e1, h2, hs⟩ := TAt.node h
   subst e1
   exact TAt.mkNode (e _ _ h2) (TAts.tups e hs)
theorem TAts.tups {H H' : Hp} (e : TupSame H H') : ∀ {ts : List Tm} {vs : List V}, TAts H ts vs -> TAts H' ts vs
 | [], vs, h => h
 | t :: ts, vs, h => by
   obtain ⟨v, r, e1, e2, e3⟩ := h
   exact ⟨v, r, e1, TAt.tups e e2, TAts.tups e e3⟩
end
structure KD (w : World) (K : PySem.W.Frag) (a : Addr) (kvs : List (Key × V)) : Prop where
 dict : ∀ (P : Program) (h : Heap), K.In h -> ∃ vs, KV kvs vs /\ h.DictOf (zX P w) a vs
def tKGet (w : World) (K : PySem.W.Frag) (td ty : TE) : TE := fun σ H Q => td σ H fun x H1 => ty σ H1 fun y H2 => ∃ a kvs k v, x = .ref a /\ y = kV k /\ KD w K a kvs /\ xS kvs k = some v /\ Q v H2
def entOk (w : World) : List DictEntry -> List (Str × Str) -> Prop
 | [], r => r = []
 | e :: es, r => ∃ x y t u r', r = (x, y) :: r' /\ e.hash = hashStr w x /\ e.key = .str x t /\ e.val = .str y u /\ entOk w es r'
theorem entOk.keys {w : World} {P : Program} : ∀ {es : List DictEntry} {r : List (Str × Str)}, entOk w es r -> ∀ e ∈ es, ∃ k, (zX P w).is k e.key = true /\ e.hash = (zX P w).hash k
 | [], _, _, e, he => nomatch he
 | e :: es, r, h, e', he => by
   obtain ⟨x, y, t, u, r', _, h1, h2, _, h4⟩ := h
   rcases List.mem_cons.mp he with rfl | he
   · exact ⟨.inr x, by rw [h2]; exact yR P w x t, h1⟩
   · exact entOk.keys h4 e' he
theorem cx_w {CX : CXT} {P : Program} {w : World} {K : PySem.W.Frag} {mg : Str -> Option Value} {base : Heap} {N : List Str} {qual : Str} {scope : Scope} {f : Addr} {cd : Value} {A : Around} {outer : List Env} {s : Shared} {H : Hp} {E : XK} : (yL CX P w K mg base N qual scope f cd A outer s H E).w = w := rfl
theorem bk_w {X : Cx} {xs ys : List Str} {scope : Scope} {C : Addr} {s₀ : Shared} {H₀ : Hp} {fp : List Addr} : (qL X xs ys scope C s₀ H₀ fp).w = X.w := rfl
theorem yI {K : PySem.W.Frag} {T : String} : PySem.W.kitOne K (.type T) (.type T) = some true := by
 unfold PySem.W.kitOne
 rw [if_pos (by simp)]
def kitF (S T : String) : Bool := !(Value.type S == Value.type T) && PySem.W.kitMeta T && ((PySem.fastBuiltinMro S).map (·.contains (.type T)) == some false)
theorem yV {K : PySem.W.Frag} {S T : String} (h : kitF S T = true) : PySem.W.kitOne K (.type S) (.type T) = some false := by
 unfold kitF at h
 simp only [Bool.and_eq_true, Bool.not_eq_true', beq_iff_eq] at h
 unfold PySem.W.kitOne
 rw [if_neg (by rw [h.1.1]; decide)]
 show (if PySem.W.kitMeta T = true then PySem.W.subIn K (.type S) (.type T) else none) = _
 rw [if_pos h.1.2]
 exact h.2
theorem kit_sb {K : PySem.W.Frag} : PySem.W.kitOne K (.type "str") (.type "bool") = some false := yV (by decide +kernel)
theorem kit_si {K : PySem.W.Frag} : PySem.W.kitOne K (.type "str") (.type "int") = some false := yV (by decide +kernel)
theorem kit_tb {K : PySem.W.Frag} : PySem.W.kitOne K (.type "tuple") (.type "bool") = some false := yV (by decide +kernel)
theorem kit_ti {K : PySem.W.Frag} : PySem.W.kitOne K (.type "tuple") (.type "int") = some false := yV (by decide +kernel)
theorem kit_ts {K : PySem.W.Frag} : PySem.W.kitOne K (.type "tuple") (.type "str") = some false := yV (by decide +kernel)
theorem kit_lb {K : PySem.W.Frag} : PySem.W.kitOne K (.type "list") (.type "bool") = some false := yV (by decide +kernel)
theorem kit_li {K : PySem.W.Frag} : PySem.W.kitOne K (.type "list") (.type "int") = some false := yV (by decide +kernel)
theorem kit_ls {K : PySem.W.Frag} : PySem.W.kitOne K (.type "list") (.type "str") = some false := yV (by decide +kernel)
theorem kit_lt {K : PySem.W.Frag} : PySem.W.kitOne K (.type "list") (.type "tuple") = some false := yV (by decide +kernel)
theorem kit_ib {K : PySem.W.Frag} : PySem.W.kitOne K (.type "int") (.type "bool") = some false := yV (by decide +kernel)
theorem kit_nb {K : PySem.W.Frag} : PySem.W.kitOne K (.type "NoneType") (.type "bool") = some false := yV (by decide +kernel)
theorem kit_ni {K : PySem.W.Frag} : PySem.W.kitOne K (.type "NoneType") (.type "int") = some false := yV (by decide +kernel)
theorem kit_ns {K : PySem.W.Frag} : PySem.W.kitOne K (.type "NoneType") (.type "str") = some false := yV (by decide +kernel)
theorem rec_ok {P : Program} {w : World} {K : PySem.W.Frag} {mg : Str -> Option Value} {base : Heap} {x : Str} {ps : List Str} {st : Stmt} {f : Addr} {fd : FuncData} {sp : Nat -> Sp} (F : Fun K x x st f fd) (b : Binds K fd ps []) (m : mg x = some (.ref f))
   (h0 : ∀ vs H Q E, ¬ sp 0 vs H Q E) (step : ∀ n, Has P w K mg base n x ps (sp n) -> FnOk P w K mg base CX0 (n + 1) f fd ps (sp (n + 1))) : ∀ n, FnOk P w K mg base CX0 n f fd ps (sp n)
 | 0 => ⟨fun vs H Q E h => (h0 vs H Q E h).elim, fun A outer s H args us vs Q E _ _ _ _ h => (h0 vs H Q E h).elim⟩
 | n + 1 => step n (yJ F (rec_ok F b m h0 step n) b m)
theorem Same.tup {K : PySem.W.Frag} {H H' : Hp} {a : Addr} {xs : List V} (e : Same H H') (h : SqT K H a xs) : SqT K H' a xs := by
 rcases h with (h | ⟨o, h⟩) | h
 · exact .inl (.inl (e _ _ h))
 · exact .inl (.inr ⟨o, e _ _ h⟩)
 · exact .inr h
theorem at0 {α : Type} {x : α} {xs : List α} : atI (x :: xs) 0 = some x := yB (j := 0) (xs := x :: xs) rfl
theorem at1 {α : Type} {x y : α} {xs : List α} : atI (x :: y :: xs) 1 = some y := yB (j := 1) (xs := x :: y :: xs) rfl
def dSay (p : Tm × Tm) : Dt := .tup [toD p.1, toD p.2]
def dRule (r : List (Tm × Tm) × (Tm × Tm)) : Dt := .tup [.lst (r.1.map dSay), dSay r.2]
abbrev SAt (H : Hp) (p : Tm × Tm) (v : V) : Prop := DAt H (dSay p) v
abbrev SAts (H : Hp) (ps : List (Tm × Tm)) (vs : List V) : Prop := DAts H (ps.map dSay) vs
abbrev RAt (H : Hp) (r : List (Tm × Tm) × (Tm × Tm)) (v : V) : Prop := DAt H (dRule r) v
theorem SAt.out {H : Hp} {p : Tm × Tm} {v : V} (h : SAt H p v) : ∃ a v1 v2, v = .ref a /\ H a = some (.tup [v1, v2]) /\ TAt H p.1 v1 /\ TAt H p.2 v2 := by
 obtain ⟨a, vs, e1, e2, u, r, e3, h1, u2, r2, e4, h2, e5⟩ := h
 have e5 : r2 = [] := e5
 subst e5; subst e4; subst e3
 exact ⟨a, u, u2, e1, e2, h1, h2⟩
theorem RAt.out {H : Hp} {r : List (Tm × Tm) × (Tm × Tm)} {v : V} (h : RAt H r v) : ∃ a l s vs, v = .ref a /\ H a = some (.tup [.ref l, s]) /\ H l = some (.lst vs) /\ SAts H r.1 vs /\ SAt H r.2 s := by
 obtain ⟨a, vs, e1, e2, u, q, e3, ⟨l, ws, e6, e7, h1⟩, u2, r2, e4, h2, e5⟩ := h
 have e5 : r2 = [] := e5
 subst e5; subst e4; subst e3; subst e6
 exact ⟨a, l, u2, ws, e1, e2, e7, h1, h2⟩
theorem SAts.length {H : Hp} {ps : List (Tm × Tm)} {vs : List V} (h : SAts H ps vs) : vs.length = ps.length := by
 have := DAts.length h
 rw [List.length_map] at this
 exact this
theorem DFit.up : ∀ {n : Nat} {d : Dt}, DFit n d -> DFit (n + 1) d
 | n, .non, _ => by cases n <;> trivial
 | n, .bl _, _ => by cases n <;> trivial
 | n, .int _, _ => by cases n <;> trivial
 | n, .str _, _ => by cases n <;> trivial
 | 0, .tup _, h => h.elim
 | 0, .lst _, h => h.elim
 | n + 1, .tup ds, h => ⟨h.1, fun d hd => DFit.up (h.2 d hd)⟩
 | n + 1, .lst ds, h => ⟨h.1, fun d hd => DFit.up (h.2 d hd)⟩
def qK (ns : List Int) (lo hi : Option Int) : List Int := (ns.drop (HT.sIx ns.length 0 lo)).take (HT.sIx ns.length ns.length hi - HT.sIx ns.length 0 lo)
theorem cut_ints (ns : List Int) (lo hi : Option Int) : yO (ns.map V.int) lo hi = (qK ns lo hi).map V.int := by
 unfold yO qK
 rw [List.length_map, List.map_take, List.map_drop]
theorem cutI_len (ns : List Int) (lo hi : Option Int) : (qK ns lo hi).length <= ns.length := by
 unfold qK
 rw [List.length_take, List.length_drop]
 omega
theorem cutI_len2 (ns : List Int) (i j : Nat) : (qK ns (some (i : Int)) (some (j : Int))).length <= j - i := by
 unfold qK
 rw [List.length_take, List.length_drop, HT.sIx_nat, HT.sIx_nat]
 omega
theorem DFit.mono {n m : Nat} {d : Dt} (h : DFit n d) (hm : n <= m) : DFit m d := by
 obtain ⟨k, rfl⟩ := Nat.le.dest hm
 induction k with
 | zero => exact h
 | succ k ih => exact DFit.up (ih (by omega))
section
variable {X : Cx} (K : PySem.W.Frag)
end
end L2
namespace L2
open PySem
abbrev Cs := List Nat
def glue (j : Cs) : List Cs -> Cs
 | [] => []
 | [s] => s
 | s :: r :: q => s ++ j ++ glue j (r :: q)
def jAnd : Cs := [32, 38, 32]
def jOr : Cs := [32, 124, 32]
def jOf (w : Str) : Cs := if w = "both" then jAnd else jOr
def wrN (w : Str) (ss : List Cs) : Cs := if w = "not" then 33 :: ss.headD [] else if ss = [] then w.cps.toList else 40 :: (glue (jOf w) ss ++ [41])
mutual
def wr : Tm -> Cs
 | .name x => x.cps.toList
 | .node w ts => wrN w (wrs ts)
def wrs : List Tm -> List Cs
 | [] => []
 | t :: ts => wr t :: wrs ts
end
end L2
namespace L2
open PySem
def toS (s : Cs) : Str := ⟨s.toArray⟩
end L2
namespace L2
open PySem PySem.Builtin PySem.Builtin.Str PySem.StrLaws
structure Mark (y : Cs) (k m : Nat) : Prop where
 at_ : y[k]? = some m
 once : ∀ j, y[j]? = some m -> j = k
def FitP (n : Nat) (p : Tm × Tm) : Prop := Fit n p.1 /\ Fit n p.2
end L2
namespace L2
open PySem PySem.Spec PyProof.Rows PySem.Builtin PySem.Builtin.Str
section
variable {X : Cx}
end
structure HasM (P : Program) (w : World) (K : PySem.W.Frag) (mg : Str -> Option Value) (base : Heap) (k : Nat) (C : Addr) (m : Str) (ps : List Str) (sp : Sp) : Prop where
 ex : ∃ f fd, FnOk P w K mg base CX0 k f fd ps sp /\ Binds K fd ps [] /\ Meth K C m f
structure HasI (P : Program) (w : World) (K : PySem.W.Frag) (mg : Str -> Option Value) (base : Heap) (k : Nat) (C : Addr) (x : Str) (ps : List Str) (sp : Sp) : Prop where
 ex : ∃ f fd, FnOk P w K mg base CX0 k f fd ps sp /\ Binds K fd ps [] /\ Mk K C f /\ mg x = some (.ref C)
section
variable {X : Cx} {k : Nat} {C : Addr} {x m : Str} {ps : List Str} {sp : Sp} {p pos apos : Pos} {e o : Expr} {es : List Expr} {ta : TE} {t : TA}
end
def rdF (x : Cs) (k : Nat) : List (Str × V) := [("text", .str (toS x)), ("at", .int k)]
def RdAt (C : Addr) (H : Hp) (r : Addr) (x : Cs) (k : Nat) : Prop := ∃ dx, H r = some (.ins C dx (rdF x k))
def SameX (r : Addr) (H H' : Hp) : Prop := ∀ b o, H b = some o -> b ≠ r -> H' b = some o
theorem SameX.trans {r : Addr} {H H1 H2 : Hp} (a : SameX r H H1) (b : SameX r H1 H2) : SameX r H H2 := fun c o h n => b c o (a c o h n) n
theorem Same.x {r : Addr} {H H' : Hp} (a : Same H H') : SameX r H H' := fun c o h _ => a c o h
theorem SameX.upd {r : Addr} {H H1 : Hp} {o : HO} (a : SameX r H H1) : SameX r H (L2.upd H1 r o) := fun c o' h n => by
 rw [zH n]
 exact a c o' h n
theorem SameX.tups {r : Addr} {H H' : Hp} {C : Addr} {x : Cs} {k : Nat} (a : SameX r H H') (h : RdAt C H r x k) : TupSame H H' := fun b xs e => by
 obtain ⟨dx, h⟩ := h
 exact a b _ e (ne_of e h (by intro z; cases z))
section
variable {prog : Program} {w : World} {A : Around} {E : Value -> Shared -> Prop} {s : Shared} {a : Addr} {its : Array Value} {n : Nat} {sl : Array (Option Value)}
end
section
variable {prog : Program} {w : World} {A : Around} {E : Value -> Shared -> Prop} {h : Heap} {g : Array GenState} {d : Drawn} {t : Nat} {os : OsState} {a : Addr} {its : Array Value} {n : Nat} {sl : Array (Option Value)}
end
section
variable {prog : Program} {w : World} {Kt : Type} [DecidableEq Kt] {knd : KeyKind prog w Kt} {A : Around} {E : Value -> Shared -> Prop} {s : Shared}
end
section
variable {X : Cx}
end
end L2
namespace L2
open PySem PySem.Spec PyProof.Rows PySem.W
section
variable {prog : Program} {w : World} {A : Around} {E : Value -> Shared -> Prop} {s : Shared} {T : String} {r d : Addr} {n : Nat} {P : Nat -> Value -> Prop} {OK : Heap -> Prop}
end
section
variable {X : Cx}
end
section
variable {X : Cx}
end
end L2
namespace L2
open PySem PyProof.Rows
section
variable {prog : Program} {w : World} {A : Around} {E : Value -> Shared -> Prop} {s : Shared}
end
end L2
namespace L2
open PySem PyProof.Rows
section
variable {prog : Program} {w : World} {A : Around} {E : Value -> Shared -> Prop} {s : Shared}
end
end L2
namespace L2
open PySem PyProof.Rows
section
variable {prog : Program} {w : World} {A : Around} {E : Value -> Shared -> Prop} {s : Shared}
end
end L2
namespace L2
open PySem PyProof.Rows
section
variable {prog : Program} {w : World} {A : Around} {R : Result -> Shared -> Prop} {I : Addr} {fp wr : List Addr} {G : Array GenState -> Array GenState -> Prop} {n : Nat} {P : Nat -> Value -> Prop} {St : Nat -> Shared -> Prop}
end
section
variable {prog : Program} {w : World} {A : Around} {E : Value -> Shared -> Prop} {s : Shared}
end
end L2
namespace L2
open PySem PyProof.Rows
section
variable {prog : Program} {w : World} {A : Around} {E : Value -> Shared -> Prop} {s : Shared}
end
end L2
namespace L2
open PySem PySem.Spec PyProof.Rows PySem.SeqAt
mutual
def deq : Dt -> Dt -> Bool
 | .non, .non => true
 | .bl a, .bl b => a == b
 | .int a, .int b => a == b
 | .bl a, .int b => (if a then 1 else 0) == b
 | .int a, .bl b => a == (if b then 1 else 0)
 | .str a, .str b => a == b
 | .tup xs, .tup ys => deqs xs ys
 | .lst xs, .lst ys => deqs xs ys
 | _, _ => false
def deqs : List Dt -> List Dt -> Bool
 | [], [] => true
 | x :: xs, y :: ys => deq x y && deqs xs ys
 | _, _ => false
end
mutual
theorem deq_refl : ∀ d : Dt, deq d d = true
 | .non => rfl
 | .bl a => by simp [deq]
 | .int a => by simp [deq]
 | .str a => by simp [deq]
 | .tup ds => by rw [deq]; exact deqs_refl ds
 | .lst ds => by rw [deq]; exact deqs_refl ds
theorem deqs_refl : ∀ ds : List Dt, deqs ds ds = true
 | [] => rfl
 | d :: ds => by rw [deqs, deq_refl d, deqs_refl ds]; rfl
end
def eat (xs ys : List Dt) (j : Nat) : Bool :=
 match xs[j]?, ys[j]? with
 | some x, some y => deq x y
 | _, _ => false
theorem deqs_all : ∀ xs ys : List Dt, ((List.range (min xs.length ys.length)).all (eat xs ys) && xs.length == ys.length) = deqs xs ys
 | [], [] => rfl
 | [], y :: ys => by simp [deqs]
 | x :: xs, [] => by simp [deqs]
 | x :: xs, y :: ys => by
   rw [deqs, ← deqs_all xs ys, List.length_cons, List.length_cons, Nat.succ_min_succ, List.range_succ_eq_map, List.all_cons, List.all_map]
   have e1 : eat (x :: xs) (y :: ys) 0 = deq x y := rfl
   have e2 : eat (x :: xs) (y :: ys) ∘ Nat.succ = eat xs ys := by funext j; simp [eat]
   rw [e1, e2, Bool.and_assoc]
   congr 2
   rw [Bool.eq_iff_iff]
   simp
mutual
theorem DAt.one_of {H : Hp} : ∀ {d d' : Dt} {v : V}, DAt H d v -> DAt H d' v -> d = d'
 | d, .non, v, h, h' => by have h' : v = .non := h'; subst h'; cases d <;> simp_all [DAt]
 | d, .bl b, v, h, h' => by have h' : v = .bl b := h'; subst h'; cases d <;> simp_all [DAt]
 | d, .int b, v, h, h' => by have h' : v = .int b := h'; subst h'; cases d <;> simp_all [DAt]
 | d, .str b, v, h, h' => by have h' : v = .str b := h'; subst h'; cases d <;> simp_all [DAt]
 | d, .tup ds', v, h, h' => by
   obtain ⟨a, vs, rfl, e2, e3⟩ := h'
   cases d with
   | tup ds =>
     obtain ⟨a', vs', e1', e2', e3'⟩ := h
     cases e1'
     rw [e2] at e2'
     cases e2'
     rw [DAts.one_of e3' e3]
   | lst ds =>
     obtain ⟨a', vs', e1', e2', e3'⟩ := h
     cases e1'
     rw [e2] at e2'
     cases e2'
   | _ => cases h
 | d, .lst ds', v, h, h' => by
   obtain ⟨a, vs, rfl, e2, e3⟩ := h'
   cases d with
   | lst ds =>
     obtain ⟨a', vs', e1', e2', e3'⟩ := h
     cases e1'
     rw [e2] at e2'
     cases e2'
     rw [DAts.one_of e3' e3]
   | tup ds =>
     obtain ⟨a', vs', e1', e2', e3'⟩ := h
     cases e1'
     rw [e2] at e2'
     cases e2'
   | _ => cases h
theorem DAts.one_of {H : Hp} : ∀ {ds ds' : List Dt} {vs : List V}, DAts H ds vs -> DAts H ds' vs -> ds = ds'
 | ds, [], vs, h, h' => by
   have h' : vs = [] := h'
   subst h'
   cases ds with
   | nil => rfl
   | cons d ds => obtain ⟨v, r, e, _⟩ := h; cases e
 | ds, d' :: ds', vs, h, h' => by
   obtain ⟨v, r, rfl, e2, e3⟩ := h'
   cases ds with
   | nil => cases h
   | cons d ds =>
     obtain ⟨v', r', e, e2', e3'⟩ := h
     cases e
     rw [DAt.one_of e2' e2, DAts.one_of e3' e3]
end
section
variable {P : Program} {w : World} {H : Hp} {s : Shared}
theorem DAts.tup_of (ok : HOk P w H s.heap) {a : Addr} {vs : List V} (h : H a = some (.tup vs)) : ∃ its : List Value, Vals vs its /\ s.heap.IsTuple a its.toArray := by
 obtain ⟨z, its, r, p⟩ := ok a _ h
 exact ⟨its, r, p⟩
theorem DAts.lst_of (ok : HOk P w H s.heap) {a : Addr} {vs : List V} (h : H a = some (.lst vs)) : ∃ its : List Value, Vals vs its /\ s.heap.IsList a its.toArray := by
 obtain ⟨z, its, n, r, p⟩ := ok a _ h
 exact ⟨its, r, _, p, rfl, n, rfl⟩
theorem vals_at : ∀ {xs : List V} {us : List Value} {i : Nat} {x : V} {u : Value}, Vals xs us -> xs[i]? = some x -> us[i]? = some u -> RelV x u
 | _, _, _, _, _, .nil, h, _ => by simp at h
 | _, _, 0, _, _, .cons r q, h, h' => by
   simp at h h'
   subst h
   subst h'
   exact r
 | _, _, i + 1, _, _, .cons r q, h, h' => vals_at q (by simpa using h) (by simpa using h')
theorem rc_lists (ok : HOk P w H s.heap) {n : Nat} {A : Around} (ih : ∀ {A : Around} {d d' : Dt} {v v' : V} {u u' : Value}, DAt H d v -> DAt H d' v' -> RelV v u -> RelV v' u' -> DFit n d -> A.units + n < cLine -> EqAt A s u u' (deq d d'))
   {l l' : Addr} {ds ds' : List Dt} {vs vs' : List V} {its its' : List Value} (hs : DAts H ds vs) (hs' : DAts H ds' vs') (rv : Vals vs its) (rv' : Vals vs' its') (hl : s.heap.IsList l its.toArray) (hl' : s.heap.IsList l' its'.toArray)
   (f : ∀ d ∈ ds, DFit n d) (hu : A.units + (n + 1) < cLine) : RcAt A s (.ref l) (.ref l') (deqs ds ds') := by
 have k1 := hs.length
 have k2 := hs'.length
 have k3 := rv.length
 have k4 := rv'.length
 by_cases hz : ds.length = ds'.length
 · have key := RcAt.lists (A := A) (e := eat ds ds') hl hl' (by rw [List.size_toArray, List.size_toArray]; omega) (by omega) fun j h1 h2 => ?_
   · rw [← deqs_all, hz, Nat.min_self, beq_self_eq_true, Bool.and_true]
     rw [List.size_toArray] at key
     rw [show ds'.length = its.length by omega]
     exact key
   · rw [List.size_toArray] at h1 h2
     have hj : j < ds.length := by omega
     have hj' : j < ds'.length := by omega
     obtain ⟨x, x1, x2⟩ := hs.get (List.getElem?_eq_getElem hj)
     obtain ⟨y, y1, y2⟩ := hs'.get (List.getElem?_eq_getElem hj')
     have e1 : eat ds ds' j = deq ds[j] ds'[j] := by unfold eat; rw [List.getElem?_eq_getElem hj, List.getElem?_eq_getElem hj']
     rw [e1]
     refine ih x2 y2 ?_ ?_ (f _ (List.getElem_mem hj)) (by show A.units + 1 + n < cLine; omega)
     · exact vals_at rv x1 (by rw [List.getElem_toArray]; exact List.getElem?_eq_getElem h1)
     · exact vals_at rv' y1 (by rw [List.getElem_toArray]; exact List.getElem?_eq_getElem h2)
 · have hf : deqs ds ds' = false := by rw [← deqs_all, show (ds.length == ds'.length) = false by simpa using hz, Bool.and_false]
   rw [hf]
   exact RcAt.lists_lengths hl hl' (by rw [List.size_toArray, List.size_toArray]; simp; omega) (by omega)
theorem deq_same (ok : HOk P w H s.heap) {A : Around} {d : Dt} {v : V} {u u' : Value} (h : DAt H d v) (r : RelV v u) (r' : RelV v u') : EqAt A s u u' true := by
 cases d with
 | non => have h : v = .non := h; subst h; cases r; cases r'; exact EqAt.same _
 | bl a => have h : v = .bl a := h; subst h; cases r; cases r'; exact EqAt.same _
 | int a =>
   have h : v = .int a := h
   subst h
   obtain ⟨t, rfl⟩ := r
   obtain ⟨t', rfl⟩ := r'
   have := EqAt.int_int (A := A) (s := s) a t a t'
   rwa [beq_self_eq_true] at this
 | str a =>
   have h : v = .str a := h
   subst h
   obtain ⟨t, rfl⟩ := r
   obtain ⟨t', rfl⟩ := r'
   have := EqAt.str_str (A := A) (s := s) a t a t'
   rwa [beq_self_eq_true] at this
 | tup ds => obtain ⟨l, vs, rfl, _⟩ := h; cases r; cases r'; exact EqAt.same _
 | lst ds => obtain ⟨l, vs, rfl, _⟩ := h; cases r; cases r'; exact EqAt.same _
theorem qJ (ok : HOk P w H s.heap) {A : Around} {d d' : Dt} {v v' : V} {u u' : Value} (h : DAt H d v) (h' : DAt H d' v') (r : RelV v u) (r' : RelV v' u') (hu : A.units < cLine) (hk : ∀ ds ds', ¬ (d = .tup ds /\ d' = .tup ds') /\ ¬ (d = .lst ds /\ d' = .lst ds')) : EqAt A s u u' (deq d d') := by
 cases d with
 | non =>
   have h : v = .non := h
   subst h
   cases r
   cases d' with
   | non =>
     have h' : v' = .non := h'
     subst h'
     cases r'
     simp only [deq]
     exact EqAt.same _
   | bl b =>
     have h' : v' = .bl b := h'
     subst h'
     cases r'
     simp only [deq]
     exact EqAt.none_bool _
   | int b =>
     have h' : v' = .int b := h'
     subst h'
     obtain ⟨t', rfl⟩ := r'
     simp only [deq]
     exact EqAt.none_int _ _
   | str b =>
     have h' : v' = .str b := h'
     subst h'
     obtain ⟨t', rfl⟩ := r'
     simp only [deq]
     exact EqAt.none_str _ _
   | tup ds' =>
     obtain ⟨l', vs', rfl, e', hs'⟩ := h'
     cases r'
     obtain ⟨its', rv', hl'⟩ := DAts.tup_of ok e'
     simp only [deq]
     exact EqAt.none_tuple hl' hu
   | lst ds' =>
     obtain ⟨l', vs', rfl, e', hs'⟩ := h'
     cases r'
     obtain ⟨its', rv', hl'⟩ := DAts.lst_of ok e'
     simp only [deq]
     exact EqAt.none_list hl' hu
 | bl a =>
   have h : v = .bl a := h
   subst h
   cases r
   cases d' with
   | non =>
     have h' : v' = .non := h'
     subst h'
     cases r'
     simp only [deq]
     exact EqAt.bool_none _
   | bl b =>
     have h' : v' = .bl b := h'
     subst h'
     cases r'
     simp only [deq]
     exact EqAt.bool_bool _ _
   | int b =>
     have h' : v' = .int b := h'
     subst h'
     obtain ⟨t', rfl⟩ := r'
     simp only [deq]
     exact EqAt.bool_int _ _ _
   | str b =>
     have h' : v' = .str b := h'
     subst h'
     obtain ⟨t', rfl⟩ := r'
     simp only [deq]
     exact EqAt.bool_str _ _ _
   | tup ds' =>
     obtain ⟨l', vs', rfl, e', hs'⟩ := h'
     cases r'
     obtain ⟨its', rv', hl'⟩ := DAts.tup_of ok e'
     simp only [deq]
     exact EqAt.bool_tuple _ hl' hu
   | lst ds' =>
     obtain ⟨l', vs', rfl, e', hs'⟩ := h'
     cases r'
     obtain ⟨its', rv', hl'⟩ := DAts.lst_of ok e'
     simp only [deq]
     exact EqAt.bool_list _ hl' hu
 | int a =>
   have h : v = .int a := h
   subst h
   obtain ⟨t, rfl⟩ := r
   cases d' with
   | non =>
     have h' : v' = .non := h'
     subst h'
     cases r'
     simp only [deq]
     exact EqAt.int_none _ _
   | bl b =>
     have h' : v' = .bl b := h'
     subst h'
     cases r'
     simp only [deq]
     exact EqAt.int_bool _ _ _
   | int b =>
     have h' : v' = .int b := h'
     subst h'
     obtain ⟨t', rfl⟩ := r'
     simp only [deq]
     exact EqAt.int_int _ _ _ _
   | str b =>
     have h' : v' = .str b := h'
     subst h'
     obtain ⟨t', rfl⟩ := r'
     simp only [deq]
     exact EqAt.int_str _ _ _ _
   | tup ds' =>
     obtain ⟨l', vs', rfl, e', hs'⟩ := h'
     cases r'
     obtain ⟨its', rv', hl'⟩ := DAts.tup_of ok e'
     simp only [deq]
     exact EqAt.int_tuple _ _ hl' hu
   | lst ds' =>
     obtain ⟨l', vs', rfl, e', hs'⟩ := h'
     cases r'
     obtain ⟨its', rv', hl'⟩ := DAts.lst_of ok e'
     simp only [deq]
     exact EqAt.int_list _ _ hl' hu
 | str a =>
   have h : v = .str a := h
   subst h
   obtain ⟨t, rfl⟩ := r
   cases d' with
   | non =>
     have h' : v' = .non := h'
     subst h'
     cases r'
     simp only [deq]
     exact EqAt.str_none _ _
   | bl b =>
     have h' : v' = .bl b := h'
     subst h'
     cases r'
     simp only [deq]
     exact EqAt.str_bool _ _ _
   | int b =>
     have h' : v' = .int b := h'
     subst h'
     obtain ⟨t', rfl⟩ := r'
     simp only [deq]
     exact EqAt.str_int _ _ _ _
   | str b =>
     have h' : v' = .str b := h'
     subst h'
     obtain ⟨t', rfl⟩ := r'
     simp only [deq]
     exact EqAt.str_str _ _ _ _
   | tup ds' =>
     obtain ⟨l', vs', rfl, e', hs'⟩ := h'
     cases r'
     obtain ⟨its', rv', hl'⟩ := DAts.tup_of ok e'
     simp only [deq]
     exact EqAt.str_tuple _ _ hl' hu
   | lst ds' =>
     obtain ⟨l', vs', rfl, e', hs'⟩ := h'
     cases r'
     obtain ⟨its', rv', hl'⟩ := DAts.lst_of ok e'
     simp only [deq]
     exact EqAt.str_list _ _ hl' hu
 | tup ds =>
   obtain ⟨l, vs, rfl, e, hs⟩ := h
   cases r
   obtain ⟨its, rv, hl⟩ := DAts.tup_of ok e
   cases d' with
   | non =>
     have h' : v' = .non := h'
     subst h'
     cases r'
     simp only [deq]
     exact EqAt.tuple_none hl hu
   | bl b =>
     have h' : v' = .bl b := h'
     subst h'
     cases r'
     simp only [deq]
     exact EqAt.tuple_bool _ hl hu
   | int b =>
     have h' : v' = .int b := h'
     subst h'
     obtain ⟨t', rfl⟩ := r'
     simp only [deq]
     exact EqAt.tuple_int _ _ hl hu
   | str b =>
     have h' : v' = .str b := h'
     subst h'
     obtain ⟨t', rfl⟩ := r'
     simp only [deq]
     exact EqAt.tuple_str _ _ hl hu
   | tup ds' => exact absurd ⟨rfl, rfl⟩ (hk _ _).1
   | lst ds' =>
     obtain ⟨l', vs', rfl, e', hs'⟩ := h'
     cases r'
     obtain ⟨its', rv', hl'⟩ := DAts.lst_of ok e'
     simp only [deq]
     exact EqAt.tuple_list hl hl' hu
 | lst ds =>
   obtain ⟨l, vs, rfl, e, hs⟩ := h
   cases r
   obtain ⟨its, rv, hl⟩ := DAts.lst_of ok e
   cases d' with
   | non =>
     have h' : v' = .non := h'
     subst h'
     cases r'
     simp only [deq]
     exact EqAt.list_none hl hu
   | bl b =>
     have h' : v' = .bl b := h'
     subst h'
     cases r'
     simp only [deq]
     exact EqAt.list_bool _ hl hu
   | int b =>
     have h' : v' = .int b := h'
     subst h'
     obtain ⟨t', rfl⟩ := r'
     simp only [deq]
     exact EqAt.list_int _ _ hl hu
   | str b =>
     have h' : v' = .str b := h'
     subst h'
     obtain ⟨t', rfl⟩ := r'
     simp only [deq]
     exact EqAt.list_str _ _ hl hu
   | tup ds' =>
     obtain ⟨l', vs', rfl, e', hs'⟩ := h'
     cases r'
     obtain ⟨its', rv', hl'⟩ := DAts.tup_of ok e'
     simp only [deq]
     exact EqAt.list_tuple hl hl' hu
   | lst ds' => exact absurd ⟨rfl, rfl⟩ (hk _ _).2
theorem jM (ok : HOk P w H s.heap) : ∀ (n : Nat) {A : Around} {d d' : Dt} {v v' : V} {u u' : Value}, DAt H d v -> DAt H d' v' -> RelV v u -> RelV v' u' -> DFit n d -> A.units + n < cLine -> EqAt A s u u' (deq d d') := by
 intro n
 induction n with
 | zero =>
   intro A d d' v v' u u' h h' r r' f hu
   exact qJ ok h h' r r' hu fun ds ds' => ⟨fun e => by rw [e.1] at f; exact f, fun e => by rw [e.1] at f; exact f⟩
 | succ n ih =>
   intro A d d' v v' u u' h h' r r' f hu
   by_cases hvv : v = v'
   · subst hvv
     rw [DAt.one_of h h', deq_refl]
     have hd : d = d' := DAt.one_of h h'
     subst hd
     have hx := deq_same ok (A := A) h r r'
     exact hx
   cases d with
   | tup ds =>
     cases d' with
     | tup ds' =>
       obtain ⟨l, vs, rfl, e, hs⟩ := h
       obtain ⟨l', vs', rfl, e', hs'⟩ := h'
       cases r
       cases r'
       obtain ⟨its, rv, hl⟩ := DAts.tup_of ok e
       obtain ⟨its', rv', hl'⟩ := DAts.tup_of ok e'
       have k1 := hs.length
       have k2 := hs'.length
       have k3 := rv.length
       have k4 := rv'.length
       have key := RcAt.tuples (A := A) (e := eat ds ds') hl hl' (by omega) fun j h1 h2 => ?_
       · simp only [deq]
         rw [← deqs_all]
         refine EqAt.of_refs (fun z => hvv (by rw [z])) ?_
         rw [List.size_toArray, List.size_toArray] at key
         rw [← k1, ← k2, k3, k4]
         exact key
       · rw [List.size_toArray] at h1 h2
         have hj : j < ds.length := by omega
         have hj' : j < ds'.length := by omega
         obtain ⟨x, x1, x2⟩ := hs.get (List.getElem?_eq_getElem hj)
         obtain ⟨y, y1, y2⟩ := hs'.get (List.getElem?_eq_getElem hj')
         have e1 : eat ds ds' j = deq ds[j] ds'[j] := by unfold eat; rw [List.getElem?_eq_getElem hj, List.getElem?_eq_getElem hj']
         rw [e1]
         refine ih x2 y2 ?_ ?_ (f.2 _ (List.getElem_mem hj)) (by show A.units + 1 + n < cLine; omega)
         · exact vals_at rv x1 (by rw [List.getElem_toArray]; exact List.getElem?_eq_getElem h1)
         · exact vals_at rv' y1 (by rw [List.getElem_toArray]; exact List.getElem?_eq_getElem h2)
     | _ => exact qJ ok h h' r r' (by omega) fun ds ds' => ⟨fun e => (by cases e.2), fun e => (by cases e.1)⟩
   | lst ds =>
     cases d' with
     | lst ds' =>
       obtain ⟨l, vs, rfl, e, hs⟩ := h
       obtain ⟨l', vs', rfl, e', hs'⟩ := h'
       cases r
       cases r'
       obtain ⟨its, rv, hl⟩ := DAts.lst_of ok e
       obtain ⟨its', rv', hl'⟩ := DAts.lst_of ok e'
       simp only [deq]
       exact EqAt.of_refs (fun z => hvv (by rw [z])) (rc_lists ok ih hs hs' rv rv' hl hl' f.2 hu)
     | _ => exact qJ ok h h' r r' (by omega) fun ds ds' => ⟨fun e => (by cases e.1), fun e => (by cases e.2)⟩
   | _ => exact qJ ok h h' r r' (by omega) fun ds ds' => ⟨fun e => (by cases e.1), fun e => (by cases e.1)⟩
end
section
variable {X : Cx}
end
end L2
namespace L2
open PySem PySem.Spec PyProof.Rows PySem.SeqAt
section
variable {X : Cx}
end
theorem cx_P {CX : CXT} {P : Program} {w : World} {K : PySem.W.Frag} {mg : Str -> Option Value} {base : Heap} {N : List Str} {qual : Str} {scope : Scope} {f : Addr} {cd : Value} {A : Around} {outer : List Env} {s : Shared} {H : Hp} {E : XK} : (yL CX P w K mg base N qual scope f cd A outer s H E).prog = P := rfl
end L2
local macro_rules | `(tactic| simp! [$ts,*]) => `(tactic| simp only [L2.tSeq, L2.tFor_eq, L2.tLC_eq, L2.iRng1, L2.iRng2, L2.iList, L2.iTup, L2.iStr, L2.tIfS, L2.tRet, L2.tRetN, L2.tNext, L2.tAsg, L2.gName, L2.tVar, L2.tC, L2.tOp, L2.rI0, L2.rI, L2.tTest, L2.tB, L2.rEq, L2.rNe, L2.tCall, L2.tCons, L2.tNil, L2.tCB, L2.tLst, L2.tTup, L2.tAnd, L2.tOr, L2.tNot, L2.tAndV, L2.tOrV, L2.tNotV, L2.tIf, L2.tDrop, L2.tSl, L2.tPart, L2.tNoPart, L2.tChain, L2.tUn, L2.rU, L2.start, L2.cx_K, L2.bk_K, L2.cx_calm, L2.bk_calm, L2.lenV_str, and_assoc, Option.join, List.length_map, List.length_append, decide_eq_true_eq, Bool.false_eq_true, if_false, if_true, Bool.not_true, Bool.not_false, Bool.not_eq_true', decide_eq_false_iff_not, Bool.true_eq_false, List.length_cons, List.length_nil, List.map_cons, List.map_nil, List.replicate, List.cons_append, List.nil_append, List.append_nil, List.getElem?_cons_zero, List.getElem?_cons_succ, List.set_cons_zero, List.set_cons_succ, Nat.reduceSub, Nat.reduceAdd, Option.some.injEq, L2.V.int.injEq, L2.V.str.injEq, L2.V.bl.injEq, L2.V.ref.injEq, List.cons.injEq, and_true, true_and, exists_eq_left', exists_eq_left, exists_and_left, exists_eq_right, exists_const, L2.tBM, L2.tBM0, L2.rAppend, L2.rPop, L2.rIxL, L2.rIxT, L2.rIxS, L2.rSlL, L2.rSlT, L2.rSlS, L2.rCat, L2.rCatT, L2.tKGet, L2.cx_w, L2.bk_w, L2.tDGet, L2.tDisp, L2.tPairs, L2.tDNewK, L2.cx_P, $ts,*])
namespace L2
open PySem PySem.Spec PyProof.Rows PySem.SeqAt
section
variable {P : Program} {w : World} {H : Hp} {s : Shared}
theorem rc_tups (ok : HOk P w H s.heap) {n : Nat} {A : Around} (ih : ∀ {A : Around} {d d' : Dt} {v v' : V} {u u' : Value}, DAt H d v -> DAt H d' v' -> RelV v u -> RelV v' u' -> DFit n d -> A.units + n < cLine -> EqAt A s u u' (deq d d'))
   {l l' : Addr} {ds ds' : List Dt} {vs vs' : List V} {its its' : List Value} (hs : DAts H ds vs) (hs' : DAts H ds' vs') (rv : Vals vs its) (rv' : Vals vs' its') (hl : s.heap.IsTuple l its.toArray) (hl' : s.heap.IsTuple l' its'.toArray)
   (f : ∀ d ∈ ds, DFit n d) (hu : A.units + (n + 1) < cLine) : RcAt A s (.ref l) (.ref l') (deqs ds ds') := by
 have k1 := hs.length
 have k2 := hs'.length
 have k3 := rv.length
 have k4 := rv'.length
 have at_ : ∀ j (h1 : j < its.toArray.size) (h2 : j < its'.toArray.size), EqAt A.in1 s its.toArray[j] its'.toArray[j] (eat ds ds' j) := fun j h1 h2 => by
   rw [List.size_toArray] at h1 h2
   have hj : j < ds.length := by omega
   have hj' : j < ds'.length := by omega
   obtain ⟨x, x1, x2⟩ := hs.get (List.getElem?_eq_getElem hj)
   obtain ⟨y, y1, y2⟩ := hs'.get (List.getElem?_eq_getElem hj')
   have e1 : eat ds ds' j = deq ds[j] ds'[j] := by unfold eat; rw [List.getElem?_eq_getElem hj, List.getElem?_eq_getElem hj']
   rw [e1]
   refine ih x2 y2 ?_ ?_ (f _ (List.getElem_mem hj)) (by show A.units + 1 + n < cLine; omega)
   · exact vals_at rv x1 (by rw [List.getElem_toArray]; exact List.getElem?_eq_getElem h1)
   · exact vals_at rv' y1 (by rw [List.getElem_toArray]; exact List.getElem?_eq_getElem h2)
 have key := RcAt.tuples (A := A) (e := eat ds ds') hl hl' (by omega) at_
 rw [List.size_toArray, List.size_toArray] at key
 rw [← deqs_all, ← k1, ← k2, k3, k4]
 exact key
theorem rn_tups (ok : HOk P w H s.heap) {n : Nat} {A : Around} (ih : ∀ {A : Around} {d d' : Dt} {v v' : V} {u u' : Value}, DAt H d v -> DAt H d' v' -> RelV v u -> RelV v' u' -> DFit n d -> A.units + n < cLine -> EqAt A s u u' (deq d d'))
   {l l' : Addr} {ds ds' : List Dt} {vs vs' : List V} {its its' : List Value} (hs : DAts H ds vs) (hs' : DAts H ds' vs') (rv : Vals vs its) (rv' : Vals vs' its') (hl : s.heap.IsTuple l its.toArray) (hl' : s.heap.IsTuple l' its'.toArray)
   (f : ∀ d ∈ ds, DFit n d) (hu : A.units + (n + 1) < cLine) : RcNeAt A s (.ref l) (.ref l') (!deqs ds ds') := by
 have k1 := hs.length
 have k2 := hs'.length
 have k3 := rv.length
 have k4 := rv'.length
 have at_ : ∀ j (h1 : j < its.toArray.size) (h2 : j < its'.toArray.size), EqAt A.in1 s its.toArray[j] its'.toArray[j] (eat ds ds' j) := fun j h1 h2 => by
   rw [List.size_toArray] at h1 h2
   have hj : j < ds.length := by omega
   have hj' : j < ds'.length := by omega
   obtain ⟨x, x1, x2⟩ := hs.get (List.getElem?_eq_getElem hj)
   obtain ⟨y, y1, y2⟩ := hs'.get (List.getElem?_eq_getElem hj')
   have e1 : eat ds ds' j = deq ds[j] ds'[j] := by unfold eat; rw [List.getElem?_eq_getElem hj, List.getElem?_eq_getElem hj']
   rw [e1]
   refine ih x2 y2 ?_ ?_ (f _ (List.getElem_mem hj)) (by show A.units + 1 + n < cLine; omega)
   · exact vals_at rv x1 (by rw [List.getElem_toArray]; exact List.getElem?_eq_getElem h1)
   · exact vals_at rv' y1 (by rw [List.getElem_toArray]; exact List.getElem?_eq_getElem h2)
 have key := RcNeAt.tuples (A := A) (e := eat ds ds') hl hl' (by omega) at_
 rw [List.size_toArray, List.size_toArray] at key
 rw [← deqs_all, ← k1, ← k2, k3, k4]
 exact key
theorem rn_lists (ok : HOk P w H s.heap) {n : Nat} {A : Around} (ih : ∀ {A : Around} {d d' : Dt} {v v' : V} {u u' : Value}, DAt H d v -> DAt H d' v' -> RelV v u -> RelV v' u' -> DFit n d -> A.units + n < cLine -> EqAt A s u u' (deq d d'))
   {l l' : Addr} {ds ds' : List Dt} {vs vs' : List V} {its its' : List Value} (hs : DAts H ds vs) (hs' : DAts H ds' vs') (rv : Vals vs its) (rv' : Vals vs' its') (hl : s.heap.IsList l its.toArray) (hl' : s.heap.IsList l' its'.toArray)
   (f : ∀ d ∈ ds, DFit n d) (hu : A.units + (n + 1) < cLine) : RcNeAt A s (.ref l) (.ref l') (!deqs ds ds') := by
 have k1 := hs.length
 have k2 := hs'.length
 have k3 := rv.length
 have k4 := rv'.length
 have at_ : ∀ j (h1 : j < its.toArray.size) (h2 : j < its'.toArray.size), EqAt A.in1 s its.toArray[j] its'.toArray[j] (eat ds ds' j) := fun j h1 h2 => by
   rw [List.size_toArray] at h1 h2
   have hj : j < ds.length := by omega
   have hj' : j < ds'.length := by omega
   obtain ⟨x, x1, x2⟩ := hs.get (List.getElem?_eq_getElem hj)
   obtain ⟨y, y1, y2⟩ := hs'.get (List.getElem?_eq_getElem hj')
   have e1 : eat ds ds' j = deq ds[j] ds'[j] := by unfold eat; rw [List.getElem?_eq_getElem hj, List.getElem?_eq_getElem hj']
   rw [e1]
   refine ih x2 y2 ?_ ?_ (f _ (List.getElem_mem hj)) (by show A.units + 1 + n < cLine; omega)
   · exact vals_at rv x1 (by rw [List.getElem_toArray]; exact List.getElem?_eq_getElem h1)
   · exact vals_at rv' y1 (by rw [List.getElem_toArray]; exact List.getElem?_eq_getElem h2)
 by_cases hz : ds.length = ds'.length
 · have key := RcNeAt.lists (A := A) (e := eat ds ds') hl hl' (by rw [List.size_toArray, List.size_toArray]; omega) (by omega) at_
   rw [← deqs_all, hz, Nat.min_self, beq_self_eq_true, Bool.and_true]
   rw [List.size_toArray] at key
   rw [show ds'.length = its.length by omega]
   exact key
 · have hf : deqs ds ds' = false := by rw [← deqs_all, show (ds.length == ds'.length) = false by simpa using hz, Bool.and_false]
   rw [hf]
   exact RcNeAt.lists_lengths hl hl' (by rw [List.size_toArray, List.size_toArray]; simp; omega) (by omega)
theorem rc_at (ok : HOk P w H s.heap) {n : Nat} {A : Around} {d d' : Dt} {v v' : V} {u u' : Value} (h : DAt H d v) (h' : DAt H d' v') (r : RelV v u) (r' : RelV v' u') (f : DFit (n + 1) d) (hu : A.units + (n + 1) < cLine) : RcAt A s u u' (deq d d') := by
 have hu0 : A.units < cLine := by omega
 cases d with
 | non =>
   have h : v = .non := h
   subst h
   cases r
   cases d' with
   | non =>
     have h' : v' = .non := h'
     subst h'
     cases r'
     simp only [deq, Bool.not_false, Bool.not_true]
     exact RcAt.none_none
   | bl b =>
     have h' : v' = .bl b := h'
     subst h'
     cases r'
     simp only [deq, Bool.not_false, Bool.not_true]
     exact RcAt.none_bool _
   | int b =>
     have h' : v' = .int b := h'
     subst h'
     obtain ⟨t', rfl⟩ := r'
     simp only [deq, Bool.not_false, Bool.not_true]
     exact RcAt.none_int _ _
   | str b =>
     have h' : v' = .str b := h'
     subst h'
     obtain ⟨t', rfl⟩ := r'
     simp only [deq, Bool.not_false, Bool.not_true]
     exact RcAt.none_str _ _
   | tup ds' =>
     obtain ⟨l', vs', rfl, e', hs'⟩ := h'
     cases r'
     obtain ⟨its', rv', hl'⟩ := DAts.tup_of ok e'
     simp only [deq, Bool.not_false, Bool.not_true]
     exact RcAt.none_tuple hl' hu0
   | lst ds' =>
     obtain ⟨l', vs', rfl, e', hs'⟩ := h'
     cases r'
     obtain ⟨its', rv', hl'⟩ := DAts.lst_of ok e'
     simp only [deq, Bool.not_false, Bool.not_true]
     exact RcAt.none_list hl' hu0
 | bl a =>
   have h : v = .bl a := h
   subst h
   cases r
   cases d' with
   | non =>
     have h' : v' = .non := h'
     subst h'
     cases r'
     simp only [deq, Bool.not_false, Bool.not_true]
     exact RcAt.bool_none _
   | bl b =>
     have h' : v' = .bl b := h'
     subst h'
     cases r'
     simp only [deq, Bool.not_false, Bool.not_true]
     exact RcAt.bool_bool _ _
   | int b =>
     have h' : v' = .int b := h'
     subst h'
     obtain ⟨t', rfl⟩ := r'
     simp only [deq, Bool.not_false, Bool.not_true]
     exact RcAt.bool_int _ _ _
   | str b =>
     have h' : v' = .str b := h'
     subst h'
     obtain ⟨t', rfl⟩ := r'
     simp only [deq, Bool.not_false, Bool.not_true]
     exact RcAt.bool_str _ _ _
   | tup ds' =>
     obtain ⟨l', vs', rfl, e', hs'⟩ := h'
     cases r'
     obtain ⟨its', rv', hl'⟩ := DAts.tup_of ok e'
     simp only [deq, Bool.not_false, Bool.not_true]
     exact RcAt.bool_tuple _ hl' hu0
   | lst ds' =>
     obtain ⟨l', vs', rfl, e', hs'⟩ := h'
     cases r'
     obtain ⟨its', rv', hl'⟩ := DAts.lst_of ok e'
     simp only [deq, Bool.not_false, Bool.not_true]
     exact RcAt.bool_list _ hl' hu0
 | int a =>
   have h : v = .int a := h
   subst h
   obtain ⟨t, rfl⟩ := r
   cases d' with
   | non =>
     have h' : v' = .non := h'
     subst h'
     cases r'
     simp only [deq, Bool.not_false, Bool.not_true]
     exact RcAt.int_none _ _
   | bl b =>
     have h' : v' = .bl b := h'
     subst h'
     cases r'
     simp only [deq, Bool.not_false, Bool.not_true]
     exact RcAt.int_bool _ _ _
   | int b =>
     have h' : v' = .int b := h'
     subst h'
     obtain ⟨t', rfl⟩ := r'
     simp only [deq, Bool.not_false, Bool.not_true]
     exact RcAt.int_int _ _ _ _
   | str b =>
     have h' : v' = .str b := h'
     subst h'
     obtain ⟨t', rfl⟩ := r'
     simp only [deq, Bool.not_false, Bool.not_true]
     exact RcAt.int_str _ _ _ _
   | tup ds' =>
     obtain ⟨l', vs', rfl, e', hs'⟩ := h'
     cases r'
     obtain ⟨its', rv', hl'⟩ := DAts.tup_of ok e'
     simp only [deq, Bool.not_false, Bool.not_true]
     exact RcAt.int_tuple _ _ hl' hu0
   | lst ds' =>
     obtain ⟨l', vs', rfl, e', hs'⟩ := h'
     cases r'
     obtain ⟨its', rv', hl'⟩ := DAts.lst_of ok e'
     simp only [deq, Bool.not_false, Bool.not_true]
     exact RcAt.int_list _ _ hl' hu0
 | str a =>
   have h : v = .str a := h
   subst h
   obtain ⟨t, rfl⟩ := r
   cases d' with
   | non =>
     have h' : v' = .non := h'
     subst h'
     cases r'
     simp only [deq, Bool.not_false, Bool.not_true]
     exact RcAt.str_none _ _
   | bl b =>
     have h' : v' = .bl b := h'
     subst h'
     cases r'
     simp only [deq, Bool.not_false, Bool.not_true]
     exact RcAt.str_bool _ _ _
   | int b =>
     have h' : v' = .int b := h'
     subst h'
     obtain ⟨t', rfl⟩ := r'
     simp only [deq, Bool.not_false, Bool.not_true]
     exact RcAt.str_int _ _ _ _
   | str b =>
     have h' : v' = .str b := h'
     subst h'
     obtain ⟨t', rfl⟩ := r'
     simp only [deq, Bool.not_false, Bool.not_true]
     exact RcAt.str_str _ _ _ _
   | tup ds' =>
     obtain ⟨l', vs', rfl, e', hs'⟩ := h'
     cases r'
     obtain ⟨its', rv', hl'⟩ := DAts.tup_of ok e'
     simp only [deq, Bool.not_false, Bool.not_true]
     exact RcAt.str_tuple _ _ hl' hu0
   | lst ds' =>
     obtain ⟨l', vs', rfl, e', hs'⟩ := h'
     cases r'
     obtain ⟨its', rv', hl'⟩ := DAts.lst_of ok e'
     simp only [deq, Bool.not_false, Bool.not_true]
     exact RcAt.str_list _ _ hl' hu0
 | tup ds =>
   obtain ⟨l, vs, rfl, e, hs⟩ := h
   cases r
   obtain ⟨its, rv, hl⟩ := DAts.tup_of ok e
   cases d' with
   | non =>
     have h' : v' = .non := h'
     subst h'
     cases r'
     simp only [deq, Bool.not_false, Bool.not_true]
     exact RcAt.tuple_none hl hu0
   | bl b =>
     have h' : v' = .bl b := h'
     subst h'
     cases r'
     simp only [deq, Bool.not_false, Bool.not_true]
     exact RcAt.tuple_bool _ hl hu0
   | int b =>
     have h' : v' = .int b := h'
     subst h'
     obtain ⟨t', rfl⟩ := r'
     simp only [deq, Bool.not_false, Bool.not_true]
     exact RcAt.tuple_int _ _ hl hu0
   | str b =>
     have h' : v' = .str b := h'
     subst h'
     obtain ⟨t', rfl⟩ := r'
     simp only [deq, Bool.not_false, Bool.not_true]
     exact RcAt.tuple_str _ _ hl hu0
   | tup ds' =>
     obtain ⟨l', vs', rfl, e', hs'⟩ := h'
     cases r'
     obtain ⟨its', rv', hl'⟩ := DAts.tup_of ok e'
     simp only [deq, Bool.not_false, Bool.not_true]
     exact rc_tups ok (jM ok n) hs hs' rv rv' hl hl' f.2 hu
   | lst ds' =>
     obtain ⟨l', vs', rfl, e', hs'⟩ := h'
     cases r'
     obtain ⟨its', rv', hl'⟩ := DAts.lst_of ok e'
     simp only [deq, Bool.not_false, Bool.not_true]
     exact RcAt.tuple_list hl hl' hu0
 | lst ds =>
   obtain ⟨l, vs, rfl, e, hs⟩ := h
   cases r
   obtain ⟨its, rv, hl⟩ := DAts.lst_of ok e
   cases d' with
   | non =>
     have h' : v' = .non := h'
     subst h'
     cases r'
     simp only [deq, Bool.not_false, Bool.not_true]
     exact RcAt.list_none hl hu0
   | bl b =>
     have h' : v' = .bl b := h'
     subst h'
     cases r'
     simp only [deq, Bool.not_false, Bool.not_true]
     exact RcAt.list_bool _ hl hu0
   | int b =>
     have h' : v' = .int b := h'
     subst h'
     obtain ⟨t', rfl⟩ := r'
     simp only [deq, Bool.not_false, Bool.not_true]
     exact RcAt.list_int _ _ hl hu0
   | str b =>
     have h' : v' = .str b := h'
     subst h'
     obtain ⟨t', rfl⟩ := r'
     simp only [deq, Bool.not_false, Bool.not_true]
     exact RcAt.list_str _ _ hl hu0
   | tup ds' =>
     obtain ⟨l', vs', rfl, e', hs'⟩ := h'
     cases r'
     obtain ⟨its', rv', hl'⟩ := DAts.tup_of ok e'
     simp only [deq, Bool.not_false, Bool.not_true]
     exact RcAt.list_tuple hl hl' hu0
   | lst ds' =>
     obtain ⟨l', vs', rfl, e', hs'⟩ := h'
     cases r'
     obtain ⟨its', rv', hl'⟩ := DAts.lst_of ok e'
     simp only [deq, Bool.not_false, Bool.not_true]
     exact rc_lists ok (jM ok n) hs hs' rv rv' hl hl' f.2 hu
theorem rn_at (ok : HOk P w H s.heap) {n : Nat} {A : Around} {d d' : Dt} {v v' : V} {u u' : Value} (h : DAt H d v) (h' : DAt H d' v') (r : RelV v u) (r' : RelV v' u') (f : DFit (n + 1) d) (hu : A.units + (n + 1) < cLine) : RcNeAt A s u u' (!deq d d') := by
 have hu0 : A.units < cLine := by omega
 cases d with
 | non =>
   have h : v = .non := h
   subst h
   cases r
   cases d' with
   | non =>
     have h' : v' = .non := h'
     subst h'
     cases r'
     simp only [deq, Bool.not_false, Bool.not_true]
     exact RcNeAt.none_none
   | bl b =>
     have h' : v' = .bl b := h'
     subst h'
     cases r'
     simp only [deq, Bool.not_false, Bool.not_true]
     exact RcNeAt.none_bool _
   | int b =>
     have h' : v' = .int b := h'
     subst h'
     obtain ⟨t', rfl⟩ := r'
     simp only [deq, Bool.not_false, Bool.not_true]
     exact RcNeAt.none_int _ _
   | str b =>
     have h' : v' = .str b := h'
     subst h'
     obtain ⟨t', rfl⟩ := r'
     simp only [deq, Bool.not_false, Bool.not_true]
     exact RcNeAt.none_str _ _
   | tup ds' =>
     obtain ⟨l', vs', rfl, e', hs'⟩ := h'
     cases r'
     obtain ⟨its', rv', hl'⟩ := DAts.tup_of ok e'
     simp only [deq, Bool.not_false, Bool.not_true]
     exact RcNeAt.none_tuple hl' hu0
   | lst ds' =>
     obtain ⟨l', vs', rfl, e', hs'⟩ := h'
     cases r'
     obtain ⟨its', rv', hl'⟩ := DAts.lst_of ok e'
     simp only [deq, Bool.not_false, Bool.not_true]
     exact RcNeAt.none_list hl' hu0
 | bl a =>
   have h : v = .bl a := h
   subst h
   cases r
   cases d' with
   | non =>
     have h' : v' = .non := h'
     subst h'
     cases r'
     simp only [deq, Bool.not_false, Bool.not_true]
     exact RcNeAt.bool_none _
   | bl b =>
     have h' : v' = .bl b := h'
     subst h'
     cases r'
     simp only [deq, Bool.not_false, Bool.not_true]
     exact RcNeAt.bool_bool _ _
   | int b =>
     have h' : v' = .int b := h'
     subst h'
     obtain ⟨t', rfl⟩ := r'
     simp only [deq, Bool.not_false, Bool.not_true]
     exact RcNeAt.bool_int _ _ _
   | str b =>
     have h' : v' = .str b := h'
     subst h'
     obtain ⟨t', rfl⟩ := r'
     simp only [deq, Bool.not_false, Bool.not_true]
     exact RcNeAt.bool_str _ _ _
   | tup ds' =>
     obtain ⟨l', vs', rfl, e', hs'⟩ := h'
     cases r'
     obtain ⟨its', rv', hl'⟩ := DAts.tup_of ok e'
     simp only [deq, Bool.not_false, Bool.not_true]
     exact RcNeAt.bool_tuple _ hl' hu0
   | lst ds' =>
     obtain ⟨l', vs', rfl, e', hs'⟩ := h'
     cases r'
     obtain ⟨its', rv', hl'⟩ := DAts.lst_of ok e'
     simp only [deq, Bool.not_false, Bool.not_true]
     exact RcNeAt.bool_list _ hl' hu0
 | int a =>
   have h : v = .int a := h
   subst h
   obtain ⟨t, rfl⟩ := r
   cases d' with
   | non =>
     have h' : v' = .non := h'
     subst h'
     cases r'
     simp only [deq, Bool.not_false, Bool.not_true]
     exact RcNeAt.int_none _ _
   | bl b =>
     have h' : v' = .bl b := h'
     subst h'
     cases r'
     simp only [deq, Bool.not_false, Bool.not_true]
     exact RcNeAt.int_bool _ _ _
   | int b =>
     have h' : v' = .int b := h'
     subst h'
     obtain ⟨t', rfl⟩ := r'
     simp only [deq, Bool.not_false, Bool.not_true]
     exact RcNeAt.int_int _ _ _ _
   | str b =>
     have h' : v' = .str b := h'
     subst h'
     obtain ⟨t', rfl⟩ := r'
     simp only [deq, Bool.not_false, Bool.not_true]
     exact RcNeAt.int_str _ _ _ _
   | tup ds' =>
     obtain ⟨l', vs', rfl, e', hs'⟩ := h'
     cases r'
     obtain ⟨its', rv', hl'⟩ := DAts.tup_of ok e'
     simp only [deq, Bool.not_false, Bool.not_true]
     exact RcNeAt.int_tuple _ _ hl' hu0
   | lst ds' =>
     obtain ⟨l', vs', rfl, e', hs'⟩ := h'
     cases r'
     obtain ⟨its', rv', hl'⟩ := DAts.lst_of ok e'
     simp only [deq, Bool.not_false, Bool.not_true]
     exact RcNeAt.int_list _ _ hl' hu0
 | str a =>
   have h : v = .str a := h
   subst h
   obtain ⟨t, rfl⟩ := r
   cases d' with
   | non =>
     have h' : v' = .non := h'
     subst h'
     cases r'
     simp only [deq, Bool.not_false, Bool.not_true]
     exact RcNeAt.str_none _ _
   | bl b =>
     have h' : v' = .bl b := h'
     subst h'
     cases r'
     simp only [deq, Bool.not_false, Bool.not_true]
     exact RcNeAt.str_bool _ _ _
   | int b =>
     have h' : v' = .int b := h'
     subst h'
     obtain ⟨t', rfl⟩ := r'
     simp only [deq, Bool.not_false, Bool.not_true]
     exact RcNeAt.str_int _ _ _ _
   | str b =>
     have h' : v' = .str b := h'
     subst h'
     obtain ⟨t', rfl⟩ := r'
     simp only [deq, Bool.not_false, Bool.not_true]
     exact RcNeAt.str_str _ _ _ _
   | tup ds' =>
     obtain ⟨l', vs', rfl, e', hs'⟩ := h'
     cases r'
     obtain ⟨its', rv', hl'⟩ := DAts.tup_of ok e'
     simp only [deq, Bool.not_false, Bool.not_true]
     exact RcNeAt.str_tuple _ _ hl' hu0
   | lst ds' =>
     obtain ⟨l', vs', rfl, e', hs'⟩ := h'
     cases r'
     obtain ⟨its', rv', hl'⟩ := DAts.lst_of ok e'
     simp only [deq, Bool.not_false, Bool.not_true]
     exact RcNeAt.str_list _ _ hl' hu0
 | tup ds =>
   obtain ⟨l, vs, rfl, e, hs⟩ := h
   cases r
   obtain ⟨its, rv, hl⟩ := DAts.tup_of ok e
   cases d' with
   | non =>
     have h' : v' = .non := h'
     subst h'
     cases r'
     simp only [deq, Bool.not_false, Bool.not_true]
     exact RcNeAt.tuple_none hl hu0
   | bl b =>
     have h' : v' = .bl b := h'
     subst h'
     cases r'
     simp only [deq, Bool.not_false, Bool.not_true]
     exact RcNeAt.tuple_bool _ hl hu0
   | int b =>
     have h' : v' = .int b := h'
     subst h'
     obtain ⟨t', rfl⟩ := r'
     simp only [deq, Bool.not_false, Bool.not_true]
     exact RcNeAt.tuple_int _ _ hl hu0
   | str b =>
     have h' : v' = .str b := h'
     subst h'
     obtain ⟨t', rfl⟩ := r'
     simp only [deq, Bool.not_false, Bool.not_true]
     exact RcNeAt.tuple_str _ _ hl hu0
   | tup ds' =>
     obtain ⟨l', vs', rfl, e', hs'⟩ := h'
     cases r'
     obtain ⟨its', rv', hl'⟩ := DAts.tup_of ok e'
     simp only [deq, Bool.not_false, Bool.not_true]
     exact rn_tups ok (jM ok n) hs hs' rv rv' hl hl' f.2 hu
   | lst ds' =>
     obtain ⟨l', vs', rfl, e', hs'⟩ := h'
     cases r'
     obtain ⟨its', rv', hl'⟩ := DAts.lst_of ok e'
     simp only [deq, Bool.not_false, Bool.not_true]
     exact RcNeAt.tuple_list hl hl' hu0
 | lst ds =>
   obtain ⟨l, vs, rfl, e, hs⟩ := h
   cases r
   obtain ⟨its, rv, hl⟩ := DAts.lst_of ok e
   cases d' with
   | non =>
     have h' : v' = .non := h'
     subst h'
     cases r'
     simp only [deq, Bool.not_false, Bool.not_true]
     exact RcNeAt.list_none hl hu0
   | bl b =>
     have h' : v' = .bl b := h'
     subst h'
     cases r'
     simp only [deq, Bool.not_false, Bool.not_true]
     exact RcNeAt.list_bool _ hl hu0
   | int b =>
     have h' : v' = .int b := h'
     subst h'
     obtain ⟨t', rfl⟩ := r'
     simp only [deq, Bool.not_false, Bool.not_true]
     exact RcNeAt.list_int _ _ hl hu0
   | str b =>
     have h' : v' = .str b := h'
     subst h'
     obtain ⟨t', rfl⟩ := r'
     simp only [deq, Bool.not_false, Bool.not_true]
     exact RcNeAt.list_str _ _ hl hu0
   | tup ds' =>
     obtain ⟨l', vs', rfl, e', hs'⟩ := h'
     cases r'
     obtain ⟨its', rv', hl'⟩ := DAts.tup_of ok e'
     simp only [deq, Bool.not_false, Bool.not_true]
     exact RcNeAt.list_tuple hl hl' hu0
   | lst ds' =>
     obtain ⟨l', vs', rfl, e', hs'⟩ := h'
     cases r'
     obtain ⟨its', rv', hl'⟩ := DAts.lst_of ok e'
     simp only [deq, Bool.not_false, Bool.not_true]
     exact rn_lists ok (jM ok n) hs hs' rv rv' hl hl' f.2 hu
end
section
variable {X : Cx}
def rEqG : R2 := fun x y H Q => ∃ n d d', DAt H d x /\ DAt H d' y /\ DFit (n + 1) d /\ n <= 60 /\ Q (.bl (deq d d')) H
def rNeG : R2 := fun x y H Q => ∃ n d d', DAt H d x /\ DAt H d' y /\ DFit (n + 1) d /\ n <= 60 /\ Q (.bl (!deq d d')) H
theorem yK (hu : X.A.units + 64 < cLine) : OpR X (compareOp .Eq) rEqG := by
 intro pins s σ H x y v u Q I rx ry h
 obtain ⟨n, d, d', h1, h2, f, hn, q⟩ := h
 exact rc_at I.hok h1 h2 rx ry f (by omega) X.prog X.w _ _ (zR I q rfl)
theorem op_neG (hu : X.A.units + 64 < cLine) : OpR X (compareOp .NotEq) rNeG := by
 intro pins s σ H x y v u Q I rx ry h
 obtain ⟨n, d, d', h1, h2, f, hn, q⟩ := h
 exact rn_at I.hok h1 h2 rx ry f (by omega) X.prog X.w _ _ (zR I q rfl)
def rInG (neg : Bool) : R2 := fun x y H Q => ∃ n d ds, DAt H d x /\ (DAt H (.lst ds) y \/ DAt H (.tup ds) y) /\ (∀ e ∈ ds, DFit n e) /\ n <= 60 /\ Q (.bl (neg ^^ ds.any fun e => deq e d)) H
open Classical in
theorem in_any {H : Hp} {its : List Value} {vs : List V} {ds : List Dt} {d : Dt} (hs : DAts H ds vs) (rv : Vals vs its) (e : Value -> Bool) (he : ∀ y, e y = decide (∃ d' v', DAt H d' v' /\ RelV v' y /\ deq d' d = true)) : its.toArray.any e = ds.any fun e => deq e d := by
 rw [List.any_toArray]
 induction ds generalizing vs its with
 | nil =>
   have hs : vs = [] := hs
   subst hs
   cases rv
   rfl
 | cons d0 ds ih =>
   obtain ⟨v, r, rfl, e1, e2⟩ := hs
   cases rv with
   | cons rr rt =>
     rename_i u us
     rw [List.any_cons, List.any_cons, ih e2 rt, he]
     congr 1
     rw [Bool.eq_iff_iff, decide_eq_true_eq]
     constructor
     · rintro ⟨d', v', q1, q2, q3⟩
       have := RelV.inj q2 rr
       subst this
       rw [DAt.one_of e1 q1]
       exact q3
     · intro q
       exact ⟨d0, v, e1, rr, q⟩
open Classical in
theorem in_eq {P : Program} {w : World} {H : Hp} {s : Shared} {A : Around} (ok : HOk P w H s.heap) {its : List Value} {vs : List V} {ds : List Dt} {d : Dt} {x : V} {u : Value} {n : Nat} (hs : DAts H ds vs) (rv : Vals vs its) (hx : DAt H d x) (ru : RelV x u) (f : ∀ e ∈ ds, DFit n e) (hu : A.units + (n + 1) < cLine)
   (y : Value) (hy : y ∈ its.toArray) : EqAt A.in1 s y u (decide (∃ d' v', DAt H d' v' /\ RelV v' y /\ deq d' d = true)) := by
 obtain ⟨j, hj, e⟩ := List.getElem_of_mem (show y ∈ its by simpa using hy)
 have k1 := hs.length
 have k2 := rv.length
 have hjd : j < ds.length := by omega
 obtain ⟨v, v1, v2⟩ := hs.get (List.getElem?_eq_getElem hjd)
 have rr : RelV v y := vals_at rv v1 (by rw [List.getElem?_eq_getElem hj, e])
 have : decide (∃ d' v', DAt H d' v' /\ RelV v' y /\ deq d' d = true) = deq ds[j] d := by
   rw [Bool.eq_iff_iff, decide_eq_true_eq]
   constructor
   · rintro ⟨d', v', q1, q2, q3⟩
     have := RelV.inj q2 rr
     subst this
     rw [DAt.one_of v2 q1]
     exact q3
   · intro q
     exact ⟨_, v, v2, rr, q⟩
 rw [this]
 exact jM ok n v2 hx rr ru (f _ (List.getElem_mem hjd)) (by show A.units + 1 + n < cLine; omega)
theorem jT (hu : X.A.units + 64 < cLine) : OpR X (compareOp .NotIn) (rInG true) := by
 intro pins s σ H x y v u Q I rx ry h
 obtain ⟨n, d, ds, hx, hy, f, hn, q⟩ := h
 rw [Bool.true_xor] at q
 rcases hy with ⟨l, vs, rfl, e, hs⟩ | ⟨l, vs, rfl, e, hs⟩
 · cases ry
   obtain ⟨its, rv, hl⟩ := DAts.lst_of I.hok e
   refine notIn_listAt _ hl (in_eq I.hok hs rv hx rx f (by omega)) (zR I q ?_)
   rw [in_any hs rv _ fun _ => rfl]
 · cases ry
   obtain ⟨its, rv, hl⟩ := DAts.tup_of I.hok e
   refine notIn_tupleAt _ hl (in_eq I.hok hs rv hx rx f (by omega)) (zR I q ?_)
   rw [in_any hs rv _ fun _ => rfl]
end
end L2
namespace L2
open PySem PySem.Spec PyProof.Rows PySem.SeqAt
section
variable {prog : Program} {w : World} {A : Around} {E : Value -> Shared -> Prop} {s : Shared}
structure Apt (z TI TO i1 i2 l1 l2 : Addr) : Prop where
 nd : [z, TI, TO, i1, i2].Nodup
 a1 : l1 ≠ z /\ l1 ≠ TO /\ l1 ≠ i1 /\ l1 ≠ i2
 a2 : l2 ≠ z /\ l2 ≠ TO /\ l2 ≠ i1 /\ l2 ≠ i2
end
section
variable {X : Cx} {pins : List (Addr × Obj)} {σ : St} {H : Hp} {s : Shared} {h' : Heap}
end
section
variable {X : Cx}
end
end L2
namespace L2
open PySem PySem.Spec PyProof.Rows PySem.SeqAt
def entI (w : World) : List DictEntry -> List (Str × Int) -> Prop
 | [], r => r = []
 | e :: es, r => ∃ x y t u r', r = (x, y) :: r' /\ e.hash = hashStr w x /\ e.key = .str x t /\ e.val = .int y u /\ entI w es r'
theorem entI.all {w : World} {P : Program} : ∀ {es : List DictEntry} {r : List (Str × Int)}, entI w es r -> (∀ e ∈ es, ∃ k, (zX P w).is k e.key = true /\ e.hash = (zX P w).hash k) /\
   ∃ vs : List (Key × Value), KV (r.map fun p => ((.inr p.1 : Key), V.int p.2)) vs /\ Pairs (zX P w) es vs /\ vs.map (·.1) = r.map fun p => (.inr p.1 : Key)
 | [], r, h => by
   have h : r = [] := h
   subst h
   exact ⟨fun e he => (nomatch he), [], .nil, .nil, rfl⟩
 | e :: es, r, h => by
   obtain ⟨x, y, t, u, r', rfl, h1, h2, h3, h4⟩ := h
   obtain ⟨g, vs, a, b, c⟩ := entI.all (P := P) h4
   refine ⟨fun e' he => ?_, (.inr x, .int y u) :: vs, .cons ⟨rfl, u, rfl⟩ a, .cons (by rw [h2]; exact yR P w x t) h3 b, ?_⟩
   · rcases List.mem_cons.mp he with rfl | he
     · exact ⟨.inr x, by rw [h2]; exact yR P w x t, h1⟩
     · exact g e' he
   · rw [List.map_cons, List.map_cons, c]
end L2
namespace L2
open PySem PySem.Spec PyProof.Rows PySem.SeqAt
inductive Rw where
 | no | nm (x : Str) | bo (i j : Int)
def dRw : Rw -> Dt
 | .no => .tup [.str "none"]
 | .nm x => .tup [.str "name", .str x]
 | .bo i j => .tup [.str "both", .int i, .int j]
inductive Wt where
 | n (i : Int) | ps (l : List Int)
structure Ln where
 i : Int
 j : Int
 w : Str
 as : List Wt
def parts (rows : List Rw) (n : Int) : List Int := if n % 2 = 0 then (match rows[(n / 2).toNat]? with | some (.bo i j) => [i, j] | _ => []) else []
def tn1 (n : Int) : Int := n + 1 - 2 * (n % 2)
theorem xor1 (n : Int) : Builtin.bitXor n 1 = tn1 n := by
 rw [bitXor_and]
 unfold tn1
 rw [bitAnd_m1]
end L2
namespace L2
open PySem PySem.Spec PyProof.Rows PySem.SeqAt
section
variable {prog : Program} {w : World} {A : Around} {E : Value -> Shared -> Prop} {s : Shared}
theorem tup_whole {t sl : Addr} {items : Array Value} {vl vu : Value} {lo hi : Option Int} {Q : Value -> Shared -> Prop} (ht : IsTup s.heap t items) (hs : s.heap.IsSliceOf sl vl vu .none) (pl : IsPart vl lo) (pu : IsPart vu hi)
   (hw : HT.sIx items.size 0 lo = 0 /\ HT.sIx items.size items.size hi = items.size) (h : Q (.ref t) s) : wpAny (model prog w) A (getItem (.ref t) (.ref sl)) Q E s := by
 obtain ⟨os, hos, hcs, hds⟩ := id hs
 have hTs : s.TypeIs (.ref sl) "slice" := ⟨os, hos, hcs⟩
 unfold getItem
 try with_reducible refine wpAny_holding ?_
 first | refine wpAny_bind (wpAny_pure ?_) | skip
 refine wpAny_bind (wpAny_sequenceKey ht.typeIs (by decide) (wpAny_bind (wpAny_callSpecial?_slot (name := Str.ofString "__getitem__") ht.typeIs PyProof.Rows.slot_tuple_getitem (wpAny_call_entry PyProof.Rows.slot_tuple_getitem ht.typeIs entry_tuple_getitem ?_ (args_tuple_getitem _ _)))))
 refine wpAny_bind (m := Builtin.Tuple.tupleItemsOf (.ref t)) (tupleItemsOf_ ht (wpAny_bind (wpAny_typeOf hTs ?_)))
 rw [if_pos (by decide)]
 refine wpAny_bind (HT.sliceApplied_gen hs pl pu ?_)
 have hyes : ((((HT.sIx items.size 0 lo : Nat) : Int) == 0 && (1 : Int) == 1 && (HT.sIx items.size items.size hi - HT.sIx items.size 0 lo) == items.size) = true) := by
   rw [hw.1, hw.2]
   simp
 show wpAny _ _ (if (((HT.sIx items.size 0 lo : Nat) : Int) == 0 && (1 : Int) == 1 && (HT.sIx items.size items.size hi - HT.sIx items.size 0 lo) == items.size) = true then _ else _) _ _ s
 rw [if_pos hyes]
 have hT := ht.typeIs
 wp_walk
 exact ⟨_, rfl, wpAny_pure h⟩
end
section
variable {X : Cx}
def rSlG : V -> Option Int -> Option Int -> Hp -> VK -> Prop := fun x lo hi H Q => ∃ a xs, x = .ref a /\ H a = some (.tup xs) /\ ∀ p H', Same H H' -> H' p = some (.tup (yO xs lo hi)) -> Q (.ref p) H'
theorem sl_tupG : SlR X rSlG := by
 intro pins s σ H x v vl vu lo hi sl Q I rx hs pl pu h
 obtain ⟨a, xs, rfl, hx, q⟩ := h
 by_cases hw : HT.sIx xs.length 0 lo = 0 /\ HT.sIx xs.length xs.length hi = xs.length
 · cases rx
   obtain ⟨its, r, ht, hz⟩ := I.tuple (SqT.of hx)
   have hlen : its.toArray.size = xs.length := by rw [List.size_toArray]; exact r.length.symm
   refine ⟨"tuple", _, PyProof.Rows.slot_tuple_getitem.lookup, ht.typeIs, ?_⟩
   refine tup_whole ht hs pl pu (by rw [hlen]; exact hw) ⟨.ref a, H, I, rfl, q a H (Same.refl H) ?_⟩
   have e : yO xs lo hi = xs := by
     unfold yO
     rw [hw.1, hw.2, List.drop_zero, Nat.sub_zero, List.take_of_length_le (Nat.le_refl _)]
   rw [e]
   exact hx
 · exact sl_tup pins s σ H _ v vl vu lo hi sl Q I rx hs pl pu ⟨a, xs, rfl, SqT.of hx, hw, fun p hp => q p _ (zF hp _) zB⟩
end
end L2
namespace L2
open PySem PySem.Spec PyProof.Rows PySem.SeqAt
section
variable {X : Cx}
def rIndexG : V -> List V -> Hp -> VK -> Prop := fun x vs H Q => ∃ (l : Addr) (us : List V) (ds : List Dt) (v : V) (d : Dt) (n j : Nat), x = .ref l /\ vs = [v] /\ H l = some (.lst us) /\ DAts H ds us /\ DAt H d v /\ (∀ e ∈ ds, DFit n e) /\ n <= 60 /\ ds.length <= 1000000 /\ (∃ d', ds[j]? = some d' /\ deq d' d = true) /\ (∀ (m : Nat) (d' : Dt), m < j -> ds[m]? = some d' -> deq d' d = false) /\ Q (.int j) H
open Classical in
theorem jU (hu : X.A.units + 64 < cLine) : MtM X "list.index" rIndexG := by
 intro pins s σ H x vs v us Q I rx rv h
 obtain ⟨l, ws, ds, y, d, n, j, rfl, rfl, hH, hds, hd, hf, hn, h6, ⟨d', hj, hj'⟩, hno, q⟩ := h
 cases rx
 obtain ⟨u, rfl, ru⟩ := rv.one
 obtain ⟨hz, its, m, r, hl, e⟩ := I.lstM hH
 have k1 := hds.length
 have k2 := r.length
 obtain ⟨jl, je⟩ := List.getElem?_eq_some_iff.mp hj
 have at_ : ∀ m (hm : m < its.length), decide (∃ d' v', DAt H d' v' /\ RelV v' its[m] /\ deq d' d = true) = deq (ds[m]'(by omega)) d := fun m hm => by
   have hmd : m < ds.length := by omega
   obtain ⟨v, v1, v2⟩ := hds.get (List.getElem?_eq_getElem hmd)
   have rr : RelV v its[m] := vals_at r v1 (List.getElem?_eq_getElem hm)
   rw [Bool.eq_iff_iff, decide_eq_true_eq]
   constructor
   · rintro ⟨d', v', q1, q2, q3⟩
     have := RelV.inj q2 rr
     subst this
     rw [DAt.one_of v2 q1]
     exact q3
   · intro q
     exact ⟨_, v, v2, rr, q⟩
 have hj2 : j < its.toArray.size := by rw [List.size_toArray]; omega
 have M := PySem.SeqAt.list_indexAt l its.toArray m none #[] u (fun y => decide (∃ d' v', DAt H d' v' /\ RelV v' y /\ deq d' d = true)) j hj2 (by omega) (by
     rw [List.getElem_toArray, at_ j (by omega), je]
     exact hj') (fun m hm hlt => by
     rw [List.getElem_toArray, at_ m (by simpa using hm)]
     exact hno m _ hlt (List.getElem?_eq_getElem (by have : m < its.length := (by simpa using hm); omega)))
 refine call_meets PySem.F.slot_list_index ⟨_, e, rfl⟩ PySem.F.entry_list_index (PySem.F.args_list_index_2 _ _) M ⟨e, fun y hy => ?_, ?_⟩
 · exact in_eq I.hok hds r hd ru hf (by omega) y hy
 · exact ⟨.int j, H, I.tok _, ⟨_, rfl⟩, q⟩
end
end L2
namespace L2
open PySem
end L2
namespace L2
open PySem PyProof.Rows
section
variable {prog : Program} {w : World} {A : Around} {E : Value -> Shared -> Prop} {s : Shared}
end
section
variable {prog : Program} {w : World} {A : Around} {R : Result -> Shared -> Prop} {I : Addr} {fp wr : List Addr} {G : Array GenState -> Array GenState -> Prop} {n : Nat} {P : Nat -> Value -> Prop} {St : Nat -> Shared -> Prop}
end
section
variable {prog : Program} {w : World} {A : Around} {E : Value -> Shared -> Prop} {s : Shared}
end
end L2
namespace L2
open PySem PySem.Spec PyProof.Rows PySem.SeqAt PySem.W
section
variable {prog : Program} {w : World} {A : Around} {E : Value -> Shared -> Prop} {s : Shared} {T : String} {r d : Addr} {n : Nat} {P : Nat -> Value -> Prop} {OK : Heap -> Prop}
end
section
variable {X : Cx}
end
end L2
namespace L2
open PySem PySem.Spec PyProof.Rows PySem.SeqAt
section
variable {X : Cx}
end
section
variable {X : Cx} {tg : Expr}
end
end L2
namespace L2
theorem odd_part : ∀ n : Nat, 0 < n -> ∃ t m, n = 2 ^ t * (2 * m + 1) := by
 intro n
 induction n using Nat.strongRecOn with
 | _ n ih =>
   intro h
   by_cases ho : n % 2 = 1
   · exact ⟨0, n / 2, by omega⟩
   · obtain ⟨t, m, e⟩ := ih (n / 2) (by omega) (by omega)
     refine ⟨t + 1, m, ?_⟩
     rw [Nat.pow_succ, Nat.mul_assoc, Nat.mul_left_comm, ← e]
     omega
theorem low_bits {n : Nat} (h : 0 < n) : ∃ t, n.testBit t = true /\ (∀ i, i < t -> n.testBit i = false) /\ n - (n &&& (n - 1)) = 2 ^ t /\ ∀ i, (n &&& (n - 1)).testBit i = (n.testBit i && decide (i ≠ t)) := by
 obtain ⟨t, m, e⟩ := odd_part n h
 have e1 : n = 2 ^ t * (2 * m + 1) + 0 := by omega
 have hp : 0 < 2 ^ t := Nat.two_pow_pos t
 have e2 : n - 1 = 2 ^ t * (2 * m) + (2 ^ t - 1) := by
   rw [e, Nat.mul_add, Nat.mul_one]
   omega
 have b1 : ∀ i, n.testBit i = if i < t then false else (2 * m + 1).testBit (i - t) := fun i => by
   rw [e, Nat.testBit_two_pow_mul]
   by_cases hi : i < t
   · rw [if_pos hi, decide_eq_false (by omega), Bool.false_and]
   · rw [if_neg hi, decide_eq_true (by omega), Bool.true_and]
 have b2 : ∀ i, (n - 1).testBit i = if i < t then true else (2 * m).testBit (i - t) := fun i => by
   rw [e2, Nat.testBit_two_pow_mul_add _ (by omega)]
   by_cases hi : i < t
   · rw [if_pos hi, if_pos hi, Nat.testBit_two_pow_sub_one, decide_eq_true hi]
   · rw [if_neg hi, if_neg hi]
 have ev : ∀ j, (2 * m).testBit j = ((2 * m + 1).testBit j && decide (j ≠ 0)) := fun j => by
   cases j with
   | zero => simp
   | succ j =>
     rw [Nat.testBit_succ, Nat.testBit_succ]
     have : (2 * m + 1) / 2 = 2 * m / 2 := by omega
     rw [this]
     simp
 have b3 : ∀ i, (n &&& (n - 1)).testBit i = (n.testBit i && decide (i ≠ t)) := fun i => by
   rw [Nat.testBit_and, b1, b2]
   by_cases hi : i < t
   · rw [if_pos hi, Bool.false_and, Bool.false_and]
   · rw [if_neg hi, if_neg hi, ev]
     have : decide (i - t ≠ 0) = decide (i ≠ t) := by
       rw [decide_eq_decide]
       omega
     rw [this]
     cases (2 * m + 1).testBit (i - t) <;> simp
 have e3 : n &&& (n - 1) = 2 ^ t * (2 * m) := by
   apply Nat.eq_of_testBit_eq
   intro i
   rw [b3, b1, Nat.testBit_two_pow_mul]
   by_cases hi : i < t
   · rw [if_pos hi, show decide (i ≥ t) = false from decide_eq_false (by omega), Bool.false_and, Bool.false_and]
   · rw [if_neg hi, show decide (i ≥ t) = true from decide_eq_true (by omega), Bool.true_and, ev]
     have : decide (i - t ≠ 0) = decide (i ≠ t) := by
       rw [decide_eq_decide]
       omega
     rw [this]
 refine ⟨t, ?_, fun i hi => ?_, ?_, b3⟩
 · rw [b1, if_neg (by omega), Nat.sub_self]
   simp
 · rw [b1, if_pos hi]
 · rw [e3, e, Nat.mul_add, Nat.mul_one]
   omega
def Bits (n : Nat) (xs : List Nat) : Prop := xs.Pairwise (· < ·) /\ ∀ i, n.testBit i = decide (i ∈ xs)
theorem Bits.zero : Bits 0 [] := ⟨List.Pairwise.nil, fun i => by simp⟩
theorem Bits.nil {n : Nat} (h : Bits n []) : n = 0 := Nat.eq_of_testBit_eq fun i => by rw [h.2]; simp
theorem Bits.cons {n x : Nat} {xs : List Nat} (h : Bits n (x :: xs)) : 0 < n /\ n - (n &&& (n - 1)) = 2 ^ x /\ Bits (n &&& (n - 1)) xs := by
 have hx : n.testBit x = true := by rw [h.2]; simp
 have hn : 0 < n := Nat.pos_of_ne_zero fun z => by rw [z] at hx; simp at hx
 obtain ⟨t, t1, t2, t3, t4⟩ := low_bits hn
 have hp := List.pairwise_cons.mp h.1
 have e : t = x := by
   rw [h.2, decide_eq_true_eq] at t1
   rcases List.mem_cons.mp t1 with e | e
   · exact e
   · have := hp.1 t e
     rw [t2 x this] at hx
     cases hx
 subst e
 refine ⟨hn, t3, hp.2, fun i => ?_⟩
 rw [t4, h.2]
 by_cases hi : i = t
 · subst hi
   have : i ∉ xs := fun z => Nat.lt_irrefl _ (hp.1 i z)
   simp [this]
 · simp [hi]
end L2
namespace L2
open PySem PySem.Spec PyProof.Rows PySem.SeqAt
section
variable {X : Cx}
end
end L2
namespace L2
open PySem PySem.Spec PyProof.Rows PySem.W
section
variable {prog : Program} {w : World} {A : Around} {E : Value -> Shared -> Prop} {s : Shared}
def RawD (h : Heap) (d : Addr) (es : Array DictEntry) (ep : Nat) : Prop := ∃ o, h.get? d = some o /\ o.ExactDict /\ o.data = .dict es ep
theorem RawD.typeIs {d : Addr} {es : Array DictEntry} {ep : Nat} (x : RawD s.heap d es ep) : s.TypeIs (.ref d) "dict" := let ⟨o, ho, hc, _⟩ := x; ⟨o, ho, hc.1⟩
theorem RawD.at' {h h' : Heap} {d : Addr} {es : Array DictEntry} {ep : Nat} (x : RawD h d es ep) (e : ∀ o, h.get? d = some o -> h'.get? d = some o) : RawD h' d es ep := let ⟨o, ho, r⟩ := x; ⟨o, e _ ho, r⟩
theorem RawD.lt {h : Heap} {d : Addr} {es : Array DictEntry} {ep : Nat} (x : RawD h d es ep) : d < h.objs.size := let ⟨_, ho, _⟩ := x; Heap.lt_size ho
theorem raw_len (d : Addr) (hd : (d == sysModules) = false) : MeetsIn prog w (Builtin.«dict.__len__» ⟨[.ref d], []⟩) (fun _ R s => ∃ es ep, RawD s.heap d es ep /\ R (.ok (.ret (.int es.size s.toks))) { s with toks := s.toks + 1 }) :=
 .of_wp fun A R s ⟨es, ep, hm, h⟩ => by
   obtain ⟨o, a1, a2, a3⟩ := id hm
   show wpAny _ _ (dictSize d >>= _) _ _ s; unfold dictSize
   refine wpAny_bind (wpAny_bind (wpAny_dictEntries a1 a3 (wpAny_pure ?_))); show wpAny _ _ (Builtin.Dict.pendingCount d >>= _) _ _ s
   refine wpAny_bind (wpAny_pendingCount_other hd ?_); refine wpAny_ret_mkInt ?_
   rw [Nat.add_zero]; exact h
end
theorem vals_of : ∀ {ys : List V} {us : List Value}, ys.length = us.length -> (∀ (i : Nat) (y : V) (u : Value), ys[i]? = some y -> us[i]? = some u -> RelV y u) -> Vals ys us
 | [], [], _, _ => .nil
 | [], _ :: _, h, _ => by simp at h
 | _ :: _, [], h, _ => by simp at h
 | y :: ys, u :: us, h, hh => .cons (hh 0 y u rfl rfl) (vals_of (by simpa using h) fun i y' u' h1 h2 => hh (i + 1) y' u' (by simpa using h1) (by simpa using h2))
theorem KT.at {H : Hp} : ∀ {kvs : List (List Key × V)} {xs : List (List Key × Addr × Value)}, KT H kvs xs -> ∀ {i : Nat} {p : List Key × V} {q : List Key × Addr × Value}, kvs[i]? = some p -> xs[i]? = some q -> RelV p.2 q.2.2
 | _, _, .nil, i, p, q, h, _ => by simp at h
 | _, _, .cons hq t, 0, p, q, h1, h2 => by
   simp only [List.getElem?_cons_zero, Option.some.injEq] at h1 h2
   subst h1 h2
   exact hq.2.2
 | _, _, .cons hq t, i + 1, p, q, h1, h2 => KT.at t (by simpa using h1) (by simpa using h2)
section
variable {X : Cx}
end
end L2
set_option maxHeartbeats 4000000
namespace L2
open PySem PySem.Spec PyProof.Rows
theorem ObjOk.there {P : Program} {w : World} {H : Hp} {h : Heap} {a : Addr} {o : HO} (x : ObjOk P w H h a o) : ∃ ob, h.get? a = some ob := by
 cases o with
 | lst xs => obtain ⟨_, _, _, _, e⟩ := x; exact ⟨_, e⟩
 | tup xs => obtain ⟨_, _, _, ob, e, _⟩ := x; exact ⟨_, e⟩
 | dK kvs => obtain ⟨_, _, _, _, o, _, _, e, _⟩ := x; exact ⟨_, e⟩
 | dT kvs => obtain ⟨_, _, _, _, o, _, _, e, _⟩ := x; exact ⟨_, e⟩
 | set S n => obtain ⟨o, _, _, _, e, _⟩ := x; exact ⟨_, e⟩
 | ins C dx fs => obtain ⟨_, _, _, e, _⟩ := x; exact ⟨_, e⟩
 | own y => exact x
 | xd fs => obtain ⟨_, ⟨_, _, _, e, _⟩, _⟩ := x; exact ⟨_, e⟩
 | rng lo hi => obtain ⟨_, _, _, e⟩ := x; exact ⟨_, e⟩
 | frz ob u => obtain ⟨e, _⟩ := x; exact ⟨_, e⟩
 | tbl ps => exact ⟨_, show h.get? a = some _ from x⟩
 | met f y => exact ⟨_, show h.get? a = some _ from x⟩
 | ext φ => obtain ⟨_, e, _⟩ := x; exact e
structure Fl (P : Program) (w : World) (l : List Env) (H : Hp) (h : Heap) (e C : Addr) (a0 : Value) (B : Heap) (H' : Hp) (h' : Heap) : Prop where
 fly : Heap.FlyingW B l e (.ref C) a0 h'
 stay : ∀ b o, h.get? b = some o -> b ∉ frs l -> ∃ o', B.get? b = some o' /\ (H b = none -> o' = o)
 slot : ∀ b o, h.get? b = some o -> H b = none -> b ∈ frs l -> ∃ sl, h'.get? b = some { o with slots := sl }
 free : ∀ b o, h.get? b = some o -> H b = none -> H' b = none
 hok : HOk P w H' B
 ef : H' e = none
 tups : ∀ b xs, H b = some (.tup xs) -> H' b = some (.tup xs)
 frzs : ∀ b o u, H b = some (.frz o u) -> H' b = some (.frz o u)
 tbls : ∀ b ps, H b = some (.tbl ps) -> ∃ more, H' b = some (.tbl (ps ++ more))
section
variable {P : Program} {w : World} {l outer : List Env} {H H' : Hp} {h h' h'' B : Heap} {e C : Addr} {a0 : Value}
theorem Fl.un (x : Fl P w l H h e C a0 B H' h') : Un (frs l) [] H H' h h' where
 keep := fun b o q n hb _ => by
   obtain ⟨o', hB, ho⟩ := x.stay b o q hb
   rw [ho n] at hB
   exact x.fly.1 b o hB
 slot := fun b o q n hb _ => x.slot b o q n hb
 free := fun b o q n _ => x.free b o q n
 there := fun b o q _ => by
   by_cases hb : b ∈ frs l
   · obtain ⟨_, o', ho, _⟩ := x.fly.2.2.1.mem hb
     exact ⟨o', ho⟩
   · obtain ⟨o', hB, _⟩ := x.stay b o q hb
     exact ⟨o', x.fly.1 b o' hB⟩
 tups := x.tups
 frzs := x.frzs
 tbls := x.tbls
theorem Fl.okH (x : Fl P w l H h e C a0 B H' h') : HOk P w H' h' := x.hok.kept x.fly.1
theorem Fl.step (x : Fl P w l H h e C a0 B H' h') (f : Heap.FlyingW B l e (.ref C) a0 h'') (u : h'.UpToSlots h'') : Fl P w l H h e C a0 B H' h'' :=
 ⟨f, x.stay, fun b o q n hb => by
   obtain ⟨sl, h1⟩ := x.slot b o q n hb
   obtain ⟨_, o2, h2, hd⟩ := x.fly.2.2.1.mem hb
   rw [h1] at h2
   cases h2
   obtain ⟨sl2, h4⟩ := u b _ h1 hd
   exact ⟨sl2, h4⟩, x.free, x.hok, x.ef, x.tups, x.frzs, x.tbls⟩
end
def CX1 (P : Program) (w : World) : CXT := fun outer H s E e s' => ∃ (ea C : Addr) (a0 : Value) (B : Heap) (H' : Hp), e = .ref ea /\ s'.os = s.os /\ AllBare s'.gens /\ Fl P w outer H s.heap ea C a0 B H' s'.heap /\ E (.ref C) none H'
structure Body (X : Cx) : Prop where
 stk : X.stack = X.env :: X.outer
 ex : X.ex = []
 fr : X.env.frame = some X.env.locals
 new : X.s₀.heap.get? X.env.locals = none
section
variable {X : Cx} {pins : List (Addr × Obj)} {σ : St} {H Hc H' : Hp} {s sc s' : Shared} {B h'' : Heap} {e C : Addr} {a0 : Value}
theorem Body.frs (b : Body X) : frs X.stack = X.env.locals :: L2.frs X.outer := by
 rw [b.stk]
 show (X.env :: X.outer).filterMap (·.frame) = _
 rw [List.filterMap_cons, b.fr]
 rfl
theorem Fl.up (b : Body X) (I : Inv X pins σ Hc sc) (x : Fl X.prog X.w X.stack Hc sc.heap e C a0 B H' s'.heap) (f : Heap.FlyingW B X.outer e (.ref C) a0 h'') (u : s'.heap.UpToSlots h'') :
   Fl X.prog X.w X.outer X.H₀ X.s₀.heap e C a0 B H' h'' := by
 have nex : ∀ c : Addr, c ∉ X.ex := fun c z => by rw [b.ex] at z; cases z
 have nL : ∀ c o, X.s₀.heap.get? c = some o -> c ≠ X.env.locals := fun c o hc z => by rw [z, b.new] at hc; cases hc
 refine ⟨f, fun c o hc hn => ?_, fun c o hc hH hn => ?_, fun c o hc hH => ?_, x.hok, x.ef, fun c xs q => x.tups _ _ (I.base.tups _ _ q), fun c o v q => x.frzs _ _ _ (I.base.frzs _ _ _ q), fun c ps q => ?_⟩
 · obtain ⟨o1, h1⟩ := I.base.there c o hc (nex c)
   obtain ⟨o', hB, ho⟩ := x.stay c o1 h1 (by rw [b.frs]; exact fun z => (List.mem_cons.mp z).elim (nL c o hc) hn)
   refine ⟨o', hB, fun hH => ?_⟩
   have h2 := I.base.keep c o hc hH hn (nex c)
   rw [h1] at h2
   cases h2
   exact ho (I.base.free c o hc hH (nex c))
 · obtain ⟨sl, h1⟩ := I.base.slot c o hc hH hn (nex c)
   have hm : c ∈ L2.frs X.stack := by rw [b.frs]; exact List.mem_cons_of_mem _ hn
   obtain ⟨sl2, h2⟩ := x.slot c _ h1 (I.base.free c o hc hH (nex c)) hm
   obtain ⟨_, o2, h3, hd⟩ := x.fly.2.2.1.mem hm
   rw [h2] at h3
   cases h3
   obtain ⟨sl3, h4⟩ := u c _ h2 hd
   exact ⟨sl3, h4⟩
 · obtain ⟨o1, h1⟩ := I.base.there c o hc (nex c)
   exact x.free c o1 h1 (I.base.free c o hc hH (nex c))
 · obtain ⟨m1, e1⟩ := I.base.tbls _ _ q
   obtain ⟨m2, e2⟩ := x.tbls _ _ e1
   exact ⟨m1 ++ m2, by rw [e2, Array.append_assoc]⟩
theorem Fl.made (b : Body X) (I : Inv X pins σ H s) {vs : List Value} {t : Addr} (hx : Heap.MadeExcOf s.heap s'.heap e (.ref C) vs)
   (f : Heap.FlyingW (PySem.W.hideAll s.heap (L2.frs X.stack)) X.outer e (.ref C) (.ref t) h'') (u : s'.heap.UpToSlots h'') :
   Fl X.prog X.w X.outer X.H₀ X.s₀.heap e C (.ref t) (PySem.W.hideAll s.heap (L2.frs X.stack)) H h'' := by
 have nex : ∀ c : Addr, c ∉ X.ex := fun c z => by rw [b.ex] at z; cases z
 have nL : ∀ c o, X.s₀.heap.get? c = some o -> c ≠ X.env.locals := fun c o hc z => by rw [z, b.new] at hc; cases hc
 have ok : HOk X.prog X.w H (PySem.W.hideAll s.heap (L2.frs X.stack)) := fun a o ha => by
   refine (I.hok a o ha).stay (fun c v hc q => PySem.W.hideAll_get _ q fun z => ?_) (fun _ q => q) (fun _ _ q => q)
   have hz := I.stkFree c z
   rcases hc with rfl | hc
   · rw [ha] at hz; cases hz
   · rw [hc] at hz; cases hz
 refine ⟨f, fun c o hc hn => ?_, fun c o hc hH hn => ?_, fun c o hc hH => I.base.free c o hc hH (nex c), ok, ?_, I.base.tups, I.base.frzs, I.base.tbls⟩
 · obtain ⟨o1, h1⟩ := I.base.there c o hc (nex c)
   refine ⟨o1, PySem.W.hideAll_get _ h1 (by rw [b.frs]; exact fun z => (List.mem_cons.mp z).elim (nL c o hc) hn), fun hH => ?_⟩
   have h2 := I.base.keep c o hc hH hn (nex c)
   rw [h1] at h2
   cases h2
   rfl
 · obtain ⟨sl, h1⟩ := I.base.slot c o hc hH hn (nex c)
   have hm : c ∈ L2.frs X.stack := by rw [b.frs]; exact List.mem_cons_of_mem _ hn
   obtain ⟨_, o2, h3, hd⟩ := I.stack.mem hm
   rw [h1] at h3
   cases h3
   obtain ⟨sl3, h4⟩ := u c _ (hx.keeps c _ h1) hd
   exact ⟨sl3, h4⟩
 · cases q : H e with
   | none => rfl
   | some o =>
     obtain ⟨o', ho⟩ := (I.hok e o q).there
     rw [hx.new] at ho
     cases ho
end
section
variable {P : Program} {w : World} {K : PySem.W.Frag} {mg : Str -> Option Value} {base : Heap} {N : List Str} {qual : Str} {scope : Scope} {f : Addr} {cd : Value} {A : Around} {outer : List Env} {s₀ : Shared} {H₀ : Hp} {E : XK}
theorem body_cx {CX : CXT} : Body (yL CX P w K mg base N qual scope f cd A outer s₀ H₀ E) := ⟨rfl, rfl, rfl, Heap.get?_none_of_le (Nat.le_refl _)⟩
def tRaise (C : Addr) (E : XK) (t : TA) : TS := fun _ σ H => t σ H fun vs H1 => vs.length <= sizeLine /\ E (.ref C) none H1
theorem ps_raise {x : Str} {C : Addr} {bm : List Value} {B newId initId : String} {e₀ : Expr} {rest : List Expr} {t : TA} {np cpos pos : Pos}
   (O : OwnCls x C bm newId mg base) (FB : ExcBaseFacts B newId initId bm) (hg : Gl (yL (CX1 P w) P w K mg base N qual scope f cd A outer s₀ H₀ E) x) (hm : mg x = some (.ref C))
   (ha : PA (yL (CX1 P w) P w K mg base N qual scope f cd A outer s₀ H₀ E) (e₀ :: rest) t)
   (he : starEach (e₀ :: rest) (envOfC qual scope s₀.heap.objs.size f cd) = (false, eval e₀ (envOfC qual scope s₀.heap.objs.size f cd)) :: starEach rest (envOfC qual scope s₀.heap.objs.size f cd) := by rfl)
   (hpl : (backTo cpos (starEach rest (envOfC qual scope s₀.heap.objs.size f cd))).any (·.1) = false := by rfl) (hd : (x == ("__debug__" : Str)) = false := by decide) :
   PS (yL (CX1 P w) P w K mg base N qual scope f cd A outer s₀ H₀ E) (.Raise (some (.Call (.Name x np) (e₀ :: rest) [] cpos)) none pos) (tRaise C E t) := by
 intro pins s σ H D I h
 obtain ⟨tl, N', nm, q, bs, hdct, sn, sub, ab, col, dd, k0, k1, k2, k3, k5, mN, hC, hN, hni, T⟩ := O.obj
 refine wpAny_Raise_call_subT (C := C) (nm := nm) (q := q) (N := N') (bs := bs) (bm := tl) (hdct := hdct) (sn := sn) (sub := sub) (ab := ab) (col := col) (dd := dd) (k0 := k0) (k1 := k1) (k2 := k2)
   (k3 := k3) (k5 := k5) FB (mN := mN) (T.hasType FB.hasBase) (I.ok.hd rfl) ?_ hni (xH I hg hm ⟨rfl, ?_⟩ hd)
 · show (backTo cpos (starEach (e₀ :: rest) (envOfC qual scope s₀.heap.objs.size f cd))).any (·.1) = false
   rw [he]
   show (false || (backTo cpos (starEach rest (envOfC qual scope s₀.heap.objs.size f cd))).any (·.1)) = false
   rw [hpl]
   rfl
 have hA : wpAny (model P w) (A.deeper (envOfC qual scope s₀.heap.objs.size f cd)) (spliced (backTo cpos (starEach (e₀ :: rest) (envOfC qual scope s₀.heap.objs.size f cd)))) _ _ s := ha cpos pins s σ H _ I h
 show wpAny (model P w) (A.deeper (envOfC qual scope s₀.heap.objs.size f cd)) (evalArgs (.ref C) true (backTo cpos (starEach (e₀ :: rest) (envOfC qual scope s₀.heap.objs.size f cd))) []) _ _ s
 rw [he] at hA ⊢
 refine Calls.evalArgs_plain (wpAny_mono hA (fun us s2 z => ?_) fun _ _ y => y)
 obtain ⟨vs, H1, I1, r, hl, hE⟩ := z
 refine ⟨rfl, by rw [← r.length]; exact hl, I1.bk _ _ hC, hN.keeps I1.bk, T.keeps I1.bk, fun h' e hm => ?_⟩
 refine wpAny_leaves_madeW (base := PySem.W.hideAll s2.heap (frs (envOfC qual scope s₀.heap.objs.size f cd :: outer))) (h := s2.heap) I1.ok.frames rfl (fun b o q => PySem.W.of_hideAll _ q)
   (PySem.W.funFrames_hide I1.stack fun env he b hb => List.mem_filterMap.mpr ⟨env, he, hb⟩) hm fun h2 t f1 _ _ u1 => ?_
 exact ⟨e, C, .ref t, _, H1, rfl, I1.os, I1.bare, Fl.made (s' := { s2 with heap := h' }) body_cx I1 hm f1 u1, hE⟩
theorem passX : qN (CX1 P w) (yL (CX1 P w) P w K mg base N qual scope f cd A outer s₀ H₀ E) E := fun pins σ H s e s' I h => by
 obtain ⟨ea, C, a0, B, H', rfl, os, bare, x, q⟩ := h
 exact wpAny_leaves_onW I.ok.frames rfl x.fly fun h2 f1 u1 => ⟨ea, C, a0, B, H', rfl, os.trans I.os, bare, Fl.up (s' := s') body_cx I x f1 u1, q⟩
end
section
variable {P : Program} {w : World} {K : PySem.W.Frag} {mg : Str -> Option Value} {base : Heap}
theorem Fun.okX {x qual : Str} {st : Stmt} {f : Addr} {fd : FuncData} {N ps : List Str} {k : Nat} {sp : Sp} (F : Fun K x qual st f fd) (S : FnScope N ps (zG st)) (len : ∀ vs H Q E, sp vs H Q E -> vs.length = ps.length)
   (hbody : ∀ (cdv : Value) (A : Around) (outer : List Env) (s : Shared) (H : Hp) (vs : List V) (Q : VK) (E : XK), Room k (A.deeper (envOfC qual (zG st) s.heap.objs.size f cdv)) -> sp vs H Q E ->
     ∃ t, PSs (yL (CX1 P w) P w K mg base N qual (zG st) f cdv A outer s H E) (zT st) t /\ t { nx := fun _ H' => Q .non H', rt := Q } (start N vs) H) : FnOk P w K mg base (CX1 P w) (k + 1) f fd ps sp := by
 obtain ⟨oc, od, kV, doc, pm, an, cdv, ct, osl, rfl, lk, hcd⟩ := F.ex
 exact fn_of lk hcd S len fun A outer s H vs Q E hr hsp => hbody cdv A outer s H vs Q E hr hsp
structure HasX (P : Program) (w : World) (K : PySem.W.Frag) (mg : Str -> Option Value) (base : Heap) (k : Nat) (x : Str) (ps : List Str) (sp : Sp) : Prop where
 ex : ∃ f fd, FnOk P w K mg base (CX1 P w) k f fd ps sp /\ Binds K fd ps [] /\ PySem.W.keepIn K (.ref f) = true /\ mg x = some (.ref f)
theorem xI {x qual : Str} {st : Stmt} {f : Addr} {fd : FuncData} {k : Nat} {ps : List Str} {sp : Sp} (F : Fun K x qual st f fd) (h : FnOk P w K mg base (CX1 P w) k f fd ps sp) (b : Binds K fd ps []) (m : mg x = some (.ref f)) : HasX P w K mg base k x ps sp := ⟨f, fd, h, b, F.kp, m⟩
end
theorem xA {P : Program} {w : World} {K : PySem.W.Frag} {mg : Str -> Option Value} {base : Heap} {N : List Str} {qual : Str} {scope : Scope} {f : Addr} {cd : Value} {A : Around} {outer : List Env} {s₀ : Shared} {H₀ : Hp} {E : XK}
   {k : Nat} {x : Str} {ps : List Str} {sp : Sp} {e : Expr} {es : List Expr} {t : TA} {p pos : Pos} (h : HasX P w K mg base k x ps sp) (hr : Room k (A.deeper (envOfC qual scope s₀.heap.objs.size f cd)))
   (hg : Gl (yL (CX1 P w) P w K mg base N qual scope f cd A outer s₀ H₀ E) x) (ha : PA (yL (CX1 P w) P w K mg base N qual scope f cd A outer s₀ H₀ E) (e :: es) t) (hdb : (x == ("__debug__" : Str)) = false := by decide)
   (he : starEach (e :: es) (envOfC qual scope s₀.heap.objs.size f cd) = (false, eval e (envOfC qual scope s₀.heap.objs.size f cd)) :: starEach es (envOfC qual scope s₀.heap.objs.size f cd) := by rfl)
   (hpl : (backTo pos (starEach es (envOfC qual scope s₀.heap.objs.size f cd))).any (·.1) = false := by rfl) :
   PE (yL (CX1 P w) P w K mg base N qual scope f cd A outer s₀ H₀ E) (.Call (.Name x p) (e :: es) [] pos) (tCall sp [] E t) := by
 obtain ⟨f', fd, F, b, kp, m⟩ := h.ex
 exact pe_call F hr hg m kp b .nil passX ha hdb he hpl
abbrev TX := (St -> Hp -> Prop) -> (Addr -> Hp -> Prop) -> St -> Hp -> Prop
def XP (X : Cx) (pins : List (Addr × Obj)) (σ : St) (Qx : Addr -> Hp -> Prop) (e : Value) (s' : Shared) : Prop :=
 ∃ (Hc : Hp) (sc : Shared) (ea C : Addr) (a0 : Value) (B : Heap) (H' : Hp), e = .ref ea /\ Inv X pins σ Hc sc /\ s'.os = sc.os /\ AllBare s'.gens /\ Fl X.prog X.w X.stack Hc sc.heap ea C a0 B H' s'.heap /\ Qx C H'
def PX (X : Cx) (st : List Stmt) (t : TX) : Prop :=
 ∀ (pins : List (Addr × Obj)) (s : Shared) (σ : St) (H : Hp) (Qn : St -> Hp -> Prop) (Qx : Addr -> Hp -> Prop), Inv X pins σ H s -> t Qn Qx σ H ->
   wpAny (model X.prog X.w) X.A (execs st X.env) (fun f s1 => f = .next /\ ∃ σ' H', Inv X pins σ' H' s1 /\ Qn σ' H') (XP X pins σ Qx) s
section
variable {X : Cx} {k : Nat} {f : Addr} {fd : FuncData} {ps : List Str} {sp : Sp} {x y : Str} {i : Nat} {p pos pos' pos2 : Pos} {e : Expr} {es : List Expr} {t : TA}
def tXSet (i : Nat) (sp : Sp) (t : TA) : TX := fun Qn Qx σ H => t σ H fun vs H1 => sp vs H1 (fun v H2 => Qn (σ.set i (some v)) H2) fun c _ H2 => ∃ C, c = .ref C /\ Qx C H2
theorem px_set (hxe : X.xe = fun _ _ => False) (h : HasX X.prog X.w X.K X.mg X.base k x ps sp) (hr : Room k X.A) (hg : Gl X x) (hN : X.N.Nodup) (hi : X.N[i]? = some y) (hy : Loc X.env.scope y) (ha : PA X (e :: es) t)
   (hs : swapsWith (.Call (.Name x p) (e :: es) [] pos) (some (.Name y pos')) pos2.line X.env = pure false := by rfl) (hf : X.fn y = true \/ X.env.scope.names.lookup y = some .local := by first | exact .inl rfl | exact .inr rfl | assumption)
   (hdb : (x == ("__debug__" : Str)) = false := by decide)
   (he : starEach (e :: es) X.env = (false, eval e X.env) :: starEach es X.env := by rfl) (hpl : (backTo pos (starEach es X.env)).any (·.1) = false := by rfl) :
   PX X [.Assign [.Name y pos'] (.Call (.Name x p) (e :: es) [] pos) pos2] (tXSet i sp t) := by
 intro pins s σ H Qn Qx I hq
 obtain ⟨f, fd, F, hb, hk, hm⟩ := h.ex
 have hA := ha pos pins s σ H _ I hq
 rw [hxe] at hA
 refine wpAny_execs_cons (wpAny_mono (Q := fun fl s1 => fl = .next /\ ∃ σ' H', Inv X pins σ' H' s1 /\ Qn σ' H') ?_ (fun fl s1 z => ?_) fun _ _ z => z)
 · refine wpAny_Assign_Name (wpAny_mono (Q := EP X pins σ fun v H2 => Qn (σ.set i (some v)) H2) ?_ (fun v s1 z => ?_) fun _ _ z => z) hs
   · refine wpAny_Call_Name_kw (xH I hg hm ?_ hdb)
     refine PySem.W.callWith_K (h₀ := X.base) I.ok.mod.kin hk (wpAny_mono hA (fun us s1 z => ?_) fun _ _ z => z.elim) he hpl
     obtain ⟨vs, H1, I1, r, q⟩ := z
     refine ⟨I1.kIn, ?_⟩
     have hl : us.length = ps.length := by rw [← r.length]; exact F.len _ _ _ _ q
     have hb2 := hb s1 us I1.kIn (by rw [List.append_nil]; exact hl)
     rw [List.append_nil] at hb2
     refine wpAny_call (codeAny_mono (F.run X.A X.stack s1 H1 ⟨us, []⟩ us vs _ _ hr I1.env0 hb2 r q) fun rr s2 z => ?_)
     cases rr with
     | error ev =>
       obtain ⟨ea, C, a0, B, H', rfl, os, bare, fl, C', eC, qx⟩ := z
       cases eC
       exact ⟨H1, s1, ea, C, a0, B, H', rfl, I1, os, bare, fl, qx⟩
     | ok fl =>
       cases fl with
       | ret u => exact I1.after z
       | next => exact False.elim z
       | brk => exact False.elim z
       | cont => exact False.elim z
   · obtain ⟨v', H1, I1, r1, q1⟩ := z
     exact xG I1 hN hi hy r1 (fun s2 I2 => ⟨rfl, _, H1, I2, q1⟩) hf
 · obtain ⟨rfl, z⟩ := z
   exact wpAny_execs_nil ⟨rfl, z⟩
end
def xO (e C : Addr) : HO := .ext fun h => ∃ o vs, h.get? e = some o /\ o.cls = .ref C /\ o.data = .fields vs
abbrev Cx.held (X : Cx) (e : Addr) : Cx := { X with A := X.A.mark (some (.ref e)), calm := false }
section
variable {X : Cx} {pins : List (Addr × Obj)} {σ : St} {H : Hp} {s : Shared}
theorem Inv.held (I : Inv X pins σ H s) (e : Addr) : Inv (X.held e) pins σ H s :=
 ⟨⟨I.ok.mod, I.ok.kind, I.ok.glob, I.ok.blt, I.ok.above, I.ok.inj, I.ok.has, I.ok.cab, (fun z => nomatch z), I.ok.frames, I.ok.stk, I.ok.exf, I.ok.bs, I.ok.bsz, I.ok.noex, I.ok.exfs, I.ok.funs, I.ok.frf⟩, I.os, I.bare, I.base, I.loc, I.cell, I.free, I.freeC, I.pin, I.hok, I.len⟩
theorem Inv.unheld {e : Addr} (ok : X.Ok) (I : Inv (X.held e) pins σ H s) : Inv X pins σ H s := ⟨ok, I.os, I.bare, I.base, I.loc, I.cell, I.free, I.freeC, I.pin, I.hok, I.len⟩
theorem Inv.gone {i : Nat} {x : Str} {M : Model} {A : Around} {E : Value -> Shared -> Prop} {pos : Pos} {Q : Unit -> Shared -> Prop} (I : Inv X pins σ H s) (hN : X.N.Nodup) (hi : X.N[i]? = some x) (hk : X.env.scope.names.lookup x = some .local)
   (h : ∀ s', Inv X pins (σ.set i none) H s' -> Q () s') : wpAny M A (do bindName X.env x .none; unbindBehindTheSuite X.env x pos) Q E s := by
 obtain ⟨m, hn, hl⟩ := id I.loc
 have hcls : (X.env.scope.kind == .class || (X.env.scope.kind == .module && X.env.locals != X.env.globals)) = false := by rw [I.ok.kind]; rfl
 have hiσ : i < σ.length := by rw [I.len]; exact (List.getElem?_eq_some_iff.mp hi).1
 have cne := I.cne
 have neL : ∀ b o, X.s₀.heap.get? b = some o -> b ≠ X.env.locals := fun b o e => Nat.ne_of_lt (Nat.lt_of_lt_of_le (Heap.lt_size e) I.ok.above)
 refine wpAny_nameGoes_keeps hk hn hcls fun h' v hn' hs => ?_
 have ok : HOk X.prog X.w H h' := fun b ob e => by
   refine (I.hok b ob e).stay (fun c w' hc q => (hs.2 c ?_).trans q) (fun _ q => q) fun _ _ q => q
   rintro rfl
   have := I.free
   rcases hc with rfl | hc
   · rw [this] at e; cases e
   · rw [this] at hc; cases hc
 refine h _ ⟨I.ok, I.os, I.bare, ⟨fun b o e n hb hx => (hs.2 b (neL b o e)).trans (I.base.keep b o e n hb hx), fun b o e n hb hx => ?_, I.base.free, fun b o e hx => ?_, I.base.tups, I.base.frzs, I.base.tbls⟩, ⟨_, hn', fun j y v' e1 e2 e3 => ?_⟩, fun y c e => ?_, I.free, I.freeC, fun p hp => ?_, ok, by simpa using I.len⟩
 · obtain ⟨sl, e1⟩ := I.base.slot b o e n hb hx
   exact ⟨sl, (hs.2 b (neL b o e)).trans e1⟩
 · obtain ⟨o', e1⟩ := I.base.there b o e hx
   exact ⟨o', (hs.2 b (neL b o e)).trans e1⟩
 · by_cases hj : j = i
   · subst hj
     rw [List.getElem?_set_self hiσ] at e2
     cases e2
   · rw [List.getElem?_set_ne (Ne.symm hj)] at e2
     obtain ⟨u', r', q⟩ := hl j y v' e1 e2 e3
     refine ⟨u', r', ?_⟩
     rcases q with ⟨k, e⟩ | ⟨k, c, e, z⟩
     · refine .inl ⟨k, ?_⟩
       have : y ≠ x := fun e => hj (jH hN e1 (e ▸ hi))
       simp [this, e]
     · exact .inr ⟨k, c, e, z.sameBut hs (cne y c e)⟩
 · obtain ⟨w', z⟩ := I.cell y c e
   exact ⟨w', z.sameBut hs (cne y c e)⟩
 · obtain ⟨e, n, ne, nf, d⟩ := I.pin p hp
   exact ⟨(hs.2 p.1 ne).trans e, n, ne, nf, d⟩
end
def xSub (K : PySem.W.Frag) (C : Addr) (v : Value) : Option Bool :=
 if PySem.W.ktsIn K C "BaseException" = true then
   match K.lookup C with
   | some ⟨_, _, .cls k, _⟩ => some (k.mro.contains v)
   | _ => none
 else none
theorem xSub_of {K : PySem.W.Frag} {h : Heap} {C : Addr} {v : Value} {b : Bool} (X : K.In h) (q : xSub K C v = some b) : ∃ nm qn N bs bm hdct sn sub ab col dd k0 k1 k2 k3 k5 newId,
   h.get? C = some (excClassObj nm qn C N bs bm hdct sn sub ab col dd k0 k1 k2 k3 k5 newId) /\ bm.contains (.type "BaseException") = true /\ (Value.ref C :: bm).contains v = b := by
 unfold xSub at q
 split at q
 · rename_i hk
   obtain ⟨nm, qn, N, bs, bm, hdct, sn, sub, ab, col, dd, k0, k1, k2, k3, k5, newId, hC, hB, _⟩ := PySem.W.kts_cls X hk
   refine ⟨nm, qn, N, bs, bm, hdct, sn, sub, ab, col, dd, k0, k1, k2, k3, k5, newId, hC, hB, ?_⟩
   split at q
   · rename_i ho
     have z := (X _ _ ho).symm.trans hC
     simp only [Option.some.injEq, Obj.mk.injEq, Data.cls.injEq] at z
     obtain ⟨_, _, rfl, _⟩ := z
     exact Option.some.inj q
   · cases q
 · cases q
section
variable {M : Model} {A : Around} {E : Value -> Shared -> Prop}
variable {nm q nm' q' : Str} {C N D N' : Addr} {bs bm bs' bm' : List Value} {hdct hdct' : Bool} {sn sn' : List Str} {sub sub' : List Value} {ab ab' : Bool} {col col' : Option Bool} {dd dd' : Option Addr} {k0 k1 k2 k3 k5 j0 j1 j2 j3 j5 : Option Value} {newId newId' : String}
theorem match_own {h : Heap} {g : Array GenState} {d : Drawn} {t : Nat} {os : OsState} {e : Addr} {oe : Obj} {Q : Bool -> Shared -> Prop} {b : Bool}
   (hC : h.get? C = some (excClassObj nm q C N bs bm hdct sn sub ab col dd k0 k1 k2 k3 k5 newId)) (hD : h.get? D = some (excClassObj nm' q' D N' bs' bm' hdct' sn' sub' ab' col' dd' j0 j1 j2 j3 j5 newId'))
   (he : h.get? e = some oe) (hcls : oe.cls = .ref C) (hbase : bm'.contains (.type "BaseException") = true) (hb : (Value.ref C :: bm).contains (.ref D) = b) (hq : Q b ⟨h, g, d, t, os⟩) :
   wpAny M A (excMatches (.ref e) (.ref D)) Q E ⟨h, g, d, t, os⟩ := by
 have hDB : (Value.ref D :: bm').contains (.type "BaseException") = true := by rw [List.contains_cons, hbase, Bool.or_true]
 have fT := tc_notTuple
 unfold excMatches
 repeat (first
   | (with_reducible refine wpAny_loadPart_at he ?_
      rw [hcls])
   | with_reducible refine wpAny_loadPart_at hD ?_
   | (with_reducible refine wpAny_isSubtype_exc hD ?_
      rw [hDB])
   | (with_reducible refine wpAny_isSubtype_exc hC ?_
      rw [hb])
   | wp_step)
 cases b <;> (wp_walk; exact hq)
end
theorem own_mk {K : PySem.W.Frag} {h : Heap} {mg : Str -> Option Value} {x : Str} {C : Addr} {bmB : List Value} {newId : String} (X : K.In h) (hm : mg x = some (.ref C)) (q : PySem.W.excIn K C bmB newId = true) : OwnCls x C bmB newId mg h := by
 refine ⟨hm, ?_⟩
 unfold PySem.W.excIn at q
 split at q
 rotate_left
 · cases q
 rename_i dict klass slots look
 split at q
 rotate_left
 · cases q
 rename_i C2 tail a0 a1 a2 a3 nid a5 em es
 simp only [beq_iff_eq, Bool.and_eq_true, Bool.not_eq_true'] at q
 obtain ⟨⟨⟨⟨⟨e1, e2⟩, e3⟩, e4⟩, e5⟩, e6⟩ := q
 subst e1 e2
 obtain ⟨nm, bs, mro, ns, qn, hd, sn, sub, ab, col, del⟩ := klass
 obtain ⟨l⟩ := slots
 dsimp only at em es e3 e5 e6
 subst em e3 es
 exact ⟨tail, ns, nm, qn, bs, hd, sn, sub, ab, col, dict, a0, a1, a2, a3, a5, _, X _ _ look, .of_isNs (PySem.W.isNs_of_in X e5),
   PySem.W.nsMap_none_of_in X e5 e6, PySem.W.tail_of_in X e4⟩
section
variable {X : Cx} {i : Nat} {y n : Str} {D₀ : Addr} {bD : Bool} {tb : TX} {th : TS} {body suite : List Stmt} {b₀ : Stmt} {np hpos pos : Pos}
def tTry (i : Nat) (cat : Addr -> Prop) (tb : TX) (th : TS) : TS := fun D σ H => tb D.nx (fun C H' => cat C /\ ∀ ea, H' ea = none ->
 th { nx := fun σ' H2 => D.nx (σ'.set i none) H2, rt := fun _ _ => False } (σ.set i (some (.ref ea))) (upd H' ea (xO ea C))) σ H
theorem ps_try (B : Body X) (hN : X.N.Nodup) (hi : X.N[i]? = some n) (hn : X.env.scope.names.lookup n = some .local) (hg : Gl X y) (hm : X.mg y = some (.ref D₀)) (hD : xSub X.K D₀ (.type "BaseException") = some bD)
   (hxe : X.xe = fun _ _ => False) (hb : PX X body tb) (hh : ∀ ea, PSs (X.held ea) (b₀ :: suite) th) (hd : (y == ("__debug__" : Str)) = false := by decide) :
   PS X (.Try body [.ExceptHandler (some (.Name y np)) (some n) (b₀ :: suite) hpos] [] [] pos) (tTry i (fun C => xSub X.K C (.ref D₀) = some true) tb th) := by
 intro pins s σ H D I h
 refine wpAny_Try_except (wpAny_mono (hb pins s σ H _ _ I h) (fun f s1 z => ?_) fun e s1 z => ?_)
 · obtain ⟨rfl, σ', H', I', q⟩ := z
   exact wpAny_execs_nil ⟨σ', H', I', q⟩
 obtain ⟨Hc, sc, ea, C, a0, Bs, H', rfl, Ic, os, bare, x, hcat, q⟩ := z
 have hfr : X.A.frames = some (X.env :: X.outer) := by rw [← B.stk]; exact I.ok.frames
 have hfl : Heap.FlyingW Bs (X.env :: X.outer) ea (.ref C) a0 s1.heap := by rw [← B.stk]; exact x.fly
 refine wpAny_looks_onW hfr B.fr hfl fun h4 held4 u4 => ?_
 refine wpAny_landsW held4 fun h5 fl5 u5 => ?_
 have x5 : Fl X.prog X.w X.stack Hc sc.heap ea C a0 Bs H' h5 := x.step (by rw [B.stk]; exact fl5) (u4.trans u5)
 have I5 : Inv X pins σ H' { s1 with heap := h5 } := Ic.call' (s' := { s1 with heap := h5 }) (ch := []) os x5.un x5.okH bare (fun b z => by cases z)
 refine wpAny_handleBy_cons (codeAny_handlers_test (xH (I5.held ea) hg hm ?_ hd)) (by intro q; cases q)
 obtain ⟨nm, qn, N, bs, bm, hdct, sn, sub, ab, col, dd, k0, k1, k2, k3, k5, newId, hC, hCB, hCc⟩ := xSub_of I5.kIn hcat
 obtain ⟨nm', qn', N', bs', bm', hdct', sn', sub', ab', col', dd', j0, j1, j2, j3, j5, newId', hD', hDB, _⟩ := xSub_of I5.kIn hD
 obtain ⟨ob, hob, hobc⟩ := x5.fly.there
 refine match_own hC hD' hob hobc hDB hCc ?_
 refine codeAny_handlers_suite_as (lands_againW fl5 fun h6 fl6 u6 => ?_)
 have x6 : Fl X.prog X.w X.stack Hc sc.heap ea C a0 Bs H' h6 := x5.step (by rw [B.stk]; exact fl6) u6
 have hsc : sc.heap.get? ea = none := by
   cases hq : sc.heap.get? ea with
   | none => rfl
   | some o =>
     by_cases hfm : ea ∈ frs X.stack
     · obtain ⟨_, o2, h2, hd2⟩ := x6.fly.2.2.1.mem hfm
       obtain ⟨oe, vs, _, _, _, h3, _, h4, _⟩ := x6.fly.2.2.2
       rw [h2] at h3
       cases h3
       exact absurd h4 (hd2 vs)
     · obtain ⟨o', hB, _⟩ := x6.stay ea o hq hfm
       rw [x6.fly.2.1] at hB
       cases hB
 have hup : ∀ b, b ≠ ea -> upd H' ea (xO ea C) b = H' b := fun b hb => zH hb
 have ok6 : HOk X.prog X.w (upd H' ea (xO ea C)) h6 := fun b ob e => by
   by_cases hb : b = ea
   · subst hb
     rw [zB] at e
     cases e
     obtain ⟨oe, vs, _, _, _, h3, hc3, h4, _⟩ := x6.fly.2.2.2
     exact ⟨⟨oe, vs, h3, hc3.1, h4⟩, ⟨oe, h3⟩, fun h1 h2 ⟨o, vs, z1, z2⟩ k => ⟨o, vs, k _ z1, z2⟩⟩
   · rw [zH hb] at e
     refine (x6.okH b ob e).stay (fun c v hc q => q) (fun c q => ?_) (fun c xs q => ?_)
     · rw [zH (fun z => by rw [z, x6.ef] at q; cases q)]; exact q
     · rw [zH (fun z => by rw [z, x6.ef] at q; cases q)]; exact q
 have un6 : Un (frs X.stack) [] Hc (upd H' ea (xO ea C)) sc.heap h6 := by
   have u := x6.un
   have nh : ∀ {c o}, H' c = some o -> c ≠ ea := fun {c o} q z => by rw [z, x6.ef] at q; cases q
   refine ⟨u.keep, u.slot, fun b o e hn hx => ?_, u.there, fun b xs e => ?_, fun b o v e => ?_, fun b ps e => ?_⟩
   · rw [zH (fun z => by rw [z, hsc] at e; cases e)]
     exact u.free b o e hn hx
   · have := u.tups b xs e
     rw [zH (nh this)]; exact this
   · have := u.frzs b o v e
     rw [zH (nh this)]; exact this
   · obtain ⟨more, this⟩ := u.tbls b ps e
     exact ⟨more, by rw [zH (nh this)]; exact this⟩
 have I6 : Inv X pins σ (upd H' ea (xO ea C)) { s1 with heap := h6 } := Ic.call' (s' := { s1 with heap := h6 }) (ch := []) os un6 ok6 bare (fun b z => by cases z)
 refine xG (X := X.held ea) (v := .ref ea) (u := .ref ea) (I6.held ea) hN hi (.inl hn) rfl (fun s7 I7 => ?_) (.inr hn)
 have hS := hh ea pins s7 _ _ _ I7 (q ea x6.ef)
 have hxe2 : (X.held ea).xe = fun _ _ => False := hxe
 rw [hxe2] at hS
 refine wpAny_mono hS (fun f s8 z => ?_) fun _ _ z => z.elim
 cases f with
 | next =>
   obtain ⟨σ8, H8, I8, q8⟩ := z
   exact (I8.unheld I.ok).gone hN hi hn fun s9 I9 => ⟨_, _, I9, q8⟩
 | brk => obtain ⟨_, _, _, z⟩ := z; exact z.elim
 | cont => obtain ⟨_, _, _, z⟩ := z; exact z.elim
 | ret u => obtain ⟨_, _, _, _, _, z⟩ := z; exact z.elim
end
end L2
set_option maxHeartbeats 1000000
namespace L2
open PySem PySem.Spec PyProof.Rows
structure XCls (K : PySem.W.Frag) (C : Addr) : Prop where
 cls : (PySem.W.clsIn K C).isSome = true
 ga : PySem.W.findIn K (.ref C) "__getattribute__" = some (some (.builtin "BaseException.__getattribute__"))
 hk : PySem.W.findIn K (.ref C) "__getattr__" = some none
 kl : PySem.W.findIn K (.ref C) "__class__" = some (some (.builtin "object.__class__"))
 sp : PySem.W.specialIn K (.builtin "object.__class__") "__get__" = some (some (.builtin "getset_descriptor.__get__"))
 tk : PySem.W.takesIn K (.builtin "object.__class__") = some true
 mo : PySem.W.mroIn K C (.type "object") = some true
 mb : PySem.W.mroIn K C (.type "BaseException") = some true
section
open Builtin Builtin.Getset_descriptor
variable {prog : Program} {w : World} {A : Around} {E : Value -> Shared -> Prop} {s : Shared} {K : PySem.W.Frag} {x C : Addr} {ox : Obj}
theorem looks_xfind {M : Model} {h : Heap} (X : K.In h) (c : XCls K C) : PySem.W.Looks M h (Builtin.ObjectAttr.find (.ref x) (.ref C) "__class__") (.bind (.builtin "getset_descriptor.__get__") (.builtin "object.__class__")) := by
 refine (PySem.W.looks_findIn X c.kl).andThen ?_
 refine PySem.W.Looks.andThen (PySem.W.looks_specialIn X c.sp) ?_
 refine PySem.W.Looks.andThen ((PySem.W.looks_takesIn X c.tk).andThen .now) (PySem.W.Looks.tag .now)
theorem x_get {R : Result -> Shared -> Prop} {tp : Value} (X : K.In s.heap) (L0 : PySem.W.Looks (model prog w) s.heap (typeOf (.ref x)) (.ref C)) (c : XCls K C)
   (h : R (.ok (.ret (.ref C))) s) : codeAny (model prog w) A (.call (.builtin "getset_descriptor.__get__") ⟨[.builtin "object.__class__", .ref x, tp], []⟩) R s := by
 obtain ⟨hp, gs, dr, tk, ws⟩ := s
 have L1 := PySem.W.looks_mroIn (M := model prog w) X c.mo
 refine codeAny_call_builtin PySem.W.KF.slot_gs.plain PySem.W.KF.entry_gs
   (PySem.W.KF.slot_gs.check _ _ _ _ _ _ _ _ PySem.W.KF.type_class (PySem.W.KF.args_gs _ _ _) ?_)
 unfold Builtin.«getset_descriptor.__get__» descrGet
 rw [PySem.W.dga_obj]
 refine wpAny_bind
   (wpAny_pure ?_)
 unfold descrGetter descrCheckInstance
 unfold descrNameAndClass isInstance
 simp only [PySem.W.KF.owner_class]
 repeat lk
 refine ⟨Code.quiet_builtin _ (by decide +kernel),
   codeAny_builtin PySem.W.KF.entry_class ?_⟩
 unfold Builtin.«object.__class__»
 unfold shownTypeOf
 repeat lk
 exact h
theorem x_class {Q : Option Value -> Shared -> Prop} (X : K.In s.heap) (L0 : PySem.W.Looks (model prog w) s.heap (typeOf (.ref x)) (.ref C)) (c : XCls K C) (h : Q (some (.ref C)) { s with toks := s.toks + 1 }) : wpAny (model prog w) A (getAttr? (.ref x) "__class__") Q E s := by
 obtain ⟨hh, g, d, t, os⟩ := s
 have L1 := PySem.W.looks_findIn (M := model prog w) X c.ga
 have L2 := PySem.W.looks_findIn (M := model prog w) X c.hk
 have L3 := PySem.W.looks_mroIn (M := model prog w) X c.mb
 have L4 := looks_xfind (M := model prog w) (x := x) X c
 unfold getAttr? getAttrBy? getAttrBy
 refine wpAny_bind (wpAny_mkText (wpAny_bind (wpAny_attempt (wpAny_holding (wpAny_bind (L0.at (wpAny_bind (L1.at ?_))))))))
 show wpAny _ _ (getAttrByItsOwn _ _ _ _ _ _) _ _ _
 unfold getAttrByItsOwn hookBefore
 refine wpAny_bind ?_
 show wpAny _ _ (typeLookup _ _) _ _ _
 refine L2.at ?_
 refine wpAny_bind (wpAny_attempt (wpAny_holding ?_))
 show wpAny _ _ (boundAndCalled _ _ _) _ _ _
 unfold boundAndCalled
 refine wpAny_bind (wpAny_of_eq (F.excAttr_ValueError.ga.bind (.ref x)) ?_)
 refine wpAny_call (codeAny_call_builtin F.excAttr_ValueError.ga.plain F.entry_bexc_ga ?_)
 have kd : builtinKind "BaseException.__getattribute__" = some .slot := by decide +kernel
 have spl : splitId "BaseException.__getattribute__" = some ("BaseException", "__getattribute__") := by decide +kernel
 have fa := F.args_bexc_ga (.ref x) (.str "__class__" t)
 have fin : wpAny (model prog w) A.in1 (Builtin.«object.__getattribute__» ⟨[.ref x, .str "__class__" t], []⟩) (fun fin s' => fin = .done (.ret (.ref C)) /\ s' = ⟨hh, g, d, t + 1, os⟩) (fun _ _ => False) ⟨hh, g, d, t + 1, os⟩ := by
   unfold Builtin.«object.__getattribute__»
   repeat (first | with_reducible refine L0.at ?_ | with_reducible refine L4.at ?_ | wp_step)
   exact x_get X L0 c (wpAny_pure ⟨rfl, rfl⟩)
 have go : wpAny (model prog w) A.in1 (checkBuiltinCall "BaseException.__getattribute__" ⟨[.ref x, .str "__class__" t], []⟩) (fun _ s' => s' = ⟨hh, g, d, t + 1, os⟩) (fun _ _ => False) ⟨hh, g, d, t + 1, os⟩ := by
   simp only [checkBuiltinCall, kd, spl]
   refine wpAny_bind ?_
   unfold isInstance
   repeat (first | with_reducible refine L0.at ?_ | with_reducible refine L3.at ?_ | wp_step)
   rfl
 refine wpAny_mono go (fun _ s1 e1 => ?_) fun _ _ z => z.elim
 subst e1
 refine wpAny_mono fin (fun f1 s1 e1 => ?_) fun _ _ z => z.elim
 obtain ⟨rfl, rfl⟩ := e1
 exact wpAny_pure (wpAny_pure h)
theorem xcls_ob (c : XCls K C) : ∃ c' d' cd sl, K.lookup C = some ⟨c', d', .cls cd, sl⟩ := by
 obtain ⟨k, hk⟩ := Option.isSome_iff_exists.mp c.cls
 unfold PySem.W.clsIn at hk
 split at hk
 · rename_i c' d' cd sl ho
   exact ⟨c', d', cd, sl, ho⟩
 · cases hk
theorem kitx_exc (c : XCls K C) : PySem.W.KitX K (.ref x) (.ref C) (fun h => ∃ o, h.get? x = some o /\ o.cls = .ref C) where
 ty := fun M h _ ⟨o, ho, hc⟩ => hc ▸ (PySem.W.Looks.ld ho).andThen .now
 it := fun _ _ X _ => by
   obtain ⟨c', d', cd, sl, ho⟩ := xcls_ob c
   intro A1 Q1 E1 s1 k q
   unfold isType loadHead
   refine wpAny_bind ?_
   exact wpAny_loadPart (k _ _ (X _ _ ho)) (wpAny_pure q)
 ne := fun h tp dd its n sl X htp => by
   obtain ⟨c', d', cd, sl, ho⟩ := xcls_ob c
   refine Bool.eq_false_iff.mpr fun q => ?_
   cases Value.ref.inj (beq_iff_eq.mp q)
   cases (X _ _ ho).symm.trans htp
 ca := fun X p k => x_class X (p.elim fun o z => z.2 ▸ (PySem.W.Looks.ld z.1).andThen .now) c k
end
def ClV (v : V) (u : Value) : Prop := (∃ D, v = .ref D /\ u = .ref D) \/ ∃ T, v = .ty T /\ u = .type T
def rIsX (K : PySem.W.Frag) : List V -> Hp -> VK -> Prop := fun xs H Q => ∃ e C v u b, xs = [.ref e, v] /\ H e = some (xO e C) /\ XCls K C /\ ClV v u /\ PySem.W.kitOne K (.ref C) u = some b /\ Q (.bl b) H
def rIsXT (K : PySem.W.Frag) : List V -> Hp -> VK -> Prop := fun xs H Q => ∃ e C t vs us b, xs = [.ref e, .ref t] /\ H e = some (xO e C) /\ XCls K C /\ H t = some (.tup vs) /\ Paired ClV vs us /\ PySem.W.kitAny K (.ref C) us = some b /\ Q (.bl b) H
theorem ClV.rel {v : V} {u u' : Value} (h : ClV v u) (r : RelV v u') : u' = u := by
 rcases h with ⟨D, rfl, rfl⟩ | ⟨T, rfl, rfl⟩
 · exact r
 · cases r; rfl
theorem ClV.rels : ∀ {vs : List V} {us us' : List Value}, Paired ClV vs us -> Vals vs us' -> us' = us
 | _, _, _, .nil, r => by cases r; rfl
 | _, _, _, .cons h t, r => by
   cases r with
   | cons r1 r2 => rw [h.rel r1, ClV.rels t r2]
section
variable {X : Cx}
theorem call_isX : yW X (.builtin "isinstance") (rIsX X.K) := by
 intro pins s σ H xs us Q I r h
 obtain ⟨e, C, v, u, b, rfl, he, c, cv, hk, q⟩ := h
 obtain ⟨u1, u2, rfl, r1, r2⟩ := vals2 r
 cases (show u1 = Value.ref e from r1)
 cases cv.rel r2
 obtain ⟨⟨o, vs, ho, hc, _⟩, _⟩ := (show ObjOk X.prog X.w H s.heap e (xO e C) from I.hok e _ he)
 exact PySem.W.kia_one (kitx_exc c) I.kIn ⟨o, ho, hc⟩ hk (fun z => nomatch z) fun tk => ⟨.bl b, H, I.tok tk, rfl, q⟩
theorem call_isXT : yW X (.builtin "isinstance") (rIsXT X.K) := by
 intro pins s σ H xs us Q I r h
 obtain ⟨e, C, t, vs, ws, b, rfl, he, c, ht, cv, hk, q⟩ := h
 obtain ⟨u1, u2, rfl, r1, r2⟩ := vals2 r
 cases (show u1 = Value.ref e from r1)
 cases (show u2 = Value.ref t from r2)
 obtain ⟨⟨o, vs', ho, hc, _⟩, _⟩ := (show ObjOk X.prog X.w H s.heap e (xO e C) from I.hok e _ he)
 obtain ⟨_, its, rv, p⟩ := (show ObjOk X.prog X.w H s.heap t (.tup vs) from I.hok t _ ht)
 cases ClV.rels cv rv
 obtain ⟨⟨oc, od, oda, osl⟩, h1, h2, n, h3⟩ := p
 dsimp only at h2 h3
 subst h2 h3
 exact PySem.W.kia_tup (kitx_exc c) I.kIn ⟨o, ho, hc⟩ h1 hk (fun z => nomatch z) fun tk => ⟨.bl b, H, I.tok tk, rfl, q⟩
end
theorem body_nox {CX : CXT} {P : Program} {w : World} {K : PySem.W.Frag} {mg : Str -> Option Value} {base : Heap} {N : List Str} {qual : Str} {scope : Scope} {f : Addr} {cd : Value} {A : Around} {outer : List Env} {s₀ : Shared} {H₀ : Hp} {E : XK} :
   Body (yL CX P w K mg base N qual scope f cd A outer s₀ H₀ E).nox := ⟨rfl, rfl, rfl, Heap.get?_none_of_le (Nat.le_refl _)⟩
section
variable {X : Cx}
theorem call_isXK (K : PySem.W.Frag) (h : X.K = K) : yW X (.builtin "isinstance") (rIsX K) := by subst h; exact call_isX
theorem call_isXTK (K : PySem.W.Frag) (h : X.K = K) : yW X (.builtin "isinstance") (rIsXT K) := by subst h; exact call_isXT
end
section
variable {prog : Program} {w : World} {Kt : Type} [DecidableEq Kt] {knd : HeapKind prog w Kt} {A : Around} {E : Value -> Shared -> Prop} {s : Shared}
def DictB (knd : HeapKind prog w Kt) (h : Heap) (d : Addr) (xs : List (Kt × Addr × Value)) : Prop :=
 ∃ o es ep, h.get? d = some o /\ o.ExactDict /\ o.data = .dict es ep /\ es.toList = xs.map (entryOfKey knd) /\ (xs.map (·.1)).Nodup
theorem DictB.at {h h' : Heap} {d : Addr} {xs : List (Kt × Addr × Value)} (x : DictB knd h d xs) (e : ∀ u, h.get? d = some u -> h'.get? d = some u) : DictB knd h' d xs := by
 obtain ⟨o, es, ep, h1, r⟩ := x
 exact ⟨o, es, ep, e _ h1, r⟩
end
section
variable {X : Cx}
end
structure HasF (P : Program) (w : World) (K : PySem.W.Frag) (mg : Str -> Option Value) (base : Heap) (k : Nat) (f : Addr) (ps : List Str) (sp : Sp) : Prop where
 ex : ∃ fd, FnOk P w K mg base CX0 k f fd ps sp /\ Binds K fd ps [] /\ PySem.W.keepIn K (.ref f) = true
def qB (i : Nat) (f : Addr) (tc : TE) : TE := fun σ H Q => σ[i]? = some (some (.ref f)) /\ tc σ H Q
section
variable {X : Cx} {k : Nat} {x : Str} {ps : List Str} {sp : Sp} {p pos : Pos} {e : Expr} {es : List Expr} {t : TA}
theorem Has.at {P : Program} {w : World} {K : PySem.W.Frag} {mg : Str -> Option Value} {base : Heap} {k : Nat} {f : Addr} (h : Has P w K mg base k x ps sp) (hm : mg x = some (.ref f)) : HasF P w K mg base k f ps sp := by
 obtain ⟨g, fd, F, b, kp, m⟩ := h.ex
 rw [hm] at m
 cases m
 exact ⟨fd, F, b, kp⟩
theorem pe_fnv {f : Addr} (hm : X.mg x = some (.ref f)) (hg : Gl X x) (hd : (x == ("__debug__" : Str)) = false := by decide) : PE X (.Name x pos) (tC (.ref f)) := pe_glob hg hm rfl hd
end
end L2
set_option maxHeartbeats 8000000
namespace L2
open PySem PySem.Spec PyProof.Rows PySem.W
section
variable {prog : Program} {w : World} {A : Around} {E : Value -> Shared -> Prop} {s : Shared}
theorem rawk_item {it d : Addr} {i ep : Nat} {es : Array DictEntry} {v : Value} {Q : Option Value -> Shared -> Prop} (hit : s.heap.IsKeyIter it d i es.size ep) (hm : RawD s.heap d es ep) (hi : i < es.size) (hx : es[i].key = v)
   (hQ : ∀ h', h'.IsKeyIter it d (i + 1) es.size ep -> Heap.SameBut it s.heap h' -> Q (some v) { s with heap := h' }) : wpAny (model prog w) A (pyNext (.ref it)) Q E s := by
 obtain ⟨o, a1, a2, a3⟩ := id hit; obtain ⟨od, b1, b2, b3⟩ := id hm
 unfold pyNext
 refine wpAny_bind (wpAny_attempt (wpAny_callSpecial?_slot (name := Str.ofString "__next__") hit.typeIs PySem.F.slot_dict_keyiterator_next (wpAny_call_entry PySem.F.slot_dict_keyiterator_next hit.typeIs PySem.F.entry_dict_keyiterator_next ?_ (PySem.F.args_dict_keyiterator_next_1 _))))
 refine wpAny_bind (wpAny_pure ?_); refine wpAny_bind ?_; refine wpAny_bind ?_
 first | refine wpAny_bind (wpAny_typeNameOfWhole_keyiter hit.typeIs (wpAny_pure ?_)); skip | refine wpAny_bind (wpAny_typeNameOf_keyiter hit.typeIs (wpAny_pure ?_)); skip
 refine wpAny_bind (wpAny_fieldsOf a1 a3 ?_)
 have ow : Builtin.Dict_items.ownsTuple "dict_keyiterator" = false := by decide
 simp only [ow, Bool.false_eq_true, if_false]; show wpAny _ _ (if (Value.ref d == Value.none) = true then _ else _) _ _ s
 rw [if_neg (show ¬ ((Value.ref d == Value.none) = true) from Bool.false_ne_true)]; refine wpAny_bind (wpAny_pure ?_)
 refine wpAny_bind (wpAny_dictEntries b1 b3 ?_); rw [if_neg (by simp)]
 refine wpAny_bind (wpAny_pure ?_); refine wpAny_bind (wpAny_dictEpoch b1 b3 ?_); rw [if_neg (by simp)]; refine wpAny_pure ?_
 simp only [show ¬ ((i : Int) < 0) from by omega, if_false, Int.toNat_natCast, Array.getElem?_eq_getElem hi]; refine wpAny_bind ?_
 first | refine wpAny_bind (wpAny_typeNameOfWhole_keyiter hit.typeIs (wpAny_pure ?_)); skip | refine wpAny_bind (wpAny_typeNameOf_keyiter hit.typeIs (wpAny_pure ?_)); skip
 refine wpAny_bind (wpAny_isOneOf_keyiter hit.typeIs ?_); show wpAny _ _ (setField (.ref it) 1 (rawInt ((i : Int) + 1)) >>= _) _ _ s
 refine wpAny_bind (wpAny_setField a1 a3 (by simp) ?_)
 have it' : (s.heap.update it (Obj.mapFields (·.setIfInBounds 1 (rawInt ((i : Int) + 1))))).IsKeyIter it d (i + 1) es.size ep := ⟨_, Heap.get?_update_self _ a1 (Obj.isFreed_of_fields (Obj.data_mapFields a3 _)), (Obj.cls_mapFields ..).trans a2, by rw [Obj.data_mapFields a3]; simp [rawInt]⟩
 refine wpAny_bind (wpAny_holding ?_)
 refine wpAny_bind (wpAny_isOneOf_keyiter (s := { s with heap := s.heap.update it (Obj.mapFields (·.setIfInBounds 1 (rawInt ((i : Int) + 1)))) }) it'.typeIs ?_)
 show wpAny _ _ (pure es[i].key) _ _ _; exact wpAny_pure (wpAny_pure ⟨_, rfl, wpAny_pure (hx ▸ hQ _ it' (Heap.SameBut.update ..))⟩)
theorem rawk_end {it d : Addr} {i ep : Nat} {es : Array DictEntry} {Q : Option Value -> Shared -> Prop} (hh : A.handled = none) (hit : s.heap.IsKeyIter it d i es.size ep) (hm : RawD s.heap d es ep) (hi : es.size <= i)
   (hQ : ∀ h', Heap.ExtBut it s.heap h' -> Q none { s with heap := h' }) : wpAny (model prog w) A (pyNext (.ref it)) Q E s := by
 obtain ⟨o, a1, a2, a3⟩ := id hit; obtain ⟨od, b1, b2, b3⟩ := id hm
 unfold pyNext
 refine wpAny_bind (wpAny_attempt (wpAny_callSpecial?_slot (name := Str.ofString "__next__") hit.typeIs PySem.F.slot_dict_keyiterator_next (wpAny_call_entry PySem.F.slot_dict_keyiterator_next hit.typeIs PySem.F.entry_dict_keyiterator_next ?_ (PySem.F.args_dict_keyiterator_next_1 _))))
 refine wpAny_bind (wpAny_pure ?_); refine wpAny_bind ?_; refine wpAny_bind ?_
 first | refine wpAny_bind (wpAny_typeNameOfWhole_keyiter hit.typeIs (wpAny_pure ?_)); skip | refine wpAny_bind (wpAny_typeNameOf_keyiter hit.typeIs (wpAny_pure ?_)); skip
 refine wpAny_bind (wpAny_fieldsOf a1 a3 ?_)
 have ow : Builtin.Dict_items.ownsTuple "dict_keyiterator" = false := by decide
 simp only [ow, Bool.false_eq_true, if_false]; show wpAny _ _ (if (Value.ref d == Value.none) = true then _ else _) _ _ s
 rw [if_neg (show ¬ ((Value.ref d == Value.none) = true) from Bool.false_ne_true)]; refine wpAny_bind (wpAny_pure ?_)
 refine wpAny_bind (wpAny_dictEntries b1 b3 ?_); rw [if_neg (by simp)]
 refine wpAny_bind (wpAny_pure ?_); refine wpAny_bind (wpAny_dictEpoch b1 b3 ?_); rw [if_neg (by simp)]; refine wpAny_pure ?_
 simp only [show ¬ ((i : Int) < 0) from by omega, if_false, Int.toNat_natCast, Array.getElem?_eq_none hi]; refine wpAny_bind ?_
 first | refine wpAny_bind (wpAny_typeNameOfWhole_keyiter hit.typeIs (wpAny_pure ?_)); skip | refine wpAny_bind (wpAny_typeNameOf_keyiter hit.typeIs (wpAny_pure ?_)); skip
 show wpAny _ _ (setField (.ref it) 0 .none >>= _) _ _ s; refine wpAny_bind (wpAny_setField a1 a3 (by simp) ?_)
 show wpAny _ _ (newExc (.type "StopIteration") [] >>= _) _ _ _; refine wpAny_bind ?_
 simp only [newExc, newTuple]; refine wpAny_bind (wpAny_newObj_type ?_ (by size_fits))
 refine wpAny_bind (m := firstArgMember _ _) (wpAny_of_eq (a := Value.none) (by first | rfl | (simp only [firstArgMember]; rfl)) ?_); refine wpAny_newObj_type ?_ (by size_fits)
 simp only [raiseNew]; refine wpAny_bind (wpAny_handled ?_); rw [show A.in1.handled = none from hh]
 refine wpAny_bind (wpAny_pure (wpAny_throw ?_)); refine wpAny_bind (wpAny_isInstance (T := "StopIteration") (b := true) ⟨_, Heap.get?_push_size _ rfl, rfl⟩ isSubtype_stop ?_)
 exact wpAny_pure (hQ _ (((Heap.SameBut.update ..).extBut.push _).push _))
theorem rawk_walks (hh : A.handled = none) (I d : Addr) (hne : d ≠ I) (es : Array DictEntry) (ep : Nat) : Walks prog w A I [I, d] [I] es.size (fun i v => ∃ e, es[i]? = some e /\ e.key = v) (fun i h => h.IsKeyIter I d i es.size ep /\ RawD h d es ep) where
 sub := fun b hb => by simp at hb; simp [hb]
 frame := fun _ _ _ st hk => ⟨st.1.at fun o e => hk I (by simp) o e, RawD.at' st.2 fun o e => hk d (by simp) o e⟩
 item := fun i s Q E hi st hQ => by
   refine rawk_item st.1 st.2 hi rfl fun h' it' hs' => ?_
   exact hQ es[i].key h' s.toks ⟨es[i], Array.getElem?_eq_getElem hi, rfl⟩ ⟨it', RawD.at' st.2 fun o e => hs'.extBut d o hne e⟩ fun b o hb e => hs'.extBut b o (fun h => hb (by simp [h])) e
 done := fun s Q E st hQ => rawk_end hh st.1 st.2 (Nat.le_refl _) fun h' he' => hQ h' s.toks fun b o hb e => he' b o (fun h => hb (by simp [h])) e
 self := fun _ _ _ _ st hQ => wpAny_pyIter_keyiter st.1 hQ
theorem rawk_iter {d : Addr} {es : Array DictEntry} {ep : Nat} {Q : Value -> Shared -> Prop} (hd : (d == sysModules) = false) (hm : RawD s.heap d es ep)
   (hQ : Q (.ref s.heap.objs.size) { s with heap := s.heap.push { cls := .type "dict_keyiterator", data := .fields #[.ref d, .int 0 0, .int es.size 0, .int ep 0] } }) : wpAny (model prog w) A (pyIter (.ref d)) Q E s := by
 obtain ⟨o, b1, b2, b3⟩ := id hm
 have hT := hm.typeIs
 refine wpAny_pyIter_slot hT PySem.F.slot_dict_iter (wpAny_call_entry PySem.F.slot_dict_iter hT PySem.F.entry_dict_iter ?_ (PySem.F.args_dict_iter_1 _))
 unfold Builtin.«dict.__iter__»; refine wpAny_bind ?_
 unfold Builtin.Dict.dictSlotNone; refine wpAny_bind (wpAny_notOrdered_dict hT ?_)
 show wpAny _ _ (pure (Value.ref d)) _ _ s; refine wpAny_pure ?_
 show wpAny _ _ (Builtin.Dict.showsAll d >>= _) _ _ s
 unfold Builtin.Dict.showsAll; rw [if_neg (by rw [hd]; exact Bool.false_ne_true)]
 refine wpAny_bind (wpAny_pure ?_); refine wpAny_bind (wpAny_dictEntries b1 b3 ?_); refine wpAny_bind (wpAny_dictEpoch b1 b3 ?_)
 refine wpAny_bind (wpAny_newObj_type (wpAny_pure ⟨_, rfl, "dict_keyiterator", _, ⟨_, Heap.get?_push_size _ rfl, rfl⟩, PySem.F.slot_dict_keyiterator_next.lookup, ?_⟩))
 simpa [rawInt] using hQ
theorem rawk_src {d : Addr} {es : Array DictEntry} {ep : Nat} (lo : (d == sysModules) = false) : KdlSrc prog w "dict" d d es.size (fun i v => ∃ e, es[i]? = some e /\ e.key = v) (fun h => RawD h d es ep) where
 type := fun _ hm => hm.typeIs
 there := fun _ hm => ⟨hm.lt, hm.lt⟩
 keep := fun _ _ hm hk => hm.at' fun o e => hk d (.inl rfl) o e
 notList := by decide
 notTuple := by decide
 hint := fun _ _ _ _ hm hq => kdl_hint_dict hm.typeIs hq
 iter := fun _ _ hh hm => ⟨_, _, (fun _ _ hq => rawk_iter lo hm hq), rawk_walks hh _ d (Nat.ne_of_lt hm.lt) es ep, ⟨⟨_, Heap.get?_push_size _ rfl, rfl, rfl⟩, hm.at' fun o e => Heap.get?_push_of_some _ e⟩⟩
end
end L2
namespace L2
open PySem PySem.Spec PyProof.Rows PySem.W
abbrev XE := List Key × Addr × V
abbrev XPr : List XE -> List (List Key × Addr × Value) -> Prop := Paired fun p q => p.1 = q.1 /\ p.2.1 = q.2.1 /\ RelV p.2.2 q.2.2
def DxRaw (P : Program) (w : World) (h : Heap) (a : Addr) (kvs : List XE) : Prop := ∃ xs, XPr kvs xs /\ ∃ o es ep, h.get? a = some o /\ o.ExactDict /\ o.data = .dict es ep /\ es.toList = xs.map (entryOfKey (tupleKind (zX P w))) /\ (xs.map (·.1)).Nodup
def DxO (P : Program) (w : World) (a : Addr) (kvs : List XE) : HO := .ext fun h => DxRaw P w h a kvs
structure DxAt (P : Program) (w : World) (K : PySem.W.Frag) (H : Hp) (a : Addr) (kvs : List XE) : Prop where
 is : H a = some (DxO P w a kvs)
 few : kvs.length <= 1000
 lo : (a == sysModules) = false
 keys : ∀ x ∈ kvs, SqT K H x.2.1 (x.1.map kV)
def xY (kvs : List XE) (k : List Key) : Option V := (kvs.find? fun x => decide (x.1 = k)).map (·.2.2)
theorem dx_ok {P : Program} {w : World} {H : Hp} {h : Heap} {a : Addr} {kvs : List XE} (x : DxRaw P w h a kvs) : ObjOk P w H h a (DxO P w a kvs) := by
 refine ⟨x, ?_, fun h1 h2 y hk => ?_⟩
 · obtain ⟨_, _, o, _, _, e, _⟩ := x
   exact ⟨o, e⟩
 · obtain ⟨xs, p, o, es, ep, e, r⟩ := y
   exact ⟨xs, p, o, es, ep, hk _ e, r⟩
theorem XPr.val : ∀ {kvs : List XE} {xs : List (List Key × Addr × Value)}, XPr kvs xs -> ∀ k : List Key, RelO (xY kvs k) ((atKey xs k).map (·.2))
 | _, _, .nil, k => True.intro
 | _, _, @Paired.cons _ _ _ p q ps qs h t, k => by
   obtain ⟨h1, _, h2⟩ := h
   by_cases e : p.1 = k
   · have e' : q.1 = k := h1.symm.trans e
     have b : atKey (q :: qs) k = some q.2 := by simp [atKey, List.find?_cons, e']
     have b2 : xY (p :: ps) k = some p.2.2 := by simp [xY, List.find?_cons, e]
     rw [b2, b]
     exact h2
   · have e' : ¬ q.1 = k := fun z => e (h1.trans z)
     have b : atKey (q :: qs) k = atKey qs k := by simp [atKey, List.find?_cons, e']
     have b2 : xY (p :: ps) k = xY ps k := by simp [xY, List.find?_cons, e]
     rw [b2, b]
     exact XPr.val t k
theorem XPr.mem : ∀ {kvs : List XE} {xs : List (List Key × Addr × Value)}, XPr kvs xs -> ∀ x ∈ xs, ∃ p ∈ kvs, p.1 = x.1 /\ p.2.1 = x.2.1
 | _, _, .nil, x, hx => nomatch hx
 | _, _, @Paired.cons _ _ _ p q ps qs h t, x, hx => by
   rcases List.mem_cons.mp hx with rfl | hx
   · exact ⟨p, List.mem_cons_self, h.1, h.2.1⟩
   · obtain ⟨p', h1, h2⟩ := XPr.mem t x hx
     exact ⟨p', List.mem_cons_of_mem _ h1, h2⟩
theorem XPr.at : ∀ {kvs : List XE} {xs : List (List Key × Addr × Value)}, XPr kvs xs -> ∀ {i : Nat} {p : XE} {q : List Key × Addr × Value}, kvs[i]? = some p -> xs[i]? = some q -> p.2.1 = q.2.1
 | _, _, .nil, i, p, q, h, _ => by simp at h
 | _, _, .cons hq t, 0, p, q, h1, h2 => by
   simp only [List.getElem?_cons_zero, Option.some.injEq] at h1 h2
   subst h1 h2
   exact hq.2.1
 | _, _, .cons hq t, i + 1, p, q, h1, h2 => XPr.at t (by simpa using h1) (by simpa using h2)
section
variable {X : Cx} {pins : List (Addr × Obj)} {σ : St} {H : Hp} {s : Shared} {a b : Addr} {kvs : List XE} {k : List Key}
theorem jK (I : Inv X pins σ H s) (h : SqT X.K H b (k.map kV)) : (tupleKind (zX X.prog X.w)).is s.heap k b := by
 obtain ⟨its, r, ⟨o, h1, h2, n, h3⟩, _⟩ := I.tuple h
 exact ⟨o, its.toArray, n, h1, h2, h3, by simpa using jV r⟩
theorem jW (I : Inv X pins σ H s) (d : DxAt X.prog X.w X.K H a kvs) : ∃ xs, XPr kvs xs /\ s.heap.DictOfH (tupleKind (zX X.prog X.w)) a xs := by
 obtain ⟨⟨xs, pr, o, es, ep, h1, h2, h3, h4, h5⟩, _, _⟩ := (show ObjOk X.prog X.w H s.heap a (DxO X.prog X.w a kvs) from I.hok a _ d.is)
 refine ⟨xs, pr, o, es, ep, h1, h2, h3, h4, fun x hx => ?_, h5⟩
 obtain ⟨p, hp, e1, e2⟩ := pr.mem x hx
 have := jK I (d.keys p hp)
 rw [e1, e2] at this
 exact this
end
def rNiX (P : Program) (w : World) (K : PySem.W.Frag) : R2 := fun x y H Q => ∃ a kvs b k, y = .ref a /\ DxAt P w K H a kvs /\ x = .ref b /\ SqT K H b (k.map kV) /\ Q (.bl (!(xY kvs k).isSome)) H
section
variable {X : Cx}
theorem op_notInX (hu : X.A.units + 1 < cLine) : OpR X (compareOp .NotIn) (rNiX X.prog X.w X.K) := by
 intro pins s σ H x y v u Q I rx ry h
 obtain ⟨a, kvs, b, k, rfl, d, rfl, hk, q⟩ := h
 cases rx
 cases ry
 obtain ⟨xs, pr, dd⟩ := jW I d
 refine wpAny_notIn_heap (tupleKind_room_in1 hu) (jK I hk) d.lo dd ?_
 have e := (pr.val k).isSome_eq
 rw [Option.isSome_map] at e
 rw [← e]
 exact ⟨.bl _, H, I.tok _, rfl, q⟩
theorem call_lenX : yW X (.builtin "len") (fun xs H Q => ∃ a kvs, xs = [V.ref a] /\ DxAt X.prog X.w X.K H a kvs /\ Q (.int kvs.length) H) := by
 intro pins s σ H xs us Q I r h
 obtain ⟨a, kvs, rfl, d, q⟩ := h
 obtain ⟨u, rfl, ru⟩ := vals1 r
 cases ru
 obtain ⟨xs, pr, oo, es, ep, o1, o2, o3, o4, o5, o6⟩ := jW I d
 have raw : RawD s.heap a es ep := ⟨oo, o1, o2, o3⟩
 have hlen : es.size = kvs.length := by
   rw [← Array.length_toList, o4, List.length_map]
   exact (Paired.length pr).symm
 have hs : sizeLine = 16777216 := sizeLine_eq
 have hz := d.few
 refine call_len_slot (n := (es.size : Int)) raw.typeIs PySem.F.slot_dict_len (fun Q' hq => call_meetsIn PySem.F.slot_dict_len raw.typeIs PySem.F.entry_dict_len (PySem.F.args_dict_len_1 _) (raw_len a d.lo) ⟨es, ep, raw, hq⟩) (by omega) (by omega) ?_
 rw [hlen]
 exact ⟨.int kvs.length, H, (I.tok _), ⟨_, rfl⟩, q⟩
def tDGX (P : Program) (w : World) (K : PySem.W.Frag) (td ty : TE) : TE := fun σ H Q => td σ H fun x H1 => ty σ H1 fun y H2 => ∃ a kvs b k v, x = .ref a /\ DxAt P w K H2 a kvs /\ y = .ref b /\ SqT K H2 b (k.map kV) /\ xY kvs k = some v /\ Q v H2
theorem pe_dgetX {o i : Expr} {pos : Pos} {td ty : TE} (hu : X.A.units + 1 < cLine) (ho : PE X o td) (hi : PE X i ty) (hs : NoSl i) : PE X (.Subscript o i pos) (tDGX X.prog X.w X.K td ty) := by
 intro pins s σ H Q I h
 refine subD_of PySem.F.slot_dict_getitem.lookup hs (thn (ho pins s σ H _ I h) fun u s1 ⟨x, H1, I1, rx, q1⟩ => thn (hi pins s1 σ H1 _ I1 q1) fun iv s2 ⟨y, H2, I2, ry, a, kvs, b, k, v, ex, d, ey, hk, hv, q2⟩ => ?_)
 subst ex ey
 cases rx
 cases ry
 obtain ⟨xs, pr, dd⟩ := jW I2 d
 obtain ⟨w', hw, rw'⟩ := RelO.some_of (v := v) (o := (atKey xs k).map (·.2)) (by rw [← hv]; exact pr.val k)
 obtain ⟨p, hp, hp2⟩ := Option.map_eq_some_iff.mp hw
 refine ⟨dd.typeIs, wpAny_getItem_heap (tupleKind_room_in1 hu) (jK I2 hk) dd hp ?_⟩
 rw [hp2]
 exact ⟨v, H2, I2.tok _, rw', q2⟩
def sDPX (P : Program) (w : World) (K : PySem.W.Frag) (td ty tv : TE) : TS := fun D σ H => tv σ H fun v H1 => td σ H1 fun x H2 => ty σ H2 fun y H3 => ∃ a kvs b k, x = .ref a /\ DxAt P w K H3 a kvs /\ y = .ref b /\ SqT K H3 b (k.map kV) /\ xY kvs k = none /\ D.nx σ (upd H3 a (DxO P w a (kvs ++ [(k, b, v)])))
theorem XPr.snoc {kvs : List XE} {xs : List (List Key × Addr × Value)} (h : XPr kvs xs) {k : List Key} {b : Addr} {v : V} {u : Value} (r : RelV v u) : XPr (kvs ++ [(k, b, v)]) (xs ++ [(k, b, u)]) := Paired.snoc h ⟨rfl, rfl, r⟩
theorem ps_dputX {o i value : Expr} {pos pos' : Pos} {td ty tv : TE} (hu : X.A.units + 1 < cLine) (ho : PE X o td) (hi : PE X i ty) (hv : PE X value tv) (hs : swapsWith value (some (.Subscript o i pos')) pos.line X.env = pure false) :
   PS X (.Assign [.Subscript o i pos'] value pos) (sDPX X.prog X.w X.K td ty tv) := by
 intro pins s σ H D I h
 refine wpAny_Assign_Subscript (thn (hv pins s σ H _ I h) fun r s1 ⟨v, H1, I1, rv, q1⟩ => thn (ho pins s1 σ H1 _ I1 q1) fun u s2 ⟨x, H2, I2, rx, q2⟩ => thn (hi pins s2 σ H2 _ I2 q2) fun iv s3 ⟨y, H3, I3, ry, a, kvs, b, k, ex, d, ey, hk, hn, q3⟩ => ?_) hs
 subst ex ey
 cases rx
 cases ry
 obtain ⟨xs, pr, dd⟩ := jW I3 d
 have hz : xs.length <= sizeLine := by
   rw [← Paired.length pr, sizeLine_eq]
   have := d.few
   omega
 refine wpAny_setItem_heap (hsz := hz) (tupleKind_room_in1 hu) (jK I3 hk) dd fun h' dd' hs' => ?_
 have hno : atKey xs k = none := by
   have e := (pr.val k).isSome_eq
   rw [hn, Option.isSome_map] at e
   cases c : atKey xs k with
   | none => rfl
   | some _ => rw [c] at e; cases e
 rw [storedH_new hno] at dd'
 obtain ⟨oo, es, ep, hq, h2, h3, h4, _, h5⟩ := dd'
 exact ⟨σ, _, d_write I3 (by rw [d.is]; exact True.intro) hs' ⟨oo, hq⟩ (dx_ok ⟨_, pr.snoc rv, oo, es, ep, hq, h2, h3, h4, h5⟩), q3⟩
def tLX (P : Program) (w : World) (K : PySem.W.Frag) (to : TE) : TE := fun σ H Q => to σ H fun x H1 => ∃ a kvs, x = .ref a /\ DxAt P w K H1 a kvs /\ ∀ l, H1 l = none -> Q (.ref l) (upd H1 l (.lst (kvs.map fun x => V.ref x.2.1)))
theorem pe_listX {o : Expr} {to : TE} {p pos : Pos} (hg : Gl X "list") (hm : X.mg "list" = none) (hc : X.calm = true) (ho : PE X o to)
   (he : starEach [o] X.env = [(false, eval o X.env)] := by rfl) : PE X (.Call (.Name "list" p) [o] [] pos) (tLX X.prog X.w X.K to) := by
 intro pins s σ H Q I h
 refine wpAny_Call_Name_kw (jJ I hg hm bt_list ?_ (by decide) (by decide))
 refine PyProof.Rows.callWith_type1 ?_ he (by rfl)
 rw [he]
 show wpAny _ _ (spliced [(false, _)]) _ _ s
 refine Calls.spliced_cons (thn (ho pins s σ H _ I h) fun v s1 ⟨x, H1, I1, r1, a, kvs, e, d, q⟩ => Calls.spliced_nil ?_)
 subst e
 cases r1
 obtain ⟨xs, pr, oo, es, ep, o1, o2, o3, o4, o5, o6⟩ := jW I1 d
 have raw : RawD s1.heap a es ep := ⟨oo, o1, o2, o3⟩
 have hlen : es.size = kvs.length := by
   rw [← Array.length_toList, o4, List.length_map]
   exact (Paired.length pr).symm
 have hs : sizeLine = 16777216 := sizeLine_eq
 have hz := d.few
 refine kdl_call (rawk_src (d := a) (es := es) (ep := ep) d.lo) (I.ok.hd hc) raw (by omega) fun h' tk acc c' hk hS hacc => ?_
 have vals : Vals (kvs.map fun x => V.ref x.2.1) acc.toList := by
   have hal : acc.toList.length = es.size := by rw [Array.length_toList]; exact hacc.1
   refine vals_of (by rw [List.length_map, hal, hlen]) fun i y u hy hu => ?_
   rw [Array.getElem?_toList] at hu
   obtain ⟨en, e1, e2⟩ := hacc.2 i u hu
   rw [← Array.getElem?_toList, o4, List.getElem?_map] at e1
   obtain ⟨qx, q1, q2⟩ := Option.map_eq_some_iff.mp e1
   rw [List.getElem?_map] at hy
   obtain ⟨px, p1, p2⟩ := Option.map_eq_some_iff.mp hy
   have := pr.at p1 q1
   rw [← e2, ← q2, ← p2]
   show Value.ref qx.2.1 = Value.ref px.2.1
   rw [this]
 exact ⟨.ref _, _, I1.laid (a := _) (o := .lst (kvs.map fun x => V.ref x.2.1)) (t' := tk) hk (Nat.le_refl _) ⟨by rw [List.length_map]; omega, acc.toList, c', vals, by rw [Array.toArray_toList]; exact hS⟩, rfl, q _ (I1.hok.fresh (Nat.le_refl _))⟩
def tDX1 (P : Program) (w : World) (K : PySem.W.Frag) (tk tv : TE) : TE := fun σ H Q => ∀ p, H p = none -> (p == sysModules) = false -> tk σ (upd H p (DxO P w p [])) fun x H1 => tv σ H1 fun y H2 => ∃ b k, x = .ref b /\ SqT K H2 b (k.map kV) /\ H2 p = some (DxO P w p []) /\ Q (.ref p) (upd H2 p (DxO P w p [(k, b, y)]))
theorem pe_dispX {ke ve : Expr} {pos : Pos} {tk tv : TE} (hu : X.A.units + 1 < cLine) (hk : PE X ke tk) (hv : PE X ve tv) : PE X (.Dict [some ke] [ve] pos) (tDX1 X.prog X.w X.K tk tv) := by
 intro pins s σ H Q I q
 have hn := I.hok.fresh (Nat.le_refl s.heap.objs.size)
 have hlo : (s.heap.objs.size == sysModules) = false := beq_eq_false_iff_ne.mpr (Ne.symm (Nat.ne_of_lt I.big))
 have raw0 : DxRaw X.prog X.w (s.heap.push { cls := .type "dict", data := .dict #[] }) s.heap.objs.size [] := ⟨[], .nil, _, #[], 0, Heap.get?_push_size _ rfl, ⟨rfl, rfl, rfl⟩, rfl, rfl, List.nodup_nil⟩
 have I1 := I.laid (a := s.heap.objs.size) (o := DxO X.prog X.w s.heap.objs.size []) (h' := s.heap.push { cls := .type "dict", data := .dict #[] }) (t' := s.toks) (fun _ _ q => Heap.get?_push_of_some _ q) (Nat.le_refl _) (dx_ok raw0)
 refine wpAny_Dict_any rfl rfl (by simp) (by show 1 <= 15; decide) (pairTrees_cons_walk (thn (hk pins _ σ _ _ I1 (q _ hn hlo)) fun u s1 ⟨x, H1, I2, rx, q1⟩ => thn (hv pins s1 σ H1 _ I2 q1) fun w2 s2 ⟨y, H2, I3, ry, b, k, ex, hb, hp, q2⟩ => pairTrees_nil_walk ?_))
 subst ex
 cases rx
 have d : DxAt X.prog X.w X.K H2 s.heap.objs.size [] := ⟨hp, by decide, hlo, fun x hx => nomatch hx⟩
 obtain ⟨xs, pr, dd⟩ := jW I3 d
 cases pr
 unfold storeAll
 rw [List.forIn_cons]
 refine wpAny_bind (wpAny_bind (wpAny_dictSet_heap (knd := tupleKind (zX X.prog X.w)) (show X.A.units < cLine by omega) (jK I3 hb) dd (fun h' dd' hs' => wpAny_pure ?_) (by rw [sizeLine_eq]; decide)))
 obtain ⟨oo, es, ep, hq, h2, h3, h4, _, h5⟩ := dd'
 show wpAny _ _ (forIn [] PUnit.unit _) _ _ _
 rw [List.forIn_nil]
 exact wpAny_pure ⟨.ref s.heap.objs.size, _, d_write I3 (by rw [hp]; exact True.intro) hs' ⟨oo, hq⟩ (dx_ok ⟨_, Paired.cons ⟨rfl, rfl, ry⟩ .nil, oo, es, ep, hq, h2, h3, h4, h5⟩), rfl, q2⟩
end
inductive TyK (K : PySem.W.Frag) (H : Hp) : V -> Value -> Prop where
 | of {v : V} {t : Value} (h : TyOf K H v t) : TyK K H v t
 | kt {a : Addr} {xs : List V} (h : SqT K H a xs) : TyK K H (.ref a) (.type "tuple")
section
variable {X : Cx} {pins : List (Addr × Obj)} {σ : St} {H : Hp} {s : Shared} {A : Around} {E : Value -> Shared -> Prop} {Q : Value -> Shared -> Prop} {c : Value} {b : Bool}
theorem isinst_K {x : V} {u t : Value} (I : Inv X pins σ H s) (rx : RelV x u) (ty : TyK X.K H x t) (e : PySem.W.kitOne X.K t c = some b) (h : ∀ tk, Q (.bool b) { s with toks := tk }) :
   wpAny (model X.prog X.w) A (call (.builtin "isinstance") [u, c]) Q E s := by
 cases ty with
 | of ty => exact isinst_ok I rx ty e h
 | @kt a xs hs =>
   cases (show u = Value.ref a from rx)
   obtain ⟨its, r, ⟨o, h1, h2, _⟩, _⟩ := I.tuple hs
   exact PySem.W.kia_one PySem.W.kitx_tuple I.kIn ⟨o, h1, h2⟩ e (fun z => nomatch z) h
end
section
variable {X : Cx}
theorem yC {T : String} : yW X (.builtin "isinstance") (fun xs H Q => ∃ v t b, xs = [v, .ty T] /\ TyK X.K H v t /\ PySem.W.kitOne X.K t (.type T) = some b /\ Q (.bl b) H) := by
 intro pins s σ H xs us Q I r h
 obtain ⟨x, t, b, rfl, ty, e, q⟩ := h
 obtain ⟨u, w', rfl, ru, rw'⟩ := vals2 r
 cases rw'
 exact isinst_K I ru ty e fun tk => ⟨.bl b, H, I.tok tk, rfl, q⟩
end
theorem FnOk.calm {P : Program} {w : World} {K : PySem.W.Frag} {mg : Str -> Option Value} {base : Heap} {k : Nat} {f : Addr} {fd : FuncData} {ps : List Str} {sp : Sp} (F : FnOk P w K mg base (CX1 P w) k f fd ps sp) : FnOk P w K mg base CX0 k f fd ps (fun vs H Q _ => sp vs H Q E0) :=
 ⟨fun vs H Q E h => F.len vs H Q E0 h, fun A outer s H args us vs Q E hr h0 hb hv h => codeAny_mono (F.run A outer s H args us vs Q E0 hr h0 hb hv h) fun r s' hr => by
   cases r with
   | error e =>
     obtain ⟨ea, C, a0, B, H', _, _, _, _, q⟩ := hr
     exact q.elim
   | ok fl => cases fl <;> exact hr⟩
structure HasFX (P : Program) (w : World) (K : PySem.W.Frag) (mg : Str -> Option Value) (base : Heap) (k : Nat) (f : Addr) (ps : List Str) (sp : Sp) : Prop where
 ex : ∃ fd, FnOk P w K mg base (CX1 P w) k f fd ps sp /\ Binds K fd ps [] /\ PySem.W.keepIn K (.ref f) = true
theorem HasX.at {P : Program} {w : World} {K : PySem.W.Frag} {mg : Str -> Option Value} {base : Heap} {k : Nat} {f : Addr} {x : Str} {ps : List Str} {sp : Sp} (h : HasX P w K mg base k x ps sp) (hm : mg x = some (.ref f)) : HasFX P w K mg base k f ps sp := by
 obtain ⟨g, fd, F, b, kp, m⟩ := h.ex
 rw [hm] at m
 cases m
 exact ⟨fd, F, b, kp⟩
theorem HasX.mono {P : Program} {w : World} {K : PySem.W.Frag} {mg : Str -> Option Value} {base : Heap} {j k : Nat} {x : Str} {ps : List Str} {sp : Sp} (h : HasX P w K mg base j x ps sp) (hk : j <= k) : HasX P w K mg base k x ps sp := by
 obtain ⟨g, fd, F, b, kp, m⟩ := h.ex
 exact ⟨g, fd, F.mono hk, b, kp, m⟩
theorem jS {P : Program} {w : World} {K : PySem.W.Frag} {mg : Str -> Option Value} {base : Heap} {N : List Str} {qual : Str} {scope : Scope} {f f' : Addr} {cd : Value} {A : Around} {outer : List Env} {s₀ : Shared} {H₀ : Hp} {E : XK}
   {k i : Nat} {x : Str} {ps : List Str} {sp : Sp} {e : Expr} {es : List Expr} {t : TA} {p pos : Pos} (h : HasFX P w K mg base k f' ps sp) (hr : Room k (A.deeper (envOfC qual scope s₀.heap.objs.size f cd)))
   (ha : PA (yL (CX1 P w) P w K mg base N qual scope f cd A outer s₀ H₀ E) (e :: es) t) (hN : N[i]? = some x := by rfl) (hv : Vis (yL (CX1 P w) P w K mg base N qual scope f cd A outer s₀ H₀ E).env.scope x := by first | exact Or.inl rfl | exact Or.inr (Or.inl rfl) | exact Or.inr (Or.inr rfl))
   (hdb : (x == ("__debug__" : Str)) = false := by decide) (hcd : (x == ("__classdict__" : Str)) = false := by decide)
   (he : starEach (e :: es) (envOfC qual scope s₀.heap.objs.size f cd) = (false, eval e (envOfC qual scope s₀.heap.objs.size f cd)) :: starEach es (envOfC qual scope s₀.heap.objs.size f cd) := by rfl)
   (hpl : (backTo pos (starEach es (envOfC qual scope s₀.heap.objs.size f cd))).any (·.1) = false := by rfl) :
   PE (yL (CX1 P w) P w K mg base N qual scope f cd A outer s₀ H₀ E) (.Call (.Name x p) (e :: es) [] pos) (qB i f' (tCall sp [] E t)) := by
 obtain ⟨fd, F, b, kp⟩ := h.ex
 intro pins s σ H Q I h
 obtain ⟨h1, h2⟩ := h
 refine wpAny_Call_Name_kw (thn (pe_var (X := yL (CX1 P w) P w K mg base N qual scope f cd A outer s₀ H₀ E) hN hv hdb hcd pins s σ H (fun v H' => v = .ref f' /\ H' = H) I ⟨_, h1, rfl, rfl⟩) fun u s1 ⟨v, H1, I1, r, e1, e2⟩ => ?_)
 subst e1 e2
 obtain rfl : u = .ref f' := r
 refine PySem.W.callWith_K (h₀ := base) I.ok.mod.kin kp (thn (ha pos pins s1 σ H1 _ I1 h2) fun us s2 ⟨vs, H2, I2, r, q⟩ => ⟨I2.kIn, ?_⟩) he hpl
 exact run_fn F hr b .nil passX I2 r q
end L2
namespace C
open PySem L2
seal PE PT PW PA PS PSs PG PGs PI PPs PO PSet PIf
def top (i : Nat) : Stmt := PySem.Challenge.pw_clashbook_k11_sheets_of_terms.main.body.getD i (.Pass ⟨0, 0, 0, 0⟩)
abbrev s_d : Stmt := top 17
theorem sc_d : FnScope ["script", "k"] ["script", "k"] (zG s_d) := ⟨rfl, rfl, rfl, by decide +kernel, rfl, by decide +kernel, by decide +kernel⟩
abbrev s_c : Stmt := top 18
theorem sc_c : FnScope ["cell", "size", "letters", "made", "rest", "k"] ["cell", "size"] (zG s_c) := ⟨rfl, rfl, rfl, by decide +kernel, rfl, by decide +kernel, by decide +kernel⟩
abbrev s_k : Stmt := top 19
theorem sc_k : FnScope ["script", "one", "two", "three", "pool"] ["script"] (zG s_k) := ⟨rfl, rfl, rfl, by decide +kernel, rfl, by decide +kernel, by decide +kernel⟩
abbrev s_m : Stmt := top 20
theorem sc_m : FnScope ["cell", "pool", "which"] ["cell", "pool"] (zG s_m) := ⟨rfl, rfl, rfl, by decide +kernel, rfl, by decide +kernel, by decide +kernel⟩
abbrev s_g : Stmt := top 21
theorem sc_g : FnScope ["cells", "pool", "stack", "deep", "cell", "way", "parts", "low"] ["cells", "pool"] (zG s_g) := ⟨rfl, rfl, rfl, by decide +kernel, rfl, by decide +kernel, by decide +kernel⟩
abbrev s_b : Stmt := top 22
theorem sc_b : FnScope ["stack"] ["stack"] (zG s_b) := ⟨rfl, rfl, rfl, by decide +kernel, rfl, by decide +kernel, by decide +kernel⟩
def xK (K : PySem.W.Frag) : Sp := fun vs H Q _ => ∃ (a : Addr) (ns : List Int) (k : Nat), vs = [.ref a, .int k] /\ SqL K H a (ns.map V.int) /\ Q (.int (ns.getD k 0)) H
def spName : Sp := fun vs H Q _ => ∃ c n : Int, vs = [.int c, .int n] /\ ∀ x : Str, Nm x -> Q (.str x) H
def Pool (K : PySem.W.Frag) (H : Hp) (p : Addr) : Prop := ∃ x y z : Str, Nm x /\ Nm y /\ Nm z /\ H p = some (.lst [.str x, .str y, .str z])
def spPool (K : PySem.W.Frag) : Sp := fun vs H Q _ => ∃ (a : Addr) (ns : List Int), vs = [.ref a] /\ SqL K H a (ns.map V.int) /\ ∀ p H', Same H H' -> Pool K H' p -> Q (.ref p) H'
def spLeaf (K : PySem.W.Frag) : Sp := fun vs H Q _ => ∃ (c : Int) (p : Addr), vs = [.int c, .ref p] /\ Pool K H p /\ ∀ v t H', Same H H' -> TAt H' t v -> Fit 0 t -> wt t = 1 -> Q v H'
def xU (K : PySem.W.Frag) : Sp := fun vs H Q _ => ∃ (c p : Addr) (ns : List Int), vs = [.ref c, .ref p] /\ SqL K H c (ns.map V.int) /\ ns.length <= 63 /\ Pool K H p /\
 ∀ a vs ts H', Same H H' -> H a = none -> H' a = some (.lst vs) -> TAts H' ts vs -> ts ≠ [] -> (∀ t ∈ ts, Fit 17 t) -> wts ts <= ns.length + 1 -> Q (.ref a) H'
def whole : List Tm -> Tm
 | [t] => t
 | ts => .node "both" ts
def spWhole : Sp := fun vs H Q _ => ∃ (a : Addr) (vs' : List V) (ts : List Tm) (m : Nat), vs = [.ref a] /\ H a = some (.lst vs') /\ TAts H ts vs' /\ ts ≠ [] /\ (∀ t ∈ ts, Fit 17 t) /\ wts ts <= m /\ m <= 100 /\ ∀ v H', Same H H' -> TAt H' (whole ts) v -> Fit 18 (whole ts) -> wt (whole ts) <= m + 1 -> Q v H'
theorem Pool.same {K : PySem.W.Frag} {H H' : Hp} {p : Addr} (e : Same H H') (h : Pool K H p) : Pool K H' p := by
 obtain ⟨x, y, z, a, b, c, d⟩ := h
 exact ⟨x, y, z, a, b, c, e _ _ d⟩
section
variable {P : Program} {w : World} {K : PySem.W.Frag} {mg : Str -> Option Value} {base : Heap} {f : Addr} {fd : FuncData}
theorem ok_cell (bi : Bi mg) (F : Fun K "_law_cell_at" "_law_cell_at" s_d f fd) : FnOk P w K mg base CX0 1 f fd ["script", "k"] (xK K) := by
 refine F.ok sc_d (fun vs H Q E h => ?_) (fun cdv A outer s H vs Q E hr h => ?_)
 · obtain ⟨a, ns, k, rfl, _⟩ := h
   rfl
 obtain ⟨a, ns, k, rfl, hS, q⟩ := h
 refine ⟨_, (zC (zU (zK op_lt (pv 1) (zO call_len rfl bi.len bt_len (zA (pv 0) pa_nil)) (zP _)) (zE (zN (yA ix_list (pv 0) (pv 1) (fun _ _ => rfl)))) pss_nil) (zE (zN zD))), ?_⟩
 simp only [tSeq, tFor_eq, tLC_eq, iRng1, iRng2, iList, iTup, iStr, tIfS, tRet, tRetN, tNext, tAsg, gName, tVar, tC, tOp, rI0, rI, tTest, tB, rEq, rNe, tCall, tCons, tNil, tCB, tLst, tTup, tAnd, tOr, tNot, tAndV, tOrV, tNotV, tIf, tDrop, tSl, tPart, tNoPart, tChain, tUn, rU, L2.start, cx_K, bk_K, cx_calm, bk_calm, lenV_str, and_assoc, Option.join, List.length_map, List.length_append, decide_eq_true_eq, Bool.false_eq_true, if_false, if_true, Bool.not_true, Bool.not_false, Bool.not_eq_true', decide_eq_false_iff_not, Bool.true_eq_false, List.length_cons, List.length_nil, List.map_cons, List.map_nil, List.replicate, List.cons_append, List.nil_append, List.append_nil, List.getElem?_cons_zero, List.getElem?_cons_succ, List.set_cons_zero, List.set_cons_succ, Nat.reduceSub, Nat.reduceAdd, Option.some.injEq, V.int.injEq, V.str.injEq, V.bl.injEq, V.ref.injEq, List.cons.injEq, and_true, true_and, exists_eq_left', exists_eq_left, exists_and_left, exists_eq_right, exists_const]
 refine ⟨_, .inl ⟨_, hS, rfl⟩, ?_⟩
 split
 · rename_i hk
   rw [List.length_map] at hk
   exact ⟨a, _, k, _, rfl, rfl, hS, ix_nat hk, q⟩
 · rename_i hk
   rw [List.length_map] at hk
   rw [List.getD_eq_getElem?_getD, List.getElem?_eq_none (by omega)] at q
   exact q
theorem letter_at (c : Int) : ∃ d : Nat, atI ("abcdefghijklmnopqrstuvwxyz" : Str).cps.toList (c % 26) = some d /\ 97 <= d /\ d <= 122 := by
 have h : ∀ k : Fin 26, ∃ d : Nat, ("abcdefghijklmnopqrstuvwxyz" : Str).cps.toList[k.val]? = some d /\ 97 <= d /\ d <= 122 := by decide +kernel
 have h1 : 0 <= c % 26 := Int.emod_nonneg _ (by omega)
 have h2 : c % 26 < 26 := Int.emod_lt_of_pos _ (by omega)
 have e : c % 26 = ((c % 26).toNat : Nat) := by omega
 obtain ⟨d, h3, h4⟩ := h ⟨(c % 26).toNat, by omega⟩
 refine ⟨d, ?_, h4⟩
 rw [e]
 exact yB h3
theorem ok_name (bi : Bi mg) (F : Fun K "_law_name_by" "_law_name_by" s_c f fd) : FnOk P w K mg base CX0 1 f fd ["cell", "size"] spName := by
 refine F.ok sc_c (fun vs H Q E h => ?_) (fun cdv A outer s H vs Q E hr h => ?_)
 · obtain ⟨c, n, rfl, _⟩ := h
   rfl
 obtain ⟨c, n, rfl, q⟩ := h
 refine ⟨_, (zC (zM (i := 2) sc_c.nd rfl (Or.inl rfl) zQ) (zC (zM (i := 3) sc_c.nd rfl (Or.inl rfl) zQ) (zC (zM (i := 4) sc_c.nd rfl (Or.inl rfl) (zJ op_mod (pv 0) (zJ op_pow zD zD))) (zC (yZ PassesOwn.never rfl (xL rfl bi.range (zA (zJ op_add zD (zJ op_mod (pv 1) zD)) pa_nil)) (yP (i := 5) sc_c.nd rfl (Or.inl rfl)) (zC (zM (i := 3) sc_c.nd rfl (Or.inl rfl) (zJ op_add_str (pv 3) (yA ix_str (pv 2) (zJ op_mod (pv 4) zD) (fun _ _ => rfl)))) (zE (zM (i := 4) sc_c.nd rfl (Or.inl rfl) (zJ op_fdiv (pv 4) zD))))) (zC (zU (PW.pt (pw_or (zK op_eq (pv 3) zQ (zP _)) (pw_or1 (zK op_eq (pv 3) zQ (zP _))))) (zE (zM (i := 3) sc_c.nd rfl (Or.inl rfl) (zJ op_add_str (pv 3) zQ))) pss_nil) (zE (zN (pv 3)))))))), ?_⟩
 refine zI fun N hN => ?_
 simp only [tSeq, tFor_eq, tLC_eq, iRng1, iRng2, iList, iTup, iStr, tIfS, tRet, tRetN, tNext, tAsg, gName, tVar, tC, tOp, rI0, rI, tTest, tB, rEq, rNe, tCall, tCons, tNil, tCB, tLst, tTup, tAnd, tOr, tNot, tAndV, tOrV, tNotV, tIf, tDrop, tSl, tPart, tNoPart, tChain, tUn, rU, L2.start, cx_K, bk_K, cx_calm, bk_calm, lenV_str, and_assoc, Option.join, List.length_map, List.length_append, decide_eq_true_eq, Bool.false_eq_true, if_false, if_true, Bool.not_true, Bool.not_false, Bool.not_eq_true', decide_eq_false_iff_not, Bool.true_eq_false, List.length_cons, List.length_nil, List.map_cons, List.map_nil, List.replicate, List.cons_append, List.nil_append, List.append_nil, List.getElem?_cons_zero, List.getElem?_cons_succ, List.set_cons_zero, List.set_cons_succ, Nat.reduceSub, Nat.reduceAdd, Option.some.injEq, V.int.injEq, V.str.injEq, V.bl.injEq, V.ref.injEq, List.cons.injEq, and_true, true_and, exists_eq_left', exists_eq_left, exists_and_left, exists_eq_right, exists_const]
 refine hN _ _ ?_
 refine zI fun N hN => ?_
 simp only [tSeq, tFor_eq, tLC_eq, iRng1, iRng2, iList, iTup, iStr, tIfS, tRet, tRetN, tNext, tAsg, gName, tVar, tC, tOp, rI0, rI, tTest, tB, rEq, rNe, tCall, tCons, tNil, tCB, tLst, tTup, tAnd, tOr, tNot, tAndV, tOrV, tNotV, tIf, tDrop, tSl, tPart, tNoPart, tChain, tUn, rU, L2.start, cx_K, bk_K, cx_calm, bk_calm, lenV_str, and_assoc, Option.join, List.length_map, List.length_append, decide_eq_true_eq, Bool.false_eq_true, if_false, if_true, Bool.not_true, Bool.not_false, Bool.not_eq_true', decide_eq_false_iff_not, Bool.true_eq_false, List.length_cons, List.length_nil, List.map_cons, List.map_nil, List.replicate, List.cons_append, List.nil_append, List.append_nil, List.getElem?_cons_zero, List.getElem?_cons_succ, List.set_cons_zero, List.set_cons_succ, Nat.reduceSub, Nat.reduceAdd, Option.some.injEq, V.int.injEq, V.str.injEq, V.bl.injEq, V.ref.injEq, List.cons.injEq, and_true, true_and, exists_eq_left', exists_eq_left, exists_and_left, exists_eq_right, exists_const]
 refine hN _ _ ?_
 refine zI fun N hN => ?_
 simp only [tSeq, tFor_eq, tLC_eq, iRng1, iRng2, iList, iTup, iStr, tIfS, tRet, tRetN, tNext, tAsg, gName, tVar, tC, tOp, rI0, rI, tTest, tB, rEq, rNe, tCall, tCons, tNil, tCB, tLst, tTup, tAnd, tOr, tNot, tAndV, tOrV, tNotV, tIf, tDrop, tSl, tPart, tNoPart, tChain, tUn, rU, L2.start, cx_K, bk_K, cx_calm, bk_calm, lenV_str, and_assoc, Option.join, List.length_map, List.length_append, decide_eq_true_eq, Bool.false_eq_true, if_false, if_true, Bool.not_true, Bool.not_false, Bool.not_eq_true', decide_eq_false_iff_not, Bool.true_eq_false, List.length_cons, List.length_nil, List.map_cons, List.map_nil, List.replicate, List.cons_append, List.nil_append, List.append_nil, List.getElem?_cons_zero, List.getElem?_cons_succ, List.set_cons_zero, List.set_cons_succ, Nat.reduceSub, Nat.reduceAdd, Option.some.injEq, V.int.injEq, V.str.injEq, V.bl.injEq, V.ref.injEq, List.cons.injEq, and_true, true_and, exists_eq_left', exists_eq_left, exists_and_left, exists_eq_right, exists_const]
 refine ⟨⟨by decide, by decide, by decide⟩, by decide, hN _ _ ?_⟩
 generalize c % 26 ^ Int.toNat 8 = r0
 have hm : 0 <= n % 8 /\ n % 8 < 8 := by omega
 have e0 : ("" : Str).cps.toList = [] := by decide +kernel
 refine zZ (fun σ H' => H' = H /\ ∃ (z : Str) (a b : Option V), z.length = 1 + (n % 8).toNat /\ (∀ d ∈ z.cps.toList, 97 <= d /\ d <= 122) /\ σ = [some (V.int c), some (V.int n), some (V.str "abcdefghijklmnopqrstuvwxyz"), some (V.str z), a, b]) (fun N hN => ?_) (fun σ H' h => ?_)
 · simp only [tSeq, tFor_eq, tLC_eq, iRng1, iRng2, iList, iTup, iStr, tIfS, tRet, tRetN, tNext, tAsg, gName, tVar, tC, tOp, rI0, rI, tTest, tB, rEq, rNe, tCall, tCons, tNil, tCB, tLst, tTup, tAnd, tOr, tNot, tAndV, tOrV, tNotV, tIf, tDrop, tSl, tPart, tNoPart, tChain, tUn, rU, L2.start, cx_K, bk_K, cx_calm, bk_calm, lenV_str, and_assoc, Option.join, List.length_map, List.length_append, decide_eq_true_eq, Bool.false_eq_true, if_false, if_true, Bool.not_true, Bool.not_false, Bool.not_eq_true', decide_eq_false_iff_not, Bool.true_eq_false, List.length_cons, List.length_nil, List.map_cons, List.map_nil, List.replicate, List.cons_append, List.nil_append, List.append_nil, List.getElem?_cons_zero, List.getElem?_cons_succ, List.set_cons_zero, List.set_cons_succ, Nat.reduceSub, Nat.reduceAdd, Option.some.injEq, V.int.injEq, V.str.injEq, V.bl.injEq, V.ref.injEq, List.cons.injEq, and_true, true_and, exists_eq_left', exists_eq_left, exists_and_left, exists_eq_right, exists_const]
   refine ⟨by decide, by omega, by omega, xJ (n := (1 + n % 8).toNat) (fun i σ H' => H' = H /\ ∃ (z : Str) (r : Int) (o : Option V), z.length = i /\ (∀ d ∈ z.cps.toList, 97 <= d /\ d <= 122) /\ σ = [some (V.int c), some (V.int n), some (V.str "abcdefghijklmnopqrstuvwxyz"), some (V.str z), some (V.int r), o])
     ⟨rfl, _, _, _, rfl, (fun d hd => by rw [e0] at hd; cases hd), rfl⟩ (fun i σ H' hi e => ?_) (fun σ H' e => ?_)⟩
   · obtain ⟨rfl, z, r, o, hz, hl, rfl⟩ := e
     obtain ⟨d, hd, hd2⟩ := letter_at r
     simp only [tSeq, tFor_eq, tLC_eq, iRng1, iRng2, iList, iTup, iStr, tIfS, tRet, tRetN, tNext, tAsg, gName, tVar, tC, tOp, rI0, rI, tTest, tB, rEq, rNe, tCall, tCons, tNil, tCB, tLst, tTup, tAnd, tOr, tNot, tAndV, tOrV, tNotV, tIf, tDrop, tSl, tPart, tNoPart, tChain, tUn, rU, L2.start, cx_K, bk_K, cx_calm, bk_calm, lenV_str, and_assoc, Option.join, List.length_map, List.length_append, decide_eq_true_eq, Bool.false_eq_true, if_false, if_true, Bool.not_true, Bool.not_false, Bool.not_eq_true', decide_eq_false_iff_not, Bool.true_eq_false, List.length_cons, List.length_nil, List.map_cons, List.map_nil, List.replicate, List.cons_append, List.nil_append, List.append_nil, List.getElem?_cons_zero, List.getElem?_cons_succ, List.set_cons_zero, List.set_cons_succ, Nat.reduceSub, Nat.reduceAdd, Option.some.injEq, V.int.injEq, V.str.injEq, V.bl.injEq, V.ref.injEq, List.cons.injEq, and_true, true_and, exists_eq_left', exists_eq_left, exists_and_left, exists_eq_right, exists_const]
     refine ⟨by decide, _, _, d, rfl, rfl, zV (by decide +kernel), hd, ?_⟩
     have e1 : (⟨#[d]⟩ : Str).length = 1 := rfl
     refine ⟨_, rfl, zV (by omega), ⟨by decide, by decide⟩, rfl, _, ?_, ?_, rfl, _, rfl⟩
     · rw [len_app, hz, e1]
     · intro d' hd'
       rw [cps_app] at hd'
       rcases List.mem_append.mp hd' with h | h
       · exact hl d' h
       · have h : d' ∈ [d] := h
         rw [List.mem_singleton.mp h]
         exact hd2
   · obtain ⟨rfl, z, r, o, hz, hl, rfl⟩ := e
     exact hN _ _ ⟨rfl, z, _, _, by omega, hl, rfl⟩
 · obtain ⟨rfl, z, a, b, hz, hl, rfl⟩ := h
   refine zZ (fun σ H'' => H'' = H' /\ ∃ (z : Str) (a b : Option V), Nm z /\ σ = [some (V.int c), some (V.int n), some (V.str "abcdefghijklmnopqrstuvwxyz"), some (V.str z), a, b]) (fun N hN => ?_) (fun σ H'' h => ?_)
   · simp only [tSeq, tFor_eq, tLC_eq, iRng1, iRng2, iList, iTup, iStr, tIfS, tRet, tRetN, tNext, tAsg, gName, tVar, tC, tOp, rI0, rI, tTest, tB, rEq, rNe, tCall, tCons, tNil, tCB, tLst, tTup, tAnd, tOr, tNot, tAndV, tOrV, tNotV, tIf, tDrop, tSl, tPart, tNoPart, tChain, tUn, rU, L2.start, cx_K, bk_K, cx_calm, bk_calm, lenV_str, and_assoc, Option.join, List.length_map, List.length_append, decide_eq_true_eq, Bool.false_eq_true, if_false, if_true, Bool.not_true, Bool.not_false, Bool.not_eq_true', decide_eq_false_iff_not, Bool.true_eq_false, List.length_cons, List.length_nil, List.map_cons, List.map_nil, List.replicate, List.cons_append, List.nil_append, List.append_nil, List.getElem?_cons_zero, List.getElem?_cons_succ, List.set_cons_zero, List.set_cons_succ, Nat.reduceSub, Nat.reduceAdd, Option.some.injEq, V.int.injEq, V.str.injEq, V.bl.injEq, V.ref.injEq, List.cons.injEq, and_true, true_and, exists_eq_left', exists_eq_left, exists_and_left, exists_eq_right, exists_const]
     refine ⟨rfl, ?_⟩
     have fin : ∀ z : Str, Nm z -> N [some (V.int c), some (V.int n), some (V.str "abcdefghijklmnopqrstuvwxyz"), some (V.str z), a, b] H' := fun z h => hN _ _ ⟨rfl, z, _, _, h, rfl⟩
     split
     · rename_i e
       subst e
       refine ⟨zV (by decide +kernel), fin _ ?_⟩
       exact ⟨by decide +kernel, by decide +kernel, by decide +kernel, by decide +kernel, by decide +kernel⟩
     · rename_i e
       refine ⟨rfl, ?_⟩
       split
       · rename_i e
         subst e
         refine ⟨zV (by decide +kernel), fin _ ?_⟩
         exact ⟨by decide +kernel, by decide +kernel, by decide +kernel, by decide +kernel, by decide +kernel⟩
       · rename_i e2
         exact fin z ⟨by omega, by omega, hl, e, e2⟩
   · obtain ⟨rfl, z, a, b, hz, rfl⟩ := h
     simp only [tSeq, tFor_eq, tLC_eq, iRng1, iRng2, iList, iTup, iStr, tIfS, tRet, tRetN, tNext, tAsg, gName, tVar, tC, tOp, rI0, rI, tTest, tB, rEq, rNe, tCall, tCons, tNil, tCB, tLst, tTup, tAnd, tOr, tNot, tAndV, tOrV, tNotV, tIf, tDrop, tSl, tPart, tNoPart, tChain, tUn, rU, L2.start, cx_K, bk_K, cx_calm, bk_calm, lenV_str, and_assoc, Option.join, List.length_map, List.length_append, decide_eq_true_eq, Bool.false_eq_true, if_false, if_true, Bool.not_true, Bool.not_false, Bool.not_eq_true', decide_eq_false_iff_not, Bool.true_eq_false, List.length_cons, List.length_nil, List.map_cons, List.map_nil, List.replicate, List.cons_append, List.nil_append, List.append_nil, List.getElem?_cons_zero, List.getElem?_cons_succ, List.set_cons_zero, List.set_cons_succ, Nat.reduceSub, Nat.reduceAdd, Option.some.injEq, V.int.injEq, V.str.injEq, V.bl.injEq, V.ref.injEq, List.cons.injEq, and_true, true_and, exists_eq_left', exists_eq_left, exists_and_left, exists_eq_right, exists_const]
     exact q z hz
theorem ok_pool (bi : Bi mg) (h_d : Has P w K mg base 1 "_law_cell_at" ["script", "k"] (xK K)) (h_c : Has P w K mg base 1 "_law_name_by" ["cell", "size"] spName)
   (F : Fun K "_law_pool" "_law_pool" s_k f fd) : FnOk P w K mg base CX0 2 f fd ["script"] (spPool K) := by
 refine F.ok sc_k (fun vs H Q E h => ?_) (fun cdv A outer s H vs Q E hr h => ?_)
 · obtain ⟨a, ns, rfl, _⟩ := h
   rfl
 obtain ⟨a, ns, rfl, hS, q⟩ := h
 refine ⟨_, (zC (zM (i := 1) sc_k.nd rfl (Or.inl rfl) (zL h_d (hr.mono (by omega)) rfl (zA (pv 0) (zA zD pa_nil)))) (zC (zM (i := 2) sc_k.nd rfl (Or.inl rfl) (zL h_d (hr.mono (by omega)) rfl (zA (pv 0) (zA zD pa_nil)))) (zC (zM (i := 3) sc_k.nd rfl (Or.inl rfl) (zL h_d (hr.mono (by omega)) rfl (zA (pv 0) (zA zD pa_nil)))) (zC (zM (i := 4) sc_k.nd rfl (Or.inl rfl) (yM (zA (zL h_c (hr.mono (by omega)) rfl (zA (pv 1) (zA (zJ op_mod (zJ op_fdiv (pv 1) zD) zD) pa_nil))) (zA (zL h_c (hr.mono (by omega)) rfl (zA (pv 2) (zA (zJ op_mod (zJ op_fdiv (pv 2) zD) zD) pa_nil))) pa_nil)))) (zC (zU (zK op_eq (zJ op_mod (pv 3) zD) zD (zP _)) (zE (yD (yQ PySem.F.plainAttrs_list PySem.F.slot_list_append PySem.F.type_list_append mt_append (pv 4) (zA (zL h_c (hr.mono (by omega)) rfl (zA (pv 1) (zA (zJ op_add (zJ op_mod (zJ op_fdiv (pv 1) zD) zD) zD) pa_nil))) pa_nil)))) (zE (yD (yQ PySem.F.plainAttrs_list PySem.F.slot_list_append PySem.F.type_list_append mt_append (pv 4) (zA (zL h_c (hr.mono (by omega)) rfl (zA (zJ op_fdiv (pv 3) zD) (zA (zJ op_mod (zJ op_fdiv (pv 3) zD) zD) pa_nil))) pa_nil))))) (zE (zN (pv 4)))))))), ?_⟩
 refine zI fun N hN => ?_
 simp only [tSeq, tFor_eq, tLC_eq, iRng1, iRng2, iList, iTup, iStr, tIfS, tRet, tRetN, tNext, tAsg, gName, tVar, tC, tOp, rI0, rI, tTest, tB, rEq, rNe, tCall, tCons, tNil, tCB, tLst, tTup, tAnd, tOr, tNot, tAndV, tOrV, tNotV, tIf, tDrop, tSl, tPart, tNoPart, tChain, tUn, rU, L2.start, cx_K, bk_K, cx_calm, bk_calm, lenV_str, and_assoc, Option.join, List.length_map, List.length_append, decide_eq_true_eq, Bool.false_eq_true, if_false, if_true, Bool.not_true, Bool.not_false, Bool.not_eq_true', decide_eq_false_iff_not, Bool.true_eq_false, List.length_cons, List.length_nil, List.map_cons, List.map_nil, List.replicate, List.cons_append, List.nil_append, List.append_nil, List.getElem?_cons_zero, List.getElem?_cons_succ, List.set_cons_zero, List.set_cons_succ, Nat.reduceSub, Nat.reduceAdd, Option.some.injEq, V.int.injEq, V.str.injEq, V.bl.injEq, V.ref.injEq, List.cons.injEq, and_true, true_and, exists_eq_left', exists_eq_left, exists_and_left, exists_eq_right, exists_const, xK]
 refine ⟨ns, 0, rfl, hS, hN _ _ ?_⟩
 refine zI fun N hN => ?_
 simp only [tSeq, tFor_eq, tLC_eq, iRng1, iRng2, iList, iTup, iStr, tIfS, tRet, tRetN, tNext, tAsg, gName, tVar, tC, tOp, rI0, rI, tTest, tB, rEq, rNe, tCall, tCons, tNil, tCB, tLst, tTup, tAnd, tOr, tNot, tAndV, tOrV, tNotV, tIf, tDrop, tSl, tPart, tNoPart, tChain, tUn, rU, L2.start, cx_K, bk_K, cx_calm, bk_calm, lenV_str, and_assoc, Option.join, List.length_map, List.length_append, decide_eq_true_eq, Bool.false_eq_true, if_false, if_true, Bool.not_true, Bool.not_false, Bool.not_eq_true', decide_eq_false_iff_not, Bool.true_eq_false, List.length_cons, List.length_nil, List.map_cons, List.map_nil, List.replicate, List.cons_append, List.nil_append, List.append_nil, List.getElem?_cons_zero, List.getElem?_cons_succ, List.set_cons_zero, List.set_cons_succ, Nat.reduceSub, Nat.reduceAdd, Option.some.injEq, V.int.injEq, V.str.injEq, V.bl.injEq, V.ref.injEq, List.cons.injEq, and_true, true_and, exists_eq_left', exists_eq_left, exists_and_left, exists_eq_right, exists_const, xK]
 refine ⟨ns, 1, rfl, hS, hN _ _ ?_⟩
 refine zI fun N hN => ?_
 simp only [tSeq, tFor_eq, tLC_eq, iRng1, iRng2, iList, iTup, iStr, tIfS, tRet, tRetN, tNext, tAsg, gName, tVar, tC, tOp, rI0, rI, tTest, tB, rEq, rNe, tCall, tCons, tNil, tCB, tLst, tTup, tAnd, tOr, tNot, tAndV, tOrV, tNotV, tIf, tDrop, tSl, tPart, tNoPart, tChain, tUn, rU, L2.start, cx_K, bk_K, cx_calm, bk_calm, lenV_str, and_assoc, Option.join, List.length_map, List.length_append, decide_eq_true_eq, Bool.false_eq_true, if_false, if_true, Bool.not_true, Bool.not_false, Bool.not_eq_true', decide_eq_false_iff_not, Bool.true_eq_false, List.length_cons, List.length_nil, List.map_cons, List.map_nil, List.replicate, List.cons_append, List.nil_append, List.append_nil, List.getElem?_cons_zero, List.getElem?_cons_succ, List.set_cons_zero, List.set_cons_succ, Nat.reduceSub, Nat.reduceAdd, Option.some.injEq, V.int.injEq, V.str.injEq, V.bl.injEq, V.ref.injEq, List.cons.injEq, and_true, true_and, exists_eq_left', exists_eq_left, exists_and_left, exists_eq_right, exists_const, xK]
 refine ⟨ns, 2, rfl, hS, hN _ _ ?_⟩
 generalize ns.getD 0 0 = x0
 generalize ns.getD 1 0 = x1
 generalize ns.getD 2 0 = x2
 refine zI fun N hN => ?_
 simp only [tSeq, tFor_eq, tLC_eq, iRng1, iRng2, iList, iTup, iStr, tIfS, tRet, tRetN, tNext, tAsg, gName, tVar, tC, tOp, rI0, rI, tTest, tB, rEq, rNe, tCall, tCons, tNil, tCB, tLst, tTup, tAnd, tOr, tNot, tAndV, tOrV, tNotV, tIf, tDrop, tSl, tPart, tNoPart, tChain, tUn, rU, L2.start, cx_K, bk_K, cx_calm, bk_calm, lenV_str, and_assoc, Option.join, List.length_map, List.length_append, decide_eq_true_eq, Bool.false_eq_true, if_false, if_true, Bool.not_true, Bool.not_false, Bool.not_eq_true', decide_eq_false_iff_not, Bool.true_eq_false, List.length_cons, List.length_nil, List.map_cons, List.map_nil, List.replicate, List.cons_append, List.nil_append, List.append_nil, List.getElem?_cons_zero, List.getElem?_cons_succ, List.set_cons_zero, List.set_cons_succ, Nat.reduceSub, Nat.reduceAdd, Option.some.injEq, V.int.injEq, V.str.injEq, V.bl.injEq, V.ref.injEq, List.cons.injEq, and_true, true_and, exists_eq_left', exists_eq_left, exists_and_left, exists_eq_right, exists_const, spName]
 refine ⟨⟨by decide, by decide⟩, by decide, fun n1 g1 => ⟨⟨by decide, by decide⟩, by decide, fun n2 g2 => ⟨zV (by decide), fun p hp => hN _ _ ?_⟩⟩⟩
 refine zZ (fun σ H' => Same H H' /\ Pool K H' p /\ ∃ a b c d : Option V, σ = [a, b, c, d, some (V.ref p)]) (fun N hN => ?_) (fun σ H' h => ?_)
 · simp only [tSeq, tFor_eq, tLC_eq, iRng1, iRng2, iList, iTup, iStr, tIfS, tRet, tRetN, tNext, tAsg, gName, tVar, tC, tOp, rI0, rI, tTest, tB, rEq, rNe, tCall, tCons, tNil, tCB, tLst, tTup, tAnd, tOr, tNot, tAndV, tOrV, tNotV, tIf, tDrop, tSl, tPart, tNoPart, tChain, tUn, rU, L2.start, cx_K, bk_K, cx_calm, bk_calm, lenV_str, and_assoc, Option.join, List.length_map, List.length_append, decide_eq_true_eq, Bool.false_eq_true, if_false, if_true, Bool.not_true, Bool.not_false, Bool.not_eq_true', decide_eq_false_iff_not, Bool.true_eq_false, List.length_cons, List.length_nil, List.map_cons, List.map_nil, List.replicate, List.cons_append, List.nil_append, List.append_nil, List.getElem?_cons_zero, List.getElem?_cons_succ, List.set_cons_zero, List.set_cons_succ, Nat.reduceSub, Nat.reduceAdd, Option.some.injEq, V.int.injEq, V.str.injEq, V.bl.injEq, V.ref.injEq, List.cons.injEq, and_true, true_and, exists_eq_left', exists_eq_left, exists_and_left, exists_eq_right, exists_const, spName]
   have fin : ∀ n3 : Str, Nm n3 -> Same H (upd (upd H p (HO.lst [V.str n1, V.str n2])) p (HO.lst ([V.str n1, V.str n2] ++ [V.str n3]))) /\ Pool K (upd (upd H p (HO.lst [V.str n1, V.str n2])) p (HO.lst ([V.str n1, V.str n2] ++ [V.str n3]))) p := fun n3 g3 => by
     rw [xF]
     exact ⟨zF hp _, n1, n2, n3, g1, g2, g3, zB⟩
   have ty : tyV K "list" (V.ref p) (upd H p (HO.lst [V.str n1, V.str n2])) := .inl ⟨rfl, _, SqL.of zB⟩
   refine ⟨by decide, rfl, ?_⟩
   split
   · refine ⟨_, rfl, ty, ?_⟩
     simp only [tSeq, tFor_eq, tLC_eq, iRng1, iRng2, iList, iTup, iStr, tIfS, tRet, tRetN, tNext, tAsg, gName, tVar, tC, tOp, rI0, rI, tTest, tB, rEq, rNe, tCall, tCons, tNil, tCB, tLst, tTup, tAnd, tOr, tNot, tAndV, tOrV, tNotV, tIf, tDrop, tSl, tPart, tNoPart, tChain, tUn, rU, L2.start, cx_K, bk_K, cx_calm, bk_calm, lenV_str, and_assoc, Option.join, List.length_map, List.length_append, decide_eq_true_eq, Bool.false_eq_true, if_false, if_true, Bool.not_true, Bool.not_false, Bool.not_eq_true', decide_eq_false_iff_not, Bool.true_eq_false, List.length_cons, List.length_nil, List.map_cons, List.map_nil, List.replicate, List.cons_append, List.nil_append, List.append_nil, List.getElem?_cons_zero, List.getElem?_cons_succ, List.set_cons_zero, List.set_cons_succ, Nat.reduceSub, Nat.reduceAdd, Option.some.injEq, V.int.injEq, V.str.injEq, V.bl.injEq, V.ref.injEq, List.cons.injEq, and_true, true_and, exists_eq_left', exists_eq_left, exists_and_left, exists_eq_right, exists_const, spName]
     refine ⟨⟨by decide, by decide⟩, by decide, fun n3 g3 => ?_⟩
     exact ⟨p, _, _, rfl, rfl, zB, (by show 2 < sizeLine; decide), hN _ _ ⟨(fin n3 g3).1, (fin n3 g3).2, _, _, _, _, rfl⟩⟩
   · refine ⟨_, rfl, ty, ?_⟩
     simp only [tSeq, tFor_eq, tLC_eq, iRng1, iRng2, iList, iTup, iStr, tIfS, tRet, tRetN, tNext, tAsg, gName, tVar, tC, tOp, rI0, rI, tTest, tB, rEq, rNe, tCall, tCons, tNil, tCB, tLst, tTup, tAnd, tOr, tNot, tAndV, tOrV, tNotV, tIf, tDrop, tSl, tPart, tNoPart, tChain, tUn, rU, L2.start, cx_K, bk_K, cx_calm, bk_calm, lenV_str, and_assoc, Option.join, List.length_map, List.length_append, decide_eq_true_eq, Bool.false_eq_true, if_false, if_true, Bool.not_true, Bool.not_false, Bool.not_eq_true', decide_eq_false_iff_not, Bool.true_eq_false, List.length_cons, List.length_nil, List.map_cons, List.map_nil, List.replicate, List.cons_append, List.nil_append, List.append_nil, List.getElem?_cons_zero, List.getElem?_cons_succ, List.set_cons_zero, List.set_cons_succ, Nat.reduceSub, Nat.reduceAdd, Option.some.injEq, V.int.injEq, V.str.injEq, V.bl.injEq, V.ref.injEq, List.cons.injEq, and_true, true_and, exists_eq_left', exists_eq_left, exists_and_left, exists_eq_right, exists_const, spName]
     refine ⟨⟨by decide, by decide⟩, ⟨by decide, by decide⟩, by decide, fun n3 g3 => ?_⟩
     exact ⟨p, _, _, rfl, rfl, zB, (by show 2 < sizeLine; decide), hN _ _ ⟨(fin n3 g3).1, (fin n3 g3).2, _, _, _, _, rfl⟩⟩
 · obtain ⟨e, hp2, a', b, c, d, rfl⟩ := h
   simp only [tSeq, tFor_eq, tLC_eq, iRng1, iRng2, iList, iTup, iStr, tIfS, tRet, tRetN, tNext, tAsg, gName, tVar, tC, tOp, rI0, rI, tTest, tB, rEq, rNe, tCall, tCons, tNil, tCB, tLst, tTup, tAnd, tOr, tNot, tAndV, tOrV, tNotV, tIf, tDrop, tSl, tPart, tNoPart, tChain, tUn, rU, L2.start, cx_K, bk_K, cx_calm, bk_calm, lenV_str, and_assoc, Option.join, List.length_map, List.length_append, decide_eq_true_eq, Bool.false_eq_true, if_false, if_true, Bool.not_true, Bool.not_false, Bool.not_eq_true', decide_eq_false_iff_not, Bool.true_eq_false, List.length_cons, List.length_nil, List.map_cons, List.map_nil, List.replicate, List.cons_append, List.nil_append, List.append_nil, List.getElem?_cons_zero, List.getElem?_cons_succ, List.set_cons_zero, List.set_cons_succ, Nat.reduceSub, Nat.reduceAdd, Option.some.injEq, V.int.injEq, V.str.injEq, V.bl.injEq, V.ref.injEq, List.cons.injEq, and_true, true_and, exists_eq_left', exists_eq_left, exists_and_left, exists_eq_right, exists_const]
   exact q p H' e hp2
theorem ok_leaf (bi : Bi mg) (F : Fun K "_law_leaf" "_law_leaf" s_m f fd) : FnOk P w K mg base CX0 1 f fd ["cell", "pool"] (spLeaf K) := by
 refine F.ok sc_m (fun vs H Q E h => ?_) (fun cdv A outer s H vs Q E hr h => ?_)
 · obtain ⟨c, p, rfl, _⟩ := h
   rfl
 obtain ⟨c, p, rfl, ⟨x, y, z, gx, gy, gz, hp⟩, q⟩ := h
 refine ⟨_, (zC (zM (i := 2) sc_m.nd rfl (Or.inl rfl) (zJ op_mod (pv 0) zD)) (zC (zU (zK op_eq (pv 2) zD (zP _)) (zE (zN (yE (zA zQ pa_nil)))) pss_nil) (zC (zU (zK op_eq (pv 2) zD (zP _)) (zE (zN (yE (zA zQ pa_nil)))) pss_nil) (zE (zN (yE (zA zQ (zA (yA ix_list (pv 1) (zJ op_mod (zJ op_fdiv (pv 0) zD) (zO call_len rfl bi.len bt_len (zA (pv 1) pa_nil))) (fun _ _ => rfl)) pa_nil)))))))), ?_⟩
 have leaf : ∀ (w : Str), Sh w 0 -> ∀ a, H a = none -> Q (.ref a) (upd H a (.tup [.str w])) := fun w hw a ha =>
   q (.ref a) (.node w []) _ (zF ha _) (TAt.mkNode zB rfl) ⟨hw, rfl⟩ rfl
 refine zI fun N hN => ?_
 simp only [tSeq, tFor_eq, tLC_eq, iRng1, iRng2, iList, iTup, iStr, tIfS, tRet, tRetN, tNext, tAsg, gName, tVar, tC, tOp, rI0, rI, tTest, tB, rEq, rNe, tCall, tCons, tNil, tCB, tLst, tTup, tAnd, tOr, tNot, tAndV, tOrV, tNotV, tIf, tDrop, tSl, tPart, tNoPart, tChain, tUn, rU, L2.start, cx_K, bk_K, cx_calm, bk_calm, lenV_str, and_assoc, Option.join, List.length_map, List.length_append, decide_eq_true_eq, Bool.false_eq_true, if_false, if_true, Bool.not_true, Bool.not_false, Bool.not_eq_true', decide_eq_false_iff_not, Bool.true_eq_false, List.length_cons, List.length_nil, List.map_cons, List.map_nil, List.replicate, List.cons_append, List.nil_append, List.append_nil, List.getElem?_cons_zero, List.getElem?_cons_succ, List.set_cons_zero, List.set_cons_succ, Nat.reduceSub, Nat.reduceAdd, Option.some.injEq, V.int.injEq, V.str.injEq, V.bl.injEq, V.ref.injEq, List.cons.injEq, and_true, true_and, exists_eq_left', exists_eq_left, exists_and_left, exists_eq_right, exists_const]
 refine ⟨by decide, hN _ _ ?_⟩
 simp only [tSeq, tFor_eq, tLC_eq, iRng1, iRng2, iList, iTup, iStr, tIfS, tRet, tRetN, tNext, tAsg, gName, tVar, tC, tOp, rI0, rI, tTest, tB, rEq, rNe, tCall, tCons, tNil, tCB, tLst, tTup, tAnd, tOr, tNot, tAndV, tOrV, tNotV, tIf, tDrop, tSl, tPart, tNoPart, tChain, tUn, rU, L2.start, cx_K, bk_K, cx_calm, bk_calm, lenV_str, and_assoc, Option.join, List.length_map, List.length_append, decide_eq_true_eq, Bool.false_eq_true, if_false, if_true, Bool.not_true, Bool.not_false, Bool.not_eq_true', decide_eq_false_iff_not, Bool.true_eq_false, List.length_cons, List.length_nil, List.map_cons, List.map_nil, List.replicate, List.cons_append, List.nil_append, List.append_nil, List.getElem?_cons_zero, List.getElem?_cons_succ, List.set_cons_zero, List.set_cons_succ, Nat.reduceSub, Nat.reduceAdd, Option.some.injEq, V.int.injEq, V.str.injEq, V.bl.injEq, V.ref.injEq, List.cons.injEq, and_true, true_and, exists_eq_left', exists_eq_left, exists_and_left, exists_eq_right, exists_const]
 refine ⟨rfl, ?_⟩
 split
 · exact ⟨zV (by decide), fun a ha => leaf _ (.inl ⟨rfl, rfl⟩) a ha⟩
 refine ⟨rfl, ?_⟩
 split
 · exact ⟨zV (by decide), fun a ha => leaf _ (.inr (.inl ⟨rfl, rfl⟩)) a ha⟩
 refine ⟨⟨by decide, by decide⟩, 3, .inl ⟨_, SqL.of hp, rfl⟩, by decide, ?_⟩
 obtain ⟨n, gn, hn⟩ : ∃ n : Str, Nm n /\ atI [V.str x, V.str y, V.str z] (c / 8 % 3) = some (.str n) := by
   have h3 : 0 <= c / 8 % 3 /\ c / 8 % 3 < 3 := by omega
   generalize c / 8 % 3 = k at h3
   have : k = 0 \/ k = 1 \/ k = 2 := by omega
   rcases this with rfl | rfl | rfl
   · exact ⟨x, gx, rfl⟩
   · exact ⟨y, gy, rfl⟩
   · exact ⟨z, gz, rfl⟩
 refine ⟨p, _, _, _, rfl, rfl, SqL.of hp, hn, zV (by decide), fun a ha => ?_⟩
 exact q (.ref a) (.name n) _ (zF ha _) (TAt.mkName zB) gn rfl
theorem whole_fit {ts : List Tm} {m : Nat} (hne : ts ≠ []) (hf : ∀ t ∈ ts, Fit 17 t) (hw : wts ts <= m) : Fit 18 (whole ts) /\ wt (whole ts) <= m + 1 := by
 match ts, hne with
 | [t], _ =>
   refine ⟨(hf t (by simp)).up, ?_⟩
   rw [wts, wts] at hw
   show wt t <= m + 1
   omega
 | t :: u :: r, _ =>
   exact ⟨⟨.inr (.inr (.inr (.inl ⟨rfl, by simp⟩))), hf⟩, by show wt (.node "both" (t :: u :: r)) <= m + 1; rw [wt]; omega⟩
theorem ok_whole (bi : Bi mg) (F : Fun K "_law_whole_term" "_law_whole_term" s_b f fd) : FnOk P w K mg base CX0 1 f fd ["stack"] spWhole := by
 refine F.ok sc_b (fun vs H Q E h => ?_) (fun cdv A outer s H vs Q E hr h => ?_)
 · obtain ⟨a, vs', ts, m, rfl, _⟩ := h
   rfl
 obtain ⟨a, vs', ts, m, rfl, hl, ht, hne, hf, hw, hm, q⟩ := h
 have wf := whole_fit hne hf hw
 have hlen := ht.length
 have hle := wts_len ts
 refine ⟨_, (zC (zU (zK op_eq (zO call_len rfl bi.len bt_len (zA (pv 0) pa_nil)) zD (zP _)) (zE (zN (yA ix_list (pv 0) zD (fun _ _ => rfl)))) pss_nil) (zE (zN (zJ op_catT (yE (zA zQ pa_nil)) (yU call_tuple_of rfl bi.tuple bt_tuple (zA (pv 0) pa_nil)))))), ?_⟩
 simp only [tSeq, tFor_eq, tLC_eq, iRng1, iRng2, iList, iTup, iStr, tIfS, tRet, tRetN, tNext, tAsg, gName, tVar, tC, tOp, rI0, rI, tTest, tB, rEq, rNe, tCall, tCons, tNil, tCB, tLst, tTup, tAnd, tOr, tNot, tAndV, tOrV, tNotV, tIf, tDrop, tSl, tPart, tNoPart, tChain, tUn, rU, L2.start, cx_K, bk_K, cx_calm, bk_calm, lenV_str, and_assoc, Option.join, List.length_map, List.length_append, decide_eq_true_eq, Bool.false_eq_true, if_false, if_true, Bool.not_true, Bool.not_false, Bool.not_eq_true', decide_eq_false_iff_not, Bool.true_eq_false, List.length_cons, List.length_nil, List.map_cons, List.map_nil, List.replicate, List.cons_append, List.nil_append, List.append_nil, List.getElem?_cons_zero, List.getElem?_cons_succ, List.set_cons_zero, List.set_cons_succ, Nat.reduceSub, Nat.reduceAdd, Option.some.injEq, V.int.injEq, V.str.injEq, V.bl.injEq, V.ref.injEq, List.cons.injEq, and_true, true_and, exists_eq_left', exists_eq_left, exists_and_left, exists_eq_right, exists_const]
 refine ⟨_, .inl ⟨_, SqL.of hl, rfl⟩, rfl, ?_⟩
 split
 · rename_i h1
   have h1 : ts.length = 1 := by omega
   match ts, h1 with
   | [t], _ =>
     obtain ⟨v, r, e1, e2, e3⟩ := ht
     have e3 : r = [] := e3
     subst e3; subst e1
     exact ⟨a, _, 0, v, rfl, rfl, SqL.of hl, rfl, q v H (Same.refl H) e2 wf.1 wf.2⟩
 · rename_i h1
   refine ⟨zV (by decide), fun p hp => ⟨vs', .inl ⟨SqL.of (zF hp _ _ _ hl), fun b hb => ?_⟩⟩⟩
   have hpb : p ≠ b := zS zB hb
   have e1 : upd (upd H p (.tup [.str "both"])) b (.tup vs') p = some (.tup [.str "both"]) := by rw [zH hpb]; exact zB
   refine ⟨p, b, [.str "both"], vs', rfl, rfl, SqT.of e1, SqT.of zB, by simp, zV (by simp; omega), fun e => ?_, fun _ d hd => ?_⟩
   · exact absurd (by rw [← hlen, e]; rfl) (fun z : ts.length = 0 => hne (List.eq_nil_of_length_eq_zero z))
   · have sm : Same H (upd (upd (upd H p (.tup [.str "both"])) b (.tup vs')) d (.tup ([.str "both"] ++ vs'))) := ((zF hp _).trans (zF hb _)).trans (zF hd _)
     have ew : whole ts = .node "both" ts := by
       match ts, hne, h1, hlen with
       | [t], _, h1, hlen => exact absurd (by rw [hlen]; rfl) h1
       | t :: u :: r, _, _, _ => rfl
     refine q _ _ sm ?_ wf.1 wf.2
     rw [ew]
     exact TAt.mkNode (vs := vs') zB (DAts.same sm ht)
end
def FD : List Tm -> List Int -> Prop
 | [], ds => ds = []
 | t :: ts, ds => ∃ d r, ds = d :: r /\ 0 <= d /\ d <= 17 /\ Fit d.toNat t /\ FD ts r
theorem FD.length : ∀ {ts : List Tm} {ds : List Int}, FD ts ds -> ds.length = ts.length
 | [], ds, h => by
   have h : ds = [] := h
   rw [h]
   rfl
 | t :: ts, ds, h => by
   obtain ⟨d, r, e, _, _, _, h⟩ := h
   rw [e, List.length_cons, List.length_cons, FD.length h]
theorem FD.append : ∀ {ts us : List Tm} {ds es : List Int}, FD ts ds -> FD us es -> FD (ts ++ us) (ds ++ es)
 | [], us, ds, es, h, h' => by
   have h : ds = [] := h
   subst h
   exact h'
 | t :: ts, us, ds, es, h, h' => by
   obtain ⟨d, r, e, a, b, c, h⟩ := h
   subst e
   exact ⟨d, r ++ es, rfl, a, b, c, FD.append h h'⟩
theorem FD.take : ∀ {ts : List Tm} {ds : List Int} (n : Nat), FD ts ds -> FD (ts.take n) (ds.take n)
 | ts, ds, 0, _ => rfl
 | [], ds, n + 1, h => by
   have h : ds = [] := h
   subst h
   rfl
 | t :: ts, ds, n + 1, h => by
   obtain ⟨d, r, e, a, b, c, h⟩ := h
   subst e
   exact ⟨d, r.take n, rfl, a, b, c, FD.take n h⟩
theorem FD.drop : ∀ {ts : List Tm} {ds : List Int} (n : Nat), FD ts ds -> FD (ts.drop n) (ds.drop n)
 | ts, ds, 0, h => by simpa using h
 | [], ds, n + 1, h => by
   have h : ds = [] := h
   subst h
   rfl
 | t :: ts, ds, n + 1, h => by
   obtain ⟨d, r, e, a, b, c, h⟩ := h
   subst e
   simpa using FD.drop n h
theorem FD.one {t : Tm} {d : Int} (h0 : 0 <= d) (h1 : d <= 17) (h : Fit d.toNat t) : FD [t] [d] := ⟨d, [], rfl, h0, h1, h, rfl⟩
theorem FD.fit : ∀ {ts : List Tm} {ds : List Int} {t : Tm}, FD ts ds -> t ∈ ts -> ∃ d ∈ ds, 0 <= d /\ d <= 17 /\ Fit d.toNat t
 | u :: ts, ds, t, h, ht => by
   obtain ⟨d, r, e, a, b, c, h⟩ := h
   subst e
   rcases List.mem_cons.mp ht with rfl | ht
   · exact ⟨d, by simp, a, b, c⟩
   · obtain ⟨d', h1, h2⟩ := FD.fit h ht
     exact ⟨d', by simp [h1], h2⟩
structure StkAt (H : Hp) (sa da : Addr) (ts : List Tm) (ds : List Int) : Prop where
 ne : sa ≠ da
 st : ∃ vs, H sa = some (.lst vs) /\ TAts H ts vs
 dp : H da = some (.lst (ds.map V.int))
 fd : FD ts ds
def StkInv (H : Hp) (c p : Addr) (m : Nat) (σ : St) (H' : Hp) : Prop := Same H H' /\ ∃ (sa da : Addr) (ts : List Tm) (ds : List Int) (o1 o2 o3 o4 : Option V), H sa = none /\ H da = none /\ StkAt H' sa da ts ds /\ wts ts <= m /\ σ = [some (V.ref c), some (V.ref p), some (V.ref sa), some (V.ref da), o1, o2, o3, o4]
theorem StkAt.same {H H' : Hp} {sa da : Addr} {ts : List Tm} {ds : List Int} (e : Same H H') (h : StkAt H sa da ts ds) : StkAt H' sa da ts ds := by
 obtain ⟨vs, h1, h2⟩ := h.st
 exact ⟨h.ne, ⟨vs, e _ _ h1, TAts.tups e.tups h2⟩, e _ _ h.dp, h.fd⟩
theorem qC {α : Type} {l : List α} (h : l ≠ []) : ∃ r x, l = r ++ [x] := ⟨l.dropLast, l.getLast h, (List.dropLast_concat_getLast h).symm⟩
theorem jQ {α : Type} (r : List α) (x : α) : (r ++ [x])[(r ++ [x]).length - 1]? = some x := by
 rw [List.length_append, List.length_singleton, Nat.add_sub_cancel, List.getElem?_append_right (Nat.le_refl _), Nat.sub_self]
 rfl
theorem StkAt.top {H : Hp} {sa da : Addr} {ts : List Tm} {ds : List Int} (h : StkAt H sa da ts ds) (hne : ts ≠ []) :
   ∃ ts' t ds' d vs' v, ts = ts' ++ [t] /\ ds = ds' ++ [d] /\ H sa = some (.lst (vs' ++ [v])) /\ TAts H ts' vs' /\ TAt H t v /\ FD ts' ds' /\ 0 <= d /\ d <= 17 /\ Fit d.toNat t := by
 obtain ⟨ts', t, rfl⟩ := qC hne
 obtain ⟨vs, h1, h2⟩ := h.st
 have hl := h2.length
 have hd := h.fd.length
 have hvs : vs ≠ [] := by intro z; subst z; simp at hl
 have hds : ds ≠ [] := by intro z; subst z; simp at hd
 obtain ⟨vs', v, rfl⟩ := qC hvs
 obtain ⟨ds', d, rfl⟩ := qC hds
 have l1 : vs'.length = ts'.length := by simpa using hl
 have l2 : ds'.length = ts'.length := by simpa using hd
 have a1 := TAts.take ts'.length h2
 have a2 := TAts.drop ts'.length h2
 have b1 := FD.take ts'.length h.fd
 have b2 := FD.drop ts'.length h.fd
 rw [List.take_left, ← l1, List.take_left] at a1
 rw [List.drop_left, ← l1, List.drop_left] at a2
 rw [List.take_left, ← l2, List.take_left] at b1
 rw [List.drop_left, ← l2, List.drop_left] at b2
 obtain ⟨u, r, e1, e2, e3⟩ := a2
 obtain ⟨d', r', e4, p1, p2, p3, p4⟩ := b2
 cases e1; cases e4
 exact ⟨ts', t, ds', d, vs', v, rfl, rfl, h1, a1, e2, b1, p1, p2, p3⟩
theorem last_int (ds' : List Int) (d : Int) : atI ((ds' ++ [d]).map V.int) (-1) = some (.int d) := by
 rw [List.map_append]
 exact atI_last _ _
theorem jN (xs : List V) (k : Nat) (h1 : 1 <= k) (h : k <= xs.length) : yO xs (some (-(k : Int))) none = xs.drop (xs.length - k) := by
 unfold yO
 have e : HT.sIx xs.length 0 (some (-(k : Int))) = xs.length - k := by
   unfold HT.sIx
   simp only
   rw [if_pos (by omega)]
   omega
 rw [e, HT.sIx_none, List.take_of_length_le (by rw [List.length_drop]; omega)]
theorem cut_init (xs : List V) (k : Nat) (h1 : 1 <= k) (h : k <= xs.length) : yO xs none (some (-(k : Int))) = xs.take (xs.length - k) := by
 unfold yO
 have e : HT.sIx xs.length xs.length (some (-(k : Int))) = xs.length - k := by
   unfold HT.sIx
   simp only
   rw [if_pos (by omega)]
   omega
 rw [e, HT.sIx_none, List.drop_zero, Nat.sub_zero]
section
variable {P : Program} {w : World} {K : PySem.W.Frag} {mg : Str -> Option Value} {base : Heap} {f : Addr} {fd : FuncData}
theorem ok_stack (bi : Bi mg) (h_m : Has P w K mg base 1 "_law_leaf" ["cell", "pool"] (spLeaf K))
   (F : Fun K "_law_stack" "_law_stack" s_g f fd) : FnOk P w K mg base CX0 2 f fd ["cells", "pool"] (xU K) := by
 refine F.ok sc_g (fun vs H Q E h => ?_) (fun cdv A outer s H vs Q E hr h => ?_)
 · obtain ⟨c, p, ns, rfl, _⟩ := h
   rfl
 obtain ⟨c, p, ns, rfl, hS, h63, hP, q⟩ := h
 refine ⟨_, (zC (zM (i := 2) sc_g.nd rfl (Or.inl rfl) (yM pa_nil)) (zC (zM (i := 3) sc_g.nd rfl (Or.inl rfl) (yM pa_nil)) (zC (yZ PassesOwn.never rfl (qG (pv 0)) (yP (i := 4) sc_g.nd rfl (Or.inl rfl)) (zC (zM (i := 5) sc_g.nd rfl (Or.inl rfl) (zJ op_mod (pv 4) zD)) (zE (zU (PW.pt (jF (zK op_eq (pv 5) zD (zP _)) (jF (zK op_gt (zO call_len rfl bi.len bt_len (zA (pv 2) pa_nil)) zD (zP _)) (pw_and1 (zK op_lt (yA ix_list (pv 3) (pe_un un_neg zD) (fun _ _ => rfl)) zD (zP _)))))) (zC (yD (yQ PySem.F.plainAttrs_list PySem.F.slot_list_append PySem.F.type_list_append mt_append (pv 2) (zA (yE (zA zQ (zA (pe_bm0 PySem.F.plainAttrs_list PySem.F.slot_list_pop PySem.F.type_list_pop mt_pop (pv 2)) pa_nil))) pa_nil))) (zE (yD (yQ PySem.F.plainAttrs_list PySem.F.slot_list_append PySem.F.type_list_append mt_append (pv 3) (zA (zJ op_add (pe_bm0 PySem.F.plainAttrs_list PySem.F.slot_list_pop PySem.F.type_list_pop mt_pop (pv 3)) zD) pa_nil))))) (zE (zU (PW.pt (jF (zK op_lt (pv 5) zD (zP _)) (jF (zK op_gt (pv 5) zD (zP _)) (jF (zK op_gt (zO call_len rfl bi.len bt_len (zA (pv 2) pa_nil)) (zJ op_add (zJ op_fdiv (pv 5) zD) zD) (zP _)) (pw_and1 (zK op_lt (zO call_maxI rfl bi.max bt_max (zA (yH sl_list (pv 3) (yG (zJ op_sub (zJ op_sub zD zD) (zJ op_fdiv (pv 5) zD))) po_none) pa_nil)) zD (zP _))))))) (zC (zM (i := 6) sc_g.nd rfl (Or.inl rfl) (yH sl_list (pv 2) (yG (zJ op_sub (zJ op_sub zD zD) (zJ op_fdiv (pv 5) zD))) po_none)) (zC (zM (i := 7) sc_g.nd rfl (Or.inl rfl) (zO call_maxI rfl bi.max bt_max (zA (yH sl_list (pv 3) (yG (zJ op_sub (zJ op_sub zD zD) (zJ op_fdiv (pv 5) zD))) po_none) pa_nil))) (zC (zM (i := 2) sc_g.nd rfl (Or.inl rfl) (zJ op_cat (yH sl_list (pv 2) po_none (yG (zJ op_sub (zJ op_sub zD zD) (zJ op_fdiv (pv 5) zD)))) (yM (zA (zJ op_catT (yE (zA (yA ix_list (yM (zA zQ (zA zQ pa_nil))) (zJ op_mod (pv 5) zD) (fun _ _ => rfl)) pa_nil)) (yU call_tuple_of rfl bi.tuple bt_tuple (zA (pv 6) pa_nil))) pa_nil)))) (zE (zM (i := 3) sc_g.nd rfl (Or.inl rfl) (zJ op_cat (yH sl_list (pv 3) po_none (yG (zJ op_sub (zJ op_sub zD zD) (zJ op_fdiv (pv 5) zD)))) (yM (zA (zJ op_add (pv 7) zD) pa_nil)))))))) (zC (yD (yQ PySem.F.plainAttrs_list PySem.F.slot_list_append PySem.F.type_list_append mt_append (pv 2) (zA (zL h_m (hr.mono (by omega)) rfl (zA (zJ op_fdiv (pv 4) zD) (zA (pv 1) pa_nil))) pa_nil))) (zE (yD (yQ PySem.F.plainAttrs_list PySem.F.slot_list_append PySem.F.type_list_append mt_append (pv 3) (zA zD pa_nil))))))))))) (zC (zU (zK op_eq (zO call_len rfl bi.len bt_len (zA (pv 2) pa_nil)) zD (zP _)) (zE (yD (yQ PySem.F.plainAttrs_list PySem.F.slot_list_append PySem.F.type_list_append mt_append (pv 2) (zA (yE (zA zQ pa_nil)) pa_nil)))) pss_nil) (zE (zN (pv 2))))))), ?_⟩
 refine zI fun N hN => ?_
 simp only [tSeq, tFor_eq, tLC_eq, iRng1, iRng2, iList, iTup, iStr, tIfS, tRet, tRetN, tNext, tAsg, gName, tVar, tC, tOp, rI0, rI, tTest, tB, rEq, rNe, tCall, tCons, tNil, tCB, tLst, tTup, tAnd, tOr, tNot, tAndV, tOrV, tNotV, tIf, tDrop, tSl, tPart, tNoPart, tChain, tUn, rU, L2.start, cx_K, bk_K, cx_calm, bk_calm, lenV_str, and_assoc, Option.join, List.length_map, List.length_append, decide_eq_true_eq, Bool.false_eq_true, if_false, if_true, Bool.not_true, Bool.not_false, Bool.not_eq_true', decide_eq_false_iff_not, Bool.true_eq_false, List.length_cons, List.length_nil, List.map_cons, List.map_nil, List.replicate, List.cons_append, List.nil_append, List.append_nil, List.getElem?_cons_zero, List.getElem?_cons_succ, List.set_cons_zero, List.set_cons_succ, Nat.reduceSub, Nat.reduceAdd, Option.some.injEq, V.int.injEq, V.str.injEq, V.bl.injEq, V.ref.injEq, List.cons.injEq, and_true, true_and, exists_eq_left', exists_eq_left, exists_and_left, exists_eq_right, exists_const]
 refine ⟨zV (by decide), fun sa0 hsa0 => hN _ _ ?_⟩
 refine zI fun N hN => ?_
 simp only [tSeq, tFor_eq, tLC_eq, iRng1, iRng2, iList, iTup, iStr, tIfS, tRet, tRetN, tNext, tAsg, gName, tVar, tC, tOp, rI0, rI, tTest, tB, rEq, rNe, tCall, tCons, tNil, tCB, tLst, tTup, tAnd, tOr, tNot, tAndV, tOrV, tNotV, tIf, tDrop, tSl, tPart, tNoPart, tChain, tUn, rU, L2.start, cx_K, bk_K, cx_calm, bk_calm, lenV_str, and_assoc, Option.join, List.length_map, List.length_append, decide_eq_true_eq, Bool.false_eq_true, if_false, if_true, Bool.not_true, Bool.not_false, Bool.not_eq_true', decide_eq_false_iff_not, Bool.true_eq_false, List.length_cons, List.length_nil, List.map_cons, List.map_nil, List.replicate, List.cons_append, List.nil_append, List.append_nil, List.getElem?_cons_zero, List.getElem?_cons_succ, List.set_cons_zero, List.set_cons_succ, Nat.reduceSub, Nat.reduceAdd, Option.some.injEq, V.int.injEq, V.str.injEq, V.bl.injEq, V.ref.injEq, List.cons.injEq, and_true, true_and, exists_eq_left', exists_eq_left, exists_and_left, exists_eq_right, exists_const]
 refine ⟨zV (by decide), fun da0 hda0 => hN _ _ ?_⟩
 have nda0 : H da0 = none := (zF hsa0 _).free hda0
 refine zZ (StkInv H c p ns.length) (fun N hN => ?_) (fun σ H' h => ?_)
 · simp only [tSeq, tFor_eq, tLC_eq, iRng1, iRng2, iList, iTup, iStr, tIfS, tRet, tRetN, tNext, tAsg, gName, tVar, tC, tOp, rI0, rI, tTest, tB, rEq, rNe, tCall, tCons, tNil, tCB, tLst, tTup, tAnd, tOr, tNot, tAndV, tOrV, tNotV, tIf, tDrop, tSl, tPart, tNoPart, tChain, tUn, rU, L2.start, cx_K, bk_K, cx_calm, bk_calm, lenV_str, and_assoc, Option.join, List.length_map, List.length_append, decide_eq_true_eq, Bool.false_eq_true, if_false, if_true, Bool.not_true, Bool.not_false, Bool.not_eq_true', decide_eq_false_iff_not, Bool.true_eq_false, List.length_cons, List.length_nil, List.map_cons, List.map_nil, List.replicate, List.cons_append, List.nil_append, List.append_nil, List.getElem?_cons_zero, List.getElem?_cons_succ, List.set_cons_zero, List.set_cons_succ, Nat.reduceSub, Nat.reduceAdd, Option.some.injEq, V.int.injEq, V.str.injEq, V.bl.injEq, V.ref.injEq, List.cons.injEq, and_true, true_and, exists_eq_left', exists_eq_left, exists_and_left, exists_eq_right, exists_const]
   refine ⟨⟨_, Same.seq ((zF hsa0 _).trans (zF hda0 _)) hS⟩, ?_⟩
   refine qI (xs := ns.map V.int) (StkInv H c p) ?_ (fun i σ H' _ h => Same.seq h.1 hS) (fun i x σ H' hx h => ?_) (fun σ H' h => ?_)
   · have hne : sa0 ≠ da0 := zS zB hda0
     exact ⟨(zF hsa0 _).trans (zF hda0 _), sa0, da0, [], [], _, _, _, _, hsa0, nda0, ⟨hne, ⟨[], by rw [zH hne]; exact zB, rfl⟩, zB, rfl⟩, Nat.le_refl _, rfl⟩
   · obtain ⟨hs, sa, da, ts, ds, o1, o2, o3, o4, nsa, nda, sk, hw, rfl⟩ := h
     obtain ⟨n, hn, rfl⟩ : ∃ n, ns[i]? = some n /\ x = .int n := by
       rw [List.getElem?_map] at hx
       cases e : ns[i]? with
       | none => rw [e] at hx; cases hx
       | some n => rw [e] at hx; cases hx; exact ⟨n, rfl, rfl⟩
     have hi63 : i < 63 := by have := (List.getElem?_eq_some_iff.mp hn).1; omega
     have hll := wts_len ts
     have hdl := sk.fd.length
     show tSeq _ _ _ _ _
     refine zI fun N hN => ?_
     simp only [tSeq, tFor_eq, tLC_eq, iRng1, iRng2, iList, iTup, iStr, tIfS, tRet, tRetN, tNext, tAsg, gName, tVar, tC, tOp, rI0, rI, tTest, tB, rEq, rNe, tCall, tCons, tNil, tCB, tLst, tTup, tAnd, tOr, tNot, tAndV, tOrV, tNotV, tIf, tDrop, tSl, tPart, tNoPart, tChain, tUn, rU, L2.start, cx_K, bk_K, cx_calm, bk_calm, lenV_str, and_assoc, Option.join, List.length_map, List.length_append, decide_eq_true_eq, Bool.false_eq_true, if_false, if_true, Bool.not_true, Bool.not_false, Bool.not_eq_true', decide_eq_false_iff_not, Bool.true_eq_false, List.length_cons, List.length_nil, List.map_cons, List.map_nil, List.replicate, List.cons_append, List.nil_append, List.append_nil, List.getElem?_cons_zero, List.getElem?_cons_succ, List.set_cons_zero, List.set_cons_succ, Nat.reduceSub, Nat.reduceAdd, Option.some.injEq, V.int.injEq, V.str.injEq, V.bl.injEq, V.ref.injEq, List.cons.injEq, and_true, true_and, exists_eq_left', exists_eq_left, exists_and_left, exists_eq_right, exists_const]
     refine ⟨by decide, hN _ _ ?_⟩
     refine if_abs fun T U hT hU => ?_
     have fin : ∀ {H1 : Hp} {sa da : Addr} {ts : List Tm} {ds : List Int} {o1 o2 o3 o4 : Option V}, Same H H1 -> H sa = none -> H da = none -> StkAt H1 sa da ts ds -> wts ts <= i + 1 ->
         StkInv H c p (i + 1) [some (V.ref c), some (V.ref p), some (V.ref sa), some (V.ref da), o1, o2, o3, o4] H1 :=
       fun a b d e g => ⟨a, _, _, _, _, _, _, _, _, b, d, e, g, rfl⟩
     have hT' : ∀ H1, Same H' H1 -> ts ≠ [] -> (∀ ds' d, ds = ds' ++ [d] -> d < 17) -> T H1 := by
       intro H1 e1 hne hd17
       refine hT H1 ?_
       obtain ⟨ts', t, ds', d, vs', v, rfl, rfl, hsv, hts', htv, hfd', d0, d1, ft⟩ := (sk.same e1).top hne
       have d17 := hd17 ds' d rfl
       refine zI fun N hN => ?_
       simp only [tSeq, tFor_eq, tLC_eq, iRng1, iRng2, iList, iTup, iStr, tIfS, tRet, tRetN, tNext, tAsg, gName, tVar, tC, tOp, rI0, rI, tTest, tB, rEq, rNe, tCall, tCons, tNil, tCB, tLst, tTup, tAnd, tOr, tNot, tAndV, tOrV, tNotV, tIf, tDrop, tSl, tPart, tNoPart, tChain, tUn, rU, L2.start, cx_K, bk_K, cx_calm, bk_calm, lenV_str, and_assoc, Option.join, List.length_map, List.length_append, decide_eq_true_eq, Bool.false_eq_true, if_false, if_true, Bool.not_true, Bool.not_false, Bool.not_eq_true', decide_eq_false_iff_not, Bool.true_eq_false, List.length_cons, List.length_nil, List.map_cons, List.map_nil, List.replicate, List.cons_append, List.nil_append, List.append_nil, List.getElem?_cons_zero, List.getElem?_cons_succ, List.set_cons_zero, List.set_cons_succ, Nat.reduceSub, Nat.reduceAdd, Option.some.injEq, V.int.injEq, V.str.injEq, V.bl.injEq, V.ref.injEq, List.cons.injEq, and_true, true_and, exists_eq_left', exists_eq_left, exists_and_left, exists_eq_right, exists_const, tBM, tBM0, rAppend, rPop, rIxL, rIxT, rIxS, rSlL, rSlT, rSlS, rCat, rCatT]
       refine ⟨.inl ⟨rfl, _, SqL.of hsv⟩, .inl ⟨rfl, _, SqL.of hsv⟩, _, hsv, v, jQ _ _, zV (by decide), fun q1 hq1 => ?_⟩
       rw [List.dropLast_concat] at hq1 ⊢
       have nq : q1 ≠ sa := fun z => by rw [z, zB] at hq1; cases hq1
       have hq1' : H1 q1 = none := by rw [zH nq] at hq1; exact hq1
       refine ⟨vs', by rw [zH (Ne.symm nq)]; exact zB, ?_, hN _ _ ?_⟩
       · have := hts'.length
         rw [List.length_append, List.length_singleton] at hll
         exact zY (by omega)
       simp only [tSeq, tFor_eq, tLC_eq, iRng1, iRng2, iList, iTup, iStr, tIfS, tRet, tRetN, tNext, tAsg, gName, tVar, tC, tOp, rI0, rI, tTest, tB, rEq, rNe, tCall, tCons, tNil, tCB, tLst, tTup, tAnd, tOr, tNot, tAndV, tOrV, tNotV, tIf, tDrop, tSl, tPart, tNoPart, tChain, tUn, rU, L2.start, cx_K, bk_K, cx_calm, bk_calm, lenV_str, and_assoc, Option.join, List.length_map, List.length_append, decide_eq_true_eq, Bool.false_eq_true, if_false, if_true, Bool.not_true, Bool.not_false, Bool.not_eq_true', decide_eq_false_iff_not, Bool.true_eq_false, List.length_cons, List.length_nil, List.map_cons, List.map_nil, List.replicate, List.cons_append, List.nil_append, List.append_nil, List.getElem?_cons_zero, List.getElem?_cons_succ, List.set_cons_zero, List.set_cons_succ, Nat.reduceSub, Nat.reduceAdd, Option.some.injEq, V.int.injEq, V.str.injEq, V.bl.injEq, V.ref.injEq, List.cons.injEq, and_true, true_and, exists_eq_left', exists_eq_left, exists_and_left, exists_eq_right, exists_const, tBM, tBM0, rAppend, rPop, rIxL, rIxT, rIxS, rSlL, rSlT, rSlS, rCat, rCatT]
       have hda : H1 da = some (.lst ((ds' ++ [d]).map V.int)) := (sk.same e1).dp
       have nqa : da ≠ q1 := zS hda hq1'
       have hda2 : upd (upd (upd H1 sa (.lst vs')) q1 (.tup [.str "not", v])) sa (.lst (vs' ++ [.ref q1])) da = some (.lst (ds'.map V.int ++ [V.int d])) := by
         rw [zH (Ne.symm sk.ne), zH nqa, zH (Ne.symm sk.ne), hda, List.map_append]
         rfl
       refine ⟨.inl ⟨rfl, _, SqL.of hda2⟩, .inl ⟨rfl, _, SqL.of hda2⟩, _, hda2, _, jQ _ _, _, rfl, ds'.map V.int, by rw [List.dropLast_concat]; exact zB, ?_, ?_⟩
       · rw [List.length_append, List.length_singleton] at hdl hll
         rw [List.length_map]
         have : ds'.length = ts'.length := by
           have := hfd'.length
           omega
         rw [List.length_append, List.length_singleton] at hdl
         exact zY (by omega)
       rw [xF]
       have tA : TupSame H1 (upd H1 sa (.lst vs')) := (TupSame.refl _).upd_lst hsv
       have tB : TupSame H1 (upd (upd H1 sa (.lst vs')) q1 (.tup [.str "not", v])) := tA.upd_new hq1
       have hsa3 : upd (upd H1 sa (.lst vs')) q1 (.tup [.str "not", v]) sa = some (.lst vs') := by rw [zH (Ne.symm nq)]; exact zB
       have tC : TupSame H1 (upd (upd (upd H1 sa (.lst vs')) q1 (.tup [.str "not", v])) sa (.lst (vs' ++ [.ref q1]))) := tB.upd_lst hsa3
       have tD := tC.upd_lst (o := .lst (ds'.map V.int ++ [V.int (d + 1)])) hda2
       have hH1 : Same H H1 := hs.trans e1
       have sm : Same H (upd (upd (upd (upd H1 sa (.lst vs')) q1 (.tup [.str "not", v])) sa (.lst (vs' ++ [.ref q1]))) da (.lst (ds'.map V.int ++ [V.int (d + 1)]))) := (((hH1.upd nsa).upd (hH1.free hq1')).upd nsa).upd nda
       refine fin sm nsa nda (ts := ts' ++ [.node "not" [t]]) (ds := ds' ++ [d + 1]) ⟨sk.ne, ⟨vs' ++ [.ref q1], by rw [zH sk.ne]; exact zB, ?_⟩, by rw [zB, List.map_append]; rfl, ?_⟩ ?_
       · refine TAts.append (TAts.tups tD hts') (TAts.one (TAt.mkNode (vs := [v]) ?_ (TAts.one (TAt.tups tD htv))))
         rw [zH (Ne.symm nqa), zH nq]
         exact zB
       · refine FD.append hfd' (FD.one (by omega) (by omega) ?_)
         rw [show (d + 1).toNat = d.toNat + 1 by omega]
         refine ⟨.inr (.inr (.inl ⟨rfl, rfl⟩)), fun u hu => ?_⟩
         rw [List.mem_singleton.mp hu]
         exact ft
       · rw [wts_append] at hw ⊢
         rw [wts, wts] at hw
         rw [wts, wts, wt, wts, wts]
         omega
     have hU' : ∀ H1, Same H' H1 -> U H1 := by
       intro H1 e1
       refine hU H1 ?_
       refine if_abs fun T2 U2 hT2 hU2 => ?_
       have hU2' : ∀ H2, Same H' H2 -> U2 H2 := by
         intro H2 e2
         refine hU2 H2 ?_
         have sk2 := sk.same e2
         obtain ⟨vs, hsv, hts⟩ := sk2.st
         have hlv := hts.length
         refine zI fun N hN => ?_
         simp only [tSeq, tFor_eq, tLC_eq, iRng1, iRng2, iList, iTup, iStr, tIfS, tRet, tRetN, tNext, tAsg, gName, tVar, tC, tOp, rI0, rI, tTest, tB, rEq, rNe, tCall, tCons, tNil, tCB, tLst, tTup, tAnd, tOr, tNot, tAndV, tOrV, tNotV, tIf, tDrop, tSl, tPart, tNoPart, tChain, tUn, rU, L2.start, cx_K, bk_K, cx_calm, bk_calm, lenV_str, and_assoc, Option.join, List.length_map, List.length_append, decide_eq_true_eq, Bool.false_eq_true, if_false, if_true, Bool.not_true, Bool.not_false, Bool.not_eq_true', decide_eq_false_iff_not, Bool.true_eq_false, List.length_cons, List.length_nil, List.map_cons, List.map_nil, List.replicate, List.cons_append, List.nil_append, List.append_nil, List.getElem?_cons_zero, List.getElem?_cons_succ, List.set_cons_zero, List.set_cons_succ, Nat.reduceSub, Nat.reduceAdd, Option.some.injEq, V.int.injEq, V.str.injEq, V.bl.injEq, V.ref.injEq, List.cons.injEq, and_true, true_and, exists_eq_left', exists_eq_left, exists_and_left, exists_eq_right, exists_const, tBM, tBM0, rAppend, rPop, rIxL, rIxT, rIxS, rSlL, rSlT, rSlS, rCat, rCatT, spLeaf]
         refine ⟨.inl ⟨rfl, _, SqL.of hsv⟩, ⟨by decide, by decide⟩, Pool.same (hs.trans e2) hP, fun v t H3 e3 htv ft wt1 => ⟨vs, e3 _ _ hsv, zY (by omega), hN _ _ ?_⟩⟩
         simp only [tSeq, tFor_eq, tLC_eq, iRng1, iRng2, iList, iTup, iStr, tIfS, tRet, tRetN, tNext, tAsg, gName, tVar, tC, tOp, rI0, rI, tTest, tB, rEq, rNe, tCall, tCons, tNil, tCB, tLst, tTup, tAnd, tOr, tNot, tAndV, tOrV, tNotV, tIf, tDrop, tSl, tPart, tNoPart, tChain, tUn, rU, L2.start, cx_K, bk_K, cx_calm, bk_calm, lenV_str, and_assoc, Option.join, List.length_map, List.length_append, decide_eq_true_eq, Bool.false_eq_true, if_false, if_true, Bool.not_true, Bool.not_false, Bool.not_eq_true', decide_eq_false_iff_not, Bool.true_eq_false, List.length_cons, List.length_nil, List.map_cons, List.map_nil, List.replicate, List.cons_append, List.nil_append, List.append_nil, List.getElem?_cons_zero, List.getElem?_cons_succ, List.set_cons_zero, List.set_cons_succ, Nat.reduceSub, Nat.reduceAdd, Option.some.injEq, V.int.injEq, V.str.injEq, V.bl.injEq, V.ref.injEq, List.cons.injEq, and_true, true_and, exists_eq_left', exists_eq_left, exists_and_left, exists_eq_right, exists_const, tBM, tBM0, rAppend, rPop, rIxL, rIxT, rIxS, rSlL, rSlT, rSlS, rCat, rCatT]
         have hda : upd H3 sa (.lst (vs ++ [v])) da = some (.lst (ds.map V.int)) := by rw [zH (Ne.symm sk.ne)]; exact e3 _ _ sk2.dp
         refine ⟨.inl ⟨rfl, _, SqL.of hda⟩, _, hda, by rw [List.length_map]; exact zY (by omega), ?_⟩
         have sm : Same H (upd (upd H3 sa (.lst (vs ++ [v]))) da (.lst (ds.map V.int ++ [V.int 0]))) := (((hs.trans e2).trans e3).upd nsa).upd nda
         have tu : TupSame H3 (upd (upd H3 sa (.lst (vs ++ [v]))) da (.lst (ds.map V.int ++ [V.int 0]))) := ((TupSame.refl _).upd_lst (e3 _ _ hsv)).upd_lst hda
         refine fin sm nsa nda (ts := ts ++ [t]) (ds := ds ++ [0]) ⟨sk.ne, ⟨vs ++ [v], by rw [zH sk.ne]; exact zB, ?_⟩, by rw [zB, List.map_append]; rfl, FD.append sk.fd (FD.one (by omega) (by omega) (show Fit (Int.toNat 0) t from ft))⟩ ?_
         · exact TAts.append (TAts.tups (e3.tups.trans tu) hts) (TAts.one (TAt.tups tu htv))
         · rw [wts_append, wts, wts, wt1]
           omega
       have hT2' : ∀ H2, Same H' H2 -> ∀ k : Nat, (k = 2 \/ k = 3) -> 0 - 2 - n % 9 / 3 = -(k : Int) -> k <= ts.length -> maxI (ds.drop (ds.length - k)) < 17 -> T2 H2 := by
         intro H2 e2 k hk2 hke hk hmx
         refine hT2 H2 ?_
         have sk2 := sk.same e2
         obtain ⟨vs, hsv, hts⟩ := sk2.st
         have hlv := hts.length
         have hlm : (ds.map V.int).length = ds.length := List.length_map _
         have cv : yO (ds.map V.int) (some (-(k : Int))) none = (ds.drop (ds.length - k)).map V.int := by rw [jN _ k (by omega) (by omega), hlm, List.map_drop]
         have cs : yO vs (some (-(k : Int))) none = vs.drop (vs.length - k) := jN _ k (by omega) (by omega)
         have dne : ds.drop (ds.length - k) ≠ [] := by
           intro z
           have := congrArg List.length z
           rw [List.length_drop, List.length_nil] at this
           omega
         refine zI fun N hN => ?_
         simp only [tSeq, tFor_eq, tLC_eq, iRng1, iRng2, iList, iTup, iStr, tIfS, tRet, tRetN, tNext, tAsg, gName, tVar, tC, tOp, rI0, rI, tTest, tB, rEq, rNe, tCall, tCons, tNil, tCB, tLst, tTup, tAnd, tOr, tNot, tAndV, tOrV, tNotV, tIf, tDrop, tSl, tPart, tNoPart, tChain, tUn, rU, L2.start, cx_K, bk_K, cx_calm, bk_calm, lenV_str, and_assoc, Option.join, List.length_map, List.length_append, decide_eq_true_eq, Bool.false_eq_true, if_false, if_true, Bool.not_true, Bool.not_false, Bool.not_eq_true', decide_eq_false_iff_not, Bool.true_eq_false, List.length_cons, List.length_nil, List.map_cons, List.map_nil, List.replicate, List.cons_append, List.nil_append, List.append_nil, List.getElem?_cons_zero, List.getElem?_cons_succ, List.set_cons_zero, List.set_cons_succ, Nat.reduceSub, Nat.reduceAdd, Option.some.injEq, V.int.injEq, V.str.injEq, V.bl.injEq, V.ref.injEq, List.cons.injEq, and_true, true_and, exists_eq_left', exists_eq_left, exists_and_left, exists_eq_right, exists_const, tBM, tBM0, rAppend, rPop, rIxL, rIxT, rIxS, rSlL, rSlT, rSlS, rCat, rCatT]
         refine ⟨⟨by decide, by decide⟩, vs, SqL.of hsv, fun pa hpa => hN _ _ ?_⟩
         rw [hke, cs]
         refine zI fun N hN => ?_
         simp only [tSeq, tFor_eq, tLC_eq, iRng1, iRng2, iList, iTup, iStr, tIfS, tRet, tRetN, tNext, tAsg, gName, tVar, tC, tOp, rI0, rI, tTest, tB, rEq, rNe, tCall, tCons, tNil, tCB, tLst, tTup, tAnd, tOr, tNot, tAndV, tOrV, tNotV, tIf, tDrop, tSl, tPart, tNoPart, tChain, tUn, rU, L2.start, cx_K, bk_K, cx_calm, bk_calm, lenV_str, and_assoc, Option.join, List.length_map, List.length_append, decide_eq_true_eq, Bool.false_eq_true, if_false, if_true, Bool.not_true, Bool.not_false, Bool.not_eq_true', decide_eq_false_iff_not, Bool.true_eq_false, List.length_cons, List.length_nil, List.map_cons, List.map_nil, List.replicate, List.cons_append, List.nil_append, List.append_nil, List.getElem?_cons_zero, List.getElem?_cons_succ, List.set_cons_zero, List.set_cons_succ, Nat.reduceSub, Nat.reduceAdd, Option.some.injEq, V.int.injEq, V.str.injEq, V.bl.injEq, V.ref.injEq, List.cons.injEq, and_true, true_and, exists_eq_left', exists_eq_left, exists_and_left, exists_eq_right, exists_const, tBM, tBM0, rAppend, rPop, rIxL, rIxT, rIxS, rSlL, rSlT, rSlS, rCat, rCatT]
         have eA : Same H2 (upd H2 pa (.lst (vs.drop (vs.length - k)))) := zF hpa _
         refine ⟨⟨by decide, by decide⟩, _, SqL.of (eA _ _ sk2.dp), fun pb hpb => ?_⟩
         rw [hke, cv]
         refine ⟨_, SqL.of zB, dne, hN _ _ ?_⟩
         have eB : Same H2 (upd (upd H2 pa (.lst (vs.drop (vs.length - k)))) pb (.lst ((ds.drop (ds.length - k)).map V.int))) := eA.trans (zF hpb _)
         generalize hH3 : upd (upd H2 pa (.lst (vs.drop (vs.length - k)))) pb (.lst ((ds.drop (ds.length - k)).map V.int)) = H3 at eB
         have hpa3 : H3 pa = some (.lst (vs.drop (vs.length - k))) := by rw [← hH3, zH (zS zB hpb)]; exact zB
         have ci : yO vs none (some (-(k : Int))) = vs.take (vs.length - k) := cut_init _ k (by omega) (by omega)
         have cd : yO (ds.map V.int) none (some (-(k : Int))) = (ds.take (ds.length - k)).map V.int := by rw [cut_init _ k (by omega) (by omega), hlm, List.map_take]
         refine zI fun N hN => ?_
         simp only [tSeq, tFor_eq, tLC_eq, iRng1, iRng2, iList, iTup, iStr, tIfS, tRet, tRetN, tNext, tAsg, gName, tVar, tC, tOp, rI0, rI, tTest, tB, rEq, rNe, tCall, tCons, tNil, tCB, tLst, tTup, tAnd, tOr, tNot, tAndV, tOrV, tNotV, tIf, tDrop, tSl, tPart, tNoPart, tChain, tUn, rU, L2.start, cx_K, bk_K, cx_calm, bk_calm, lenV_str, and_assoc, Option.join, List.length_map, List.length_append, decide_eq_true_eq, Bool.false_eq_true, if_false, if_true, Bool.not_true, Bool.not_false, Bool.not_eq_true', decide_eq_false_iff_not, Bool.true_eq_false, List.length_cons, List.length_nil, List.map_cons, List.map_nil, List.replicate, List.cons_append, List.nil_append, List.append_nil, List.getElem?_cons_zero, List.getElem?_cons_succ, List.set_cons_zero, List.set_cons_succ, Nat.reduceSub, Nat.reduceAdd, Option.some.injEq, V.int.injEq, V.str.injEq, V.bl.injEq, V.ref.injEq, List.cons.injEq, and_true, true_and, exists_eq_left', exists_eq_left, exists_and_left, exists_eq_right, exists_const, tBM, tBM0, rAppend, rPop, rIxL, rIxT, rIxS, rSlL, rSlT, rSlS, rCat, rCatT]
         refine ⟨⟨by decide, by decide⟩, vs, SqL.of (eB _ _ hsv), fun p1 hp1 => ⟨zV (by decide), fun p2 hp2 => ⟨by decide, ?_⟩⟩⟩
         rw [hke, ci] at hp2 ⊢
         have e4 : Same H3 (upd H3 p1 (.lst (vs.take (vs.length - k)))) := zF hp1 _
         have hp1a : upd H3 p1 (.lst (vs.take (vs.length - k))) p1 = some (.lst (vs.take (vs.length - k))) := zB
         generalize upd H3 p1 (.lst (vs.take (vs.length - k))) = H4 at hp2 e4 hp1a ⊢
         obtain ⟨wd, hwd, hwi⟩ : ∃ wd : Str, (wd = "both" \/ wd = "either") /\ atI [V.str "both", V.str "either"] (n % 9 % 2) = some (.str wd) := by
           have h2 : 0 <= n % 9 % 2 /\ n % 9 % 2 < 2 := by omega
           generalize n % 9 % 2 = j at h2
           have : j = 0 \/ j = 1 := by omega
           rcases this with rfl | rfl
           · exact ⟨"both", .inl rfl, rfl⟩
           · exact ⟨"either", .inr rfl, rfl⟩
         refine ⟨_, SqL.of zB, _, hwi, zV (by decide), fun p3 hp3 => ?_⟩
         have e5 : Same H4 (upd H4 p2 (.lst [.str "both", .str "either"])) := zF hp2 _
         generalize upd H4 p2 (.lst [.str "both", .str "either"]) = H5 at hp3 e5 ⊢
         have e6 : Same H5 (upd H5 p3 (.tup [.str wd])) := zF hp3 _
         have h63' : upd H5 p3 (.tup [.str wd]) p3 = some (.tup [.str wd]) := zB
         generalize upd H5 p3 (.tup [.str wd]) = H6 at e6 h63' ⊢
         have e36 : Same H3 H6 := (e4.trans e5).trans e6
         refine ⟨vs.drop (vs.length - k), .inl ⟨SqL.of (e36 _ _ hpa3), fun p4 hp4 => ?_⟩⟩
         have e7 : Same H6 (upd H6 p4 (.tup (vs.drop (vs.length - k)))) := zF hp4 _
         have h74 : upd H6 p4 (.tup (vs.drop (vs.length - k))) p4 = some (.tup (vs.drop (vs.length - k))) := zB
         generalize upd H6 p4 (.tup (vs.drop (vs.length - k))) = H7 at e7 h74 ⊢
         have vl : (vs.drop (vs.length - k)).length = k := by rw [List.length_drop]; omega
         refine ⟨_, SqT.of (e7 _ _ h63'), _, SqT.of h74, by simp, zV (by rw [List.length_singleton, vl]; omega), fun z => ?_, fun _ p5 hp5 => ?_⟩
         · rw [z] at vl
           simp at vl
           omega
         have e8 : Same H7 (upd H7 p5 (.tup ([.str wd] ++ vs.drop (vs.length - k)))) := zF hp5 _
         have h85 : upd H7 p5 (.tup ([.str wd] ++ vs.drop (vs.length - k))) p5 = some (.tup (.str wd :: vs.drop (vs.length - k))) := zB
         generalize upd H7 p5 (.tup ([.str wd] ++ vs.drop (vs.length - k))) = H8 at e8 h85 ⊢
         refine ⟨zV (by decide), fun p6 hp6 => ?_⟩
         have e9 : Same H8 (upd H8 p6 (.lst [.ref p5])) := zF hp6 _
         have h96 : upd H8 p6 (.lst [.ref p5]) p6 = some (.lst [.ref p5]) := zB
         generalize upd H8 p6 (.lst [.ref p5]) = H9 at e9 h96 ⊢
         have e49 : Same H4 H9 := (((e5.trans e6).trans e7).trans e8).trans e9
         refine ⟨_, e49 _ _ hp1a, _, h96, zV (by rw [List.length_take, List.length_singleton]; omega), fun p7 hp7 => hN _ _ ?_⟩
         have e10 : Same H9 (upd H9 p7 (.lst (vs.take (vs.length - k) ++ [.ref p5]))) := zF hp7 _
         have h107 : upd H9 p7 (.lst (vs.take (vs.length - k) ++ [.ref p5])) p7 = some (.lst (vs.take (vs.length - k) ++ [.ref p5])) := zB
         have n7 : H p7 = none := ((((hs.trans e2).trans eB).trans e4).trans e49).free hp7
         generalize upd H9 p7 (.lst (vs.take (vs.length - k) ++ [.ref p5])) = H10 at e10 h107 ⊢
         have e2_10 : Same H2 H10 := ((eB.trans e4).trans e49).trans e10
         simp only [tSeq, tFor_eq, tLC_eq, iRng1, iRng2, iList, iTup, iStr, tIfS, tRet, tRetN, tNext, tAsg, gName, tVar, tC, tOp, rI0, rI, tTest, tB, rEq, rNe, tCall, tCons, tNil, tCB, tLst, tTup, tAnd, tOr, tNot, tAndV, tOrV, tNotV, tIf, tDrop, tSl, tPart, tNoPart, tChain, tUn, rU, L2.start, cx_K, bk_K, cx_calm, bk_calm, lenV_str, and_assoc, Option.join, List.length_map, List.length_append, decide_eq_true_eq, Bool.false_eq_true, if_false, if_true, Bool.not_true, Bool.not_false, Bool.not_eq_true', decide_eq_false_iff_not, Bool.true_eq_false, List.length_cons, List.length_nil, List.map_cons, List.map_nil, List.replicate, List.cons_append, List.nil_append, List.append_nil, List.getElem?_cons_zero, List.getElem?_cons_succ, List.set_cons_zero, List.set_cons_succ, Nat.reduceSub, Nat.reduceAdd, Option.some.injEq, V.int.injEq, V.str.injEq, V.bl.injEq, V.ref.injEq, List.cons.injEq, and_true, true_and, exists_eq_left', exists_eq_left, exists_and_left, exists_eq_right, exists_const, tBM, tBM0, rAppend, rPop, rIxL, rIxT, rIxS, rSlL, rSlT, rSlS, rCat, rCatT]
         refine ⟨⟨by decide, by decide⟩, _, SqL.of (e2_10 _ _ sk2.dp), fun p8 hp8 => ?_⟩
         rw [hke, cd]
         have e11 : Same H10 (upd H10 p8 (.lst ((ds.take (ds.length - k)).map V.int))) := zF hp8 _
         have h118 : upd H10 p8 (.lst ((ds.take (ds.length - k)).map V.int)) p8 = some (.lst ((ds.take (ds.length - k)).map V.int)) := zB
         generalize upd H10 p8 (.lst ((ds.take (ds.length - k)).map V.int)) = H11 at e11 h118 ⊢
         refine ⟨zV (by decide), fun p9 hp9 => ?_⟩
         have e12 : Same H11 (upd H11 p9 (.lst [.int (maxI (ds.drop (ds.length - k)) + 1)])) := zF hp9 _
         have h129 : upd H11 p9 (.lst [.int (maxI (ds.drop (ds.length - k)) + 1)]) p9 = some (.lst [.int (maxI (ds.drop (ds.length - k)) + 1)]) := zB
         generalize upd H11 p9 (.lst [.int (maxI (ds.drop (ds.length - k)) + 1)]) = H12 at e12 h129 ⊢
         refine ⟨_, e12 _ _ h118, _, h129, zV (by rw [List.length_map, List.length_take, List.length_singleton]; omega), fun p10 hp10 => ?_⟩
         have e13 : Same H12 (upd H12 p10 (.lst ((ds.take (ds.length - k)).map V.int ++ [.int (maxI (ds.drop (ds.length - k)) + 1)]))) := zF hp10 _
         have h1310 : upd H12 p10 (.lst ((ds.take (ds.length - k)).map V.int ++ [.int (maxI (ds.drop (ds.length - k)) + 1)])) p10 = some (.lst ((ds.take (ds.length - k)).map V.int ++ [.int (maxI (ds.drop (ds.length - k)) + 1)])) := zB
         have h7_12 : H12 p7 = some (.lst (vs.take (vs.length - k) ++ [.ref p5])) := (e11.trans e12) _ _ h107
         have n710 : p7 ≠ p10 := zS h7_12 hp10
         have eH : Same H H12 := (((hs.trans e2).trans e2_10).trans e11).trans e12
         generalize upd H12 p10 (.lst ((ds.take (ds.length - k)).map V.int ++ [.int (maxI (ds.drop (ds.length - k)) + 1)])) = H13 at e13 h1310 ⊢
         have e2_13 : Same H2 H13 := ((e2_10.trans e11).trans e12).trans e13
         have mge : ∀ d ∈ ds.drop (ds.length - k), d <= maxI (ds.drop (ds.length - k)) := fun d hd => maxI_ge hd
         have mnn : 0 <= maxI (ds.drop (ds.length - k)) := by
           have hm := maxI_mem dne
           have fdd := FD.drop (ds.length - k) sk2.fd
           have : ∀ {ts : List Tm} {ds : List Int} {d : Int}, FD ts ds -> d ∈ ds -> 0 <= d := by
             intro ts
             induction ts with
             | nil => intro ds d h hd; have h : ds = [] := h; rw [h] at hd; cases hd
             | cons t ts ih =>
               intro ds d h hd
               obtain ⟨d', r, e, a, b, c, h⟩ := h
               subst e
               rcases List.mem_cons.mp hd with rfl | hd
               · exact a
               · exact ih h hd
           exact this fdd hm
         have hdts : ds.length = ts.length := hdl
         refine fin (eH.trans e13) n7 (eH.free hp10) (ts := ts.take (ts.length - k) ++ [.node wd (ts.drop (ts.length - k))]) (ds := ds.take (ds.length - k) ++ [maxI (ds.drop (ds.length - k)) + 1])
           ⟨n710, ⟨_, e13 _ _ h7_12, ?_⟩, by rw [h1310, List.map_append]; rfl, ?_⟩ ?_
         · rw [hlv]
           refine TAts.append (TAts.take _ (TAts.tups e2_13.tups hts)) (TAts.one (TAt.mkNode (vs := vs.drop (vs.length - k)) ?_ ?_))
           · exact (((((e9.trans e10).trans e11).trans e12).trans e13) _ _ h85)
           · rw [hlv]
             exact TAts.drop _ (TAts.tups e2_13.tups hts)
         · rw [hdts]
           refine FD.append (FD.take _ sk2.fd) (FD.one (by rw [← hdts]; omega) (by rw [← hdts]; omega) ?_)
           rw [show (maxI (ds.drop (ts.length - k)) + 1).toNat = (maxI (ds.drop (ts.length - k))).toNat + 1 by rw [← hdts]; omega]
           refine ⟨?_, fun u hu => ?_⟩
           · have hl2 : 2 <= (ts.drop (ts.length - k)).length := by rw [List.length_drop]; omega
             rcases hwd with h | h
             · exact .inr (.inr (.inr (.inl ⟨h, hl2⟩)))
             · exact .inr (.inr (.inr (.inr ⟨h, hl2⟩)))
           obtain ⟨d, hd, d0, d1, fu⟩ := FD.fit (FD.drop (ts.length - k) sk2.fd) hu
           have := mge d (by rw [hdts]; exact hd)
           rw [hdts] at this
           exact fu.mono (by omega)
         · have e := wts_append (ts.take (ts.length - k)) (ts.drop (ts.length - k))
           rw [List.take_append_drop] at e
           rw [wts_append, wts, wts, wt]
           omega
       simp only [tSeq, tFor_eq, tLC_eq, iRng1, iRng2, iList, iTup, iStr, tIfS, tRet, tRetN, tNext, tAsg, gName, tVar, tC, tOp, rI0, rI, tTest, tB, rEq, rNe, tCall, tCons, tNil, tCB, tLst, tTup, tAnd, tOr, tNot, tAndV, tOrV, tNotV, tIf, tDrop, tSl, tPart, tNoPart, tChain, tUn, rU, L2.start, cx_K, bk_K, cx_calm, bk_calm, lenV_str, and_assoc, Option.join, List.length_map, List.length_append, decide_eq_true_eq, Bool.false_eq_true, if_false, if_true, Bool.not_true, Bool.not_false, Bool.not_eq_true', decide_eq_false_iff_not, Bool.true_eq_false, List.length_cons, List.length_nil, List.map_cons, List.map_nil, List.replicate, List.cons_append, List.nil_append, List.append_nil, List.getElem?_cons_zero, List.getElem?_cons_succ, List.set_cons_zero, List.set_cons_succ, Nat.reduceSub, Nat.reduceAdd, Option.some.injEq, V.int.injEq, V.str.injEq, V.bl.injEq, V.ref.injEq, List.cons.injEq, and_true, true_and, exists_eq_left', exists_eq_left, exists_and_left, exists_eq_right, exists_const, tBM, tBM0, rAppend, rPop, rIxL, rIxT, rIxS, rSlL, rSlT, rSlS, rCat, rCatT]
       have sk1 := sk.same e1
       obtain ⟨vs, hsv, hts⟩ := sk1.st
       have hlv := hts.length
       split
       · rename_i h5
         split
         · rename_i h0
           obtain ⟨k, hk2, hke⟩ : ∃ k : Nat, (k = 2 \/ k = 3) /\ 0 - 2 - n % 9 / 3 = -(k : Int) := by
             have : n % 9 / 3 = 0 \/ n % 9 / 3 = 1 := by omega
             rcases this with h | h
             · exact ⟨2, .inl rfl, by omega⟩
             · exact ⟨3, .inr rfl, by omega⟩
           refine ⟨_, .inl ⟨_, SqL.of hsv, rfl⟩, ⟨by decide, by decide⟩, ?_⟩
           split
           · rename_i hlen
             have hk : k <= ts.length := by omega
             have hlm : (ds.map V.int).length = ds.length := List.length_map _
             have cv : yO (ds.map V.int) (some (-(k : Int))) none = (ds.drop (ds.length - k)).map V.int := by rw [jN _ k (by omega) (by omega), hlm, List.map_drop]
             refine ⟨⟨by decide, by decide⟩, _, SqL.of sk1.dp, fun p1 hp1 => ?_⟩
             rw [hke, cv]
             refine ⟨_, SqL.of zB, ?_, ?_⟩
             · intro z
               have := congrArg List.length z
               rw [List.length_drop, List.length_nil] at this
               omega
             · split
               · rename_i hm
                 exact hT2' _ (e1.trans (zF hp1 _)) k hk2 hke hk hm
               · exact hU2' _ (e1.trans (zF hp1 _))
           · exact hU2' _ e1
         · exact hU2' _ e1
       · exact hU2' _ e1
     simp only [tSeq, tFor_eq, tLC_eq, iRng1, iRng2, iList, iTup, iStr, tIfS, tRet, tRetN, tNext, tAsg, gName, tVar, tC, tOp, rI0, rI, tTest, tB, rEq, rNe, tCall, tCons, tNil, tCB, tLst, tTup, tAnd, tOr, tNot, tAndV, tOrV, tNotV, tIf, tDrop, tSl, tPart, tNoPart, tChain, tUn, rU, L2.start, cx_K, bk_K, cx_calm, bk_calm, lenV_str, and_assoc, Option.join, List.length_map, List.length_append, decide_eq_true_eq, Bool.false_eq_true, if_false, if_true, Bool.not_true, Bool.not_false, Bool.not_eq_true', decide_eq_false_iff_not, Bool.true_eq_false, List.length_cons, List.length_nil, List.map_cons, List.map_nil, List.replicate, List.cons_append, List.nil_append, List.append_nil, List.getElem?_cons_zero, List.getElem?_cons_succ, List.set_cons_zero, List.set_cons_succ, Nat.reduceSub, Nat.reduceAdd, Option.some.injEq, V.int.injEq, V.str.injEq, V.bl.injEq, V.ref.injEq, List.cons.injEq, and_true, true_and, exists_eq_left', exists_eq_left, exists_and_left, exists_eq_right, exists_const, tBM, tBM0, rAppend, rPop, rIxL, rIxT, rIxS, rSlL, rSlT, rSlS, rCat, rCatT]
     obtain ⟨vs, hsv, hts⟩ := sk.st
     have hlv := hts.length
     refine ⟨rfl, ?_⟩
     split
     · refine ⟨_, .inl ⟨_, SqL.of hsv, rfl⟩, ?_⟩
       split
       · rename_i hpos
         have hne : ts ≠ [] := by intro z; subst z; rw [hlv] at hpos; exact absurd hpos (by decide)
         obtain ⟨ts', t, ds', d, vs', v, e1, e2, hsv', hts', htv, hfd', d0, d1, ft⟩ := sk.top hne
         refine ⟨_, SqL.of sk.dp, .int d, by rw [e2]; exact last_int _ _, d, rfl, ?_⟩
         split
         · rename_i h17
           refine hT' _ (Same.refl _) hne fun ds'' d'' e3 => ?_
           have e4 := e2.symm.trans e3
           have e5 := List.append_inj_right' e4 rfl
           cases e5
           exact h17
         · exact hU' _ (Same.refl _)
       · exact hU' _ (Same.refl _)
     · exact hU' _ (Same.refl _)
   · obtain ⟨hs, sa, da, ts, ds, o1, o2, o3, o4, nsa, nda, sk, hw, rfl⟩ := h
     rw [List.length_map] at hw
     exact hN _ _ ⟨hs, sa, da, ts, ds, _, _, _, _, nsa, nda, sk, hw, rfl⟩
 · obtain ⟨hs, sa, da, ts, ds, o1, o2, o3, o4, nsa, nda, sk, hw, rfl⟩ := h
   obtain ⟨vs, hsv, hts⟩ := sk.st
   have hlv := hts.length
   have f17 : ∀ t ∈ ts, Fit 17 t := fun t ht => by
     obtain ⟨d, _, d0, d1, h⟩ := sk.fd.fit ht
     exact h.mono (by omega)
   simp only [tSeq, tFor_eq, tLC_eq, iRng1, iRng2, iList, iTup, iStr, tIfS, tRet, tRetN, tNext, tAsg, gName, tVar, tC, tOp, rI0, rI, tTest, tB, rEq, rNe, tCall, tCons, tNil, tCB, tLst, tTup, tAnd, tOr, tNot, tAndV, tOrV, tNotV, tIf, tDrop, tSl, tPart, tNoPart, tChain, tUn, rU, L2.start, cx_K, bk_K, cx_calm, bk_calm, lenV_str, and_assoc, Option.join, List.length_map, List.length_append, decide_eq_true_eq, Bool.false_eq_true, if_false, if_true, Bool.not_true, Bool.not_false, Bool.not_eq_true', decide_eq_false_iff_not, Bool.true_eq_false, List.length_cons, List.length_nil, List.map_cons, List.map_nil, List.replicate, List.cons_append, List.nil_append, List.append_nil, List.getElem?_cons_zero, List.getElem?_cons_succ, List.set_cons_zero, List.set_cons_succ, Nat.reduceSub, Nat.reduceAdd, Option.some.injEq, V.int.injEq, V.str.injEq, V.bl.injEq, V.ref.injEq, List.cons.injEq, and_true, true_and, exists_eq_left', exists_eq_left, exists_and_left, exists_eq_right, exists_const, tBM, tBM0, rAppend, rPop, rIxL, rIxT, rIxS, rSlL, rSlT, rSlS, rCat, rCatT]
   refine ⟨_, .inl ⟨_, SqL.of hsv, rfl⟩, rfl, ?_⟩
   split
   · rename_i h0
     have hv : vs = [] := List.eq_nil_of_length_eq_zero (by omega)
     subst hv
     refine ⟨.inl ⟨rfl, _, SqL.of hsv⟩, zV (by decide), fun p1 hp1 => ⟨[], zF hp1 _ _ _ hsv, zY (by decide), ?_⟩⟩
     have n1 : H p1 = none := hs.free hp1
     refine q sa [.ref p1] [.node "all" []] _ ((hs.upd n1).upd nsa) nsa zB (TAts.one (TAt.mkNode (vs := []) ?_ rfl)) (by simp) (fun t ht => ?_) (by rw [wts, wts, wt, wts]; omega)
     · rw [zH (Ne.symm (zS hsv hp1))]
       exact zB
     · rw [List.mem_singleton.mp ht]
       exact ⟨.inr (.inl ⟨rfl, rfl⟩), fun _ z => nomatch z⟩
   · rename_i h0
     refine q sa vs ts H' hs nsa hsv hts ?_ f17 (by omega)
     intro z
     subst z
     have : vs = [] := List.eq_nil_of_length_eq_zero hlv
     subst this
     exact h0 rfl
end
abbrev s_i : Stmt := top 23
theorem sc_i : FnScope ["found", "due", "k"] ["found", "due"] (zG s_i) := ⟨rfl, rfl, rfl, by decide +kernel, rfl, by decide +kernel, by decide +kernel⟩
def NAt (K : PySem.W.Frag) (H : Hp) (d : Dt) (v : V) : Prop := DAt H d v \/ ∃ (a : Addr) (vs : List V) (ds : List Dt), d = .tup ds /\ v = .ref a /\ SqT K H a vs /\ DAts H ds vs
def LAt (K : PySem.W.Frag) (H : Hp) (d : Dt) (v : V) : Prop := NAt K H d v \/ ∃ a us ds, v = .ref a /\ H a = some (.lst us) /\ d = .lst ds /\ us.length = ds.length /\ ∀ (i : Nat) (u : V) (e : Dt), us[i]? = some u -> ds[i]? = some e -> NAt K H e u
theorem LAt.tup {K : PySem.W.Frag} {H : Hp} {ds : List Dt} {v : V} (h : LAt K H (.tup ds) v) : ∃ a us, v = .ref a /\ SqT K H a us /\ us.length = ds.length /\ ∀ (i : Nat) (u : V) (e : Dt), us[i]? = some u -> ds[i]? = some e -> LAt K H e u := by
 rcases h with (h | ⟨a, us, ds', e, rfl, hs, hu⟩) | ⟨_, _, _, _, _, e, _⟩
 · obtain ⟨a, us, rfl, ha, hu⟩ := h
   refine ⟨a, us, rfl, SqT.of ha, hu.length, fun i u e h1 h2 => ?_⟩
   obtain ⟨u', k1, k2⟩ := hu.get h2
   rw [h1] at k1
   cases k1
   exact .inl (.inl k2)
 · cases e
   refine ⟨a, us, rfl, hs, hu.length, fun i u e h1 h2 => ?_⟩
   obtain ⟨u', k1, k2⟩ := hu.get h2
   rw [h1] at k1
   cases k1
   exact .inl (.inl k2)
 · cases e
theorem LAt.lst {K : PySem.W.Frag} {H : Hp} {ds : List Dt} {v : V} (h : LAt K H (.lst ds) v) : ∃ a us, v = .ref a /\ H a = some (.lst us) /\ us.length = ds.length /\ ∀ (i : Nat) (u : V) (e : Dt), us[i]? = some u -> ds[i]? = some e -> LAt K H e u := by
 rcases h with (h | ⟨_, _, _, e, _⟩) | ⟨a, us, ds', rfl, ha, e, hl, hu⟩
 · obtain ⟨a, us, rfl, ha, hu⟩ := h
   refine ⟨a, us, rfl, ha, hu.length, fun i u e h1 h2 => ?_⟩
   obtain ⟨u', k1, k2⟩ := hu.get h2
   rw [h1] at k1
   cases k1
   exact .inl (.inl k2)
 · cases e
 · cases e
   exact ⟨a, us, rfl, ha, hl, fun i u e h1 h2 => .inl (hu i u e h1 h2)⟩
theorem LAt.dat {K : PySem.W.Frag} {H : Hp} {d : Dt} {v : V} (h : LAt K H d v) (h1 : ∀ ds, d ≠ .tup ds) (h2 : ∀ ds, d ≠ .lst ds) : DAt H d v := by
 rcases h with (h | ⟨_, _, ds', e, _⟩) | ⟨a, us, ds', rfl, ha, e, hl, hu⟩
 · exact h
 · exact absurd e (h1 _)
 · exact absurd e (h2 _)
def spAlk (K : PySem.W.Frag) : Nat -> Sp
 | 0 => fun _ _ _ _ => False
 | n + 1 => fun vs H Q _ => ∃ (v v' : V) (d : Dt), vs = [v, v'] /\ LAt K H d v /\ DAt H d v' /\ DFit n d /\ Q (.bl true) H
section
variable {P : Program} {w : World} {K : PySem.W.Frag} {mg : Str -> Option Value} {base : Heap} {f : Addr} {fd : FuncData}
theorem ok_alike (bi : Bi mg) (F : Fun K "_law_alike" "_law_alike" s_i f fd) (b : Binds K fd ["found", "due"] []) (m : mg "_law_alike" = some (.ref f)) : ∀ n, FnOk P w K mg base CX0 n f fd ["found", "due"] (spAlk K n) := by
 refine rec_ok F b m (fun vs H Q E h => h) (fun n h_i => ?_)
 refine F.ok sc_i (fun vs H Q E h => ?_) (fun cdv A outer s H vs Q E hr h => ?_)
 · obtain ⟨v, v', d, rfl, _⟩ := h
   rfl
 obtain ⟨v, v', d, rfl, hv, hv', hd, q⟩ := h
 refine ⟨_, (zC (zU (yY (zO (yC (T := "bool")) rfl bi.isinstance bt_isinstance (zA (pv 1) (zA (xC bi.bool bt_bool rfl) pa_nil)))) (zE (zN (xE (zO (yC (T := "bool")) rfl bi.isinstance bt_isinstance (zA (pv 0) (zA (xC bi.bool bt_bool rfl) pa_nil))) (xM (xW op_eq (pv 0) (pv 1) (zP _)))))) pss_nil) (zC (zU (yY (zO (yC (T := "int")) rfl bi.isinstance bt_isinstance (zA (pv 1) (zA (xC bi.int bt_int rfl) pa_nil)))) (zE (zN (xE (zO (yC (T := "int")) rfl bi.isinstance bt_isinstance (zA (pv 0) (zA (xC bi.int bt_int rfl) pa_nil))) (xE (pe_not (zO (yC (T := "bool")) rfl bi.isinstance bt_isinstance (zA (pv 0) (zA (xC bi.bool bt_bool rfl) pa_nil)))) (xM (xW op_eq (pv 0) (pv 1) (zP _))))))) pss_nil) (zC (zU (yY (zO (yC (T := "str")) rfl bi.isinstance bt_isinstance (zA (pv 1) (zA (xC bi.str bt_str rfl) pa_nil)))) (zE (zN (xE (zO (yC (T := "str")) rfl bi.isinstance bt_isinstance (zA (pv 0) (zA (xC bi.str bt_str rfl) pa_nil))) (xM (xW op_eq (pv 0) (pv 1) (zP _)))))) pss_nil) (zC (zU (zK op_isN (pv 1) jG (zP _)) (zE (zN (xW op_isN (pv 0) jG (zP _)))) pss_nil) (zC (zU (yY (zO (yC (T := "tuple")) rfl bi.isinstance bt_isinstance (zA (pv 1) (zA (xC bi.tuple bt_tuple rfl) pa_nil)))) (zE (zU (qE (yY (zO (yC (T := "tuple")) rfl bi.isinstance bt_isinstance (zA (pv 0) (zA (xC bi.tuple bt_tuple rfl) pa_nil))))) (zE (zN xD)) pss_nil)) (zE (zU (qE (yY (zO (yC (T := "list")) rfl bi.isinstance bt_isinstance (zA (pv 0) (zA (xC bi.list bt_list rfl) pa_nil))))) (zE (zN xD)) pss_nil))) (zC (zU (zK op_ne (zO call_len rfl bi.len bt_len (zA (pv 0) pa_nil)) (zO call_len rfl bi.len bt_len (zA (pv 1) pa_nil)) (zP _)) (zE (zN xD)) pss_nil) (zC (yZ PassesOwn.never rfl (xL rfl bi.range (zA (zO call_len rfl bi.len bt_len (zA (pv 1) pa_nil)) pa_nil)) (yP (i := 2) sc_i.nd rfl (Or.inl rfl)) (zE (zU (qE (yY (zL h_i hr rfl (zA (yA ix_seq (pv 0) (pv 2) (fun _ _ => rfl)) (zA (yA ix_seq (pv 1) (pv 2) (fun _ _ => rfl)) pa_nil))))) (zE (zN xD)) pss_nil))) (zE (zN xD))))))))), ?_⟩
 cases d with
 | non =>
   replace hv := hv.dat (fun _ z => nomatch z) (fun _ z => nomatch z)
   have e : v = .non := hv
   have e' : v' = .non := hv'
   subst e; subst e'
   simp only [tSeq, tFor_eq, tLC_eq, iRng1, iRng2, iList, iTup, iStr, tIfS, tRet, tRetN, tNext, tAsg, gName, tVar, tC, tOp, rI0, rI, tTest, tB, rEq, rNe, tCall, tCons, tNil, tCB, tLst, tTup, tAnd, tOr, tNot, tAndV, tOrV, tNotV, tIf, tDrop, tSl, tPart, tNoPart, tChain, tUn, rU, L2.start, cx_K, bk_K, cx_calm, bk_calm, lenV_str, and_assoc, Option.join, List.length_map, List.length_append, decide_eq_true_eq, Bool.false_eq_true, if_false, if_true, Bool.not_true, Bool.not_false, Bool.not_eq_true', decide_eq_false_iff_not, Bool.true_eq_false, List.length_cons, List.length_nil, List.map_cons, List.map_nil, List.replicate, List.cons_append, List.nil_append, List.append_nil, List.getElem?_cons_zero, List.getElem?_cons_succ, List.set_cons_zero, List.set_cons_succ, Nat.reduceSub, Nat.reduceAdd, Option.some.injEq, V.int.injEq, V.str.injEq, V.bl.injEq, V.ref.injEq, List.cons.injEq, and_true, true_and, exists_eq_left', exists_eq_left, exists_and_left, exists_eq_right, exists_const]
   exact ⟨_, .of .non, false, kit_nb, xP ⟨_, .of .non, false, kit_ni, xP ⟨_, .of .non, false, kit_ns, xP q⟩⟩⟩
 | bl x =>
   replace hv := hv.dat (fun _ z => nomatch z) (fun _ z => nomatch z)
   have e : v = .bl x := hv
   have e' : v' = .bl x := hv'
   subst e; subst e'
   simp only [tSeq, tFor_eq, tLC_eq, iRng1, iRng2, iList, iTup, iStr, tIfS, tRet, tRetN, tNext, tAsg, gName, tVar, tC, tOp, rI0, rI, tTest, tB, rEq, rNe, tCall, tCons, tNil, tCB, tLst, tTup, tAnd, tOr, tNot, tAndV, tOrV, tNotV, tIf, tDrop, tSl, tPart, tNoPart, tChain, tUn, rU, L2.start, cx_K, bk_K, cx_calm, bk_calm, lenV_str, and_assoc, Option.join, List.length_map, List.length_append, decide_eq_true_eq, Bool.false_eq_true, if_false, if_true, Bool.not_true, Bool.not_false, Bool.not_eq_true', decide_eq_false_iff_not, Bool.true_eq_false, List.length_cons, List.length_nil, List.map_cons, List.map_nil, List.replicate, List.cons_append, List.nil_append, List.append_nil, List.getElem?_cons_zero, List.getElem?_cons_succ, List.set_cons_zero, List.set_cons_succ, Nat.reduceSub, Nat.reduceAdd, Option.some.injEq, V.int.injEq, V.str.injEq, V.bl.injEq, V.ref.injEq, List.cons.injEq, and_true, true_and, exists_eq_left', exists_eq_left, exists_and_left, exists_eq_right, exists_const]
   exact ⟨_, .of (.bl x), true, yI, iteT ⟨_, .of (.bl x), true, yI, iteT ⟨rfl, q⟩⟩⟩
 | int x =>
   replace hv := hv.dat (fun _ z => nomatch z) (fun _ z => nomatch z)
   have e : v = .int x := hv
   have e' : v' = .int x := hv'
   subst e; subst e'
   simp only [tSeq, tFor_eq, tLC_eq, iRng1, iRng2, iList, iTup, iStr, tIfS, tRet, tRetN, tNext, tAsg, gName, tVar, tC, tOp, rI0, rI, tTest, tB, rEq, rNe, tCall, tCons, tNil, tCB, tLst, tTup, tAnd, tOr, tNot, tAndV, tOrV, tNotV, tIf, tDrop, tSl, tPart, tNoPart, tChain, tUn, rU, L2.start, cx_K, bk_K, cx_calm, bk_calm, lenV_str, and_assoc, Option.join, List.length_map, List.length_append, decide_eq_true_eq, Bool.false_eq_true, if_false, if_true, Bool.not_true, Bool.not_false, Bool.not_eq_true', decide_eq_false_iff_not, Bool.true_eq_false, List.length_cons, List.length_nil, List.map_cons, List.map_nil, List.replicate, List.cons_append, List.nil_append, List.append_nil, List.getElem?_cons_zero, List.getElem?_cons_succ, List.set_cons_zero, List.set_cons_succ, Nat.reduceSub, Nat.reduceAdd, Option.some.injEq, V.int.injEq, V.str.injEq, V.bl.injEq, V.ref.injEq, List.cons.injEq, and_true, true_and, exists_eq_left', exists_eq_left, exists_and_left, exists_eq_right, exists_const]
   exact ⟨_, .of (.int x), false, kit_ib, xP ⟨_, .of (.int x), true, yI, iteT ⟨_, .of (.int x), true, yI, iteT ⟨_, .of (.int x), false, kit_ib, by rw [if_pos rfl]; exact ⟨rfl, q⟩⟩⟩⟩⟩
 | str x =>
   replace hv := hv.dat (fun _ z => nomatch z) (fun _ z => nomatch z)
   have e : v = .str x := hv
   have e' : v' = .str x := hv'
   subst e; subst e'
   simp only [tSeq, tFor_eq, tLC_eq, iRng1, iRng2, iList, iTup, iStr, tIfS, tRet, tRetN, tNext, tAsg, gName, tVar, tC, tOp, rI0, rI, tTest, tB, rEq, rNe, tCall, tCons, tNil, tCB, tLst, tTup, tAnd, tOr, tNot, tAndV, tOrV, tNotV, tIf, tDrop, tSl, tPart, tNoPart, tChain, tUn, rU, L2.start, cx_K, bk_K, cx_calm, bk_calm, lenV_str, and_assoc, Option.join, List.length_map, List.length_append, decide_eq_true_eq, Bool.false_eq_true, if_false, if_true, Bool.not_true, Bool.not_false, Bool.not_eq_true', decide_eq_false_iff_not, Bool.true_eq_false, List.length_cons, List.length_nil, List.map_cons, List.map_nil, List.replicate, List.cons_append, List.nil_append, List.append_nil, List.getElem?_cons_zero, List.getElem?_cons_succ, List.set_cons_zero, List.set_cons_succ, Nat.reduceSub, Nat.reduceAdd, Option.some.injEq, V.int.injEq, V.str.injEq, V.bl.injEq, V.ref.injEq, List.cons.injEq, and_true, true_and, exists_eq_left', exists_eq_left, exists_and_left, exists_eq_right, exists_const]
   exact ⟨_, .of (.str x), false, kit_sb, xP ⟨_, .of (.str x), false, kit_si, xP ⟨_, .of (.str x), true, yI, iteT ⟨_, .of (.str x), true, yI, iteT ⟨rfl, q⟩⟩⟩⟩⟩
 | tup ds =>
   obtain ⟨a, us, rfl, ha, l1, hu⟩ := hv.tup
   obtain ⟨a', us', rfl, ha', hu'⟩ := hv'
   cases n with
   | zero => exact hd.elim
   | succ n =>
     have l2 := hu'.length
     have l3 : ds.length <= 1000 := hd.1
     simp only [tSeq, tFor_eq, tLC_eq, iRng1, iRng2, iList, iTup, iStr, tIfS, tRet, tRetN, tNext, tAsg, gName, tVar, tC, tOp, rI0, rI, tTest, tB, rEq, rNe, tCall, tCons, tNil, tCB, tLst, tTup, tAnd, tOr, tNot, tAndV, tOrV, tNotV, tIf, tDrop, tSl, tPart, tNoPart, tChain, tUn, rU, L2.start, cx_K, bk_K, cx_calm, bk_calm, lenV_str, and_assoc, Option.join, List.length_map, List.length_append, decide_eq_true_eq, Bool.false_eq_true, if_false, if_true, Bool.not_true, Bool.not_false, Bool.not_eq_true', decide_eq_false_iff_not, Bool.true_eq_false, List.length_cons, List.length_nil, List.map_cons, List.map_nil, List.replicate, List.cons_append, List.nil_append, List.append_nil, List.getElem?_cons_zero, List.getElem?_cons_succ, List.set_cons_zero, List.set_cons_succ, Nat.reduceSub, Nat.reduceAdd, Option.some.injEq, V.int.injEq, V.str.injEq, V.bl.injEq, V.ref.injEq, List.cons.injEq, and_true, true_and, exists_eq_left', exists_eq_left, exists_and_left, exists_eq_right, exists_const]
     refine ⟨_, .of (.tup ha'), false, kit_tb, xP ⟨_, .of (.tup ha'), false, kit_ti, xP ⟨_, .of (.tup ha'), false, kit_ts, xP ?_⟩⟩⟩
     refine ⟨_, .of (.tup ha'), true, yI, iteT ⟨_, .kt ha, true, yI, ?_⟩⟩
     rw [if_neg (by decide)]
     refine ⟨_, .inr ⟨_, ha, rfl⟩, _, .inr ⟨_, SqT.of ha', rfl⟩, rfl, ?_⟩
     rw [if_neg (by rw [l1, l2]; simp)]
     refine ⟨_, .inr ⟨_, SqT.of ha', rfl⟩, by omega, by omega, ?_⟩
     refine xJ (n := (us'.length : Int).toNat) (fun i σ H' => H' = H /\ ∃ o, σ = [some (V.ref a), some (V.ref a'), o]) ⟨rfl, _, rfl⟩ (fun i σ H' hi e => ?_) (fun σ H' e => ?_)
     · obtain ⟨rfl, o, rfl⟩ := e
       have hi' : i < ds.length := by omega
       obtain ⟨u, hu1⟩ : ∃ u, us[i]? = some u := ⟨_, List.getElem?_eq_getElem (by omega)⟩
       have hu2 := hu i u _ hu1 (List.getElem?_eq_getElem hi')
       obtain ⟨u', hu1', hu2'⟩ := hu'.get (List.getElem?_eq_getElem hi')
       simp only [tSeq, tFor_eq, tLC_eq, iRng1, iRng2, iList, iTup, iStr, tIfS, tRet, tRetN, tNext, tAsg, gName, tVar, tC, tOp, rI0, rI, tTest, tB, rEq, rNe, tCall, tCons, tNil, tCB, tLst, tTup, tAnd, tOr, tNot, tAndV, tOrV, tNotV, tIf, tDrop, tSl, tPart, tNoPart, tChain, tUn, rU, L2.start, cx_K, bk_K, cx_calm, bk_calm, lenV_str, and_assoc, Option.join, List.length_map, List.length_append, decide_eq_true_eq, Bool.false_eq_true, if_false, if_true, Bool.not_true, Bool.not_false, Bool.not_eq_true', decide_eq_false_iff_not, Bool.true_eq_false, List.length_cons, List.length_nil, List.map_cons, List.map_nil, List.replicate, List.cons_append, List.nil_append, List.append_nil, List.getElem?_cons_zero, List.getElem?_cons_succ, List.set_cons_zero, List.set_cons_succ, Nat.reduceSub, Nat.reduceAdd, Option.some.injEq, V.int.injEq, V.str.injEq, V.bl.injEq, V.ref.injEq, List.cons.injEq, and_true, true_and, exists_eq_left', exists_eq_left, exists_and_left, exists_eq_right, exists_const]
       refine .inr (.inl ⟨a, us, _, u, rfl, rfl, ha, by rw [Int.zero_add]; exact yB hu1, .inr (.inl ⟨a', us', _, u', rfl, rfl, SqT.of ha', by rw [Int.zero_add]; exact yB hu1', ?_⟩)⟩)
       exact ⟨u, u', _, rfl, hu2, hu2', hd.2 _ (List.getElem_mem hi'), true, rfl, by rw [if_neg (by decide)]; exact ⟨rfl, _, rfl⟩⟩
     · obtain ⟨rfl, o, rfl⟩ := e
       simp only [tSeq, tFor_eq, tLC_eq, iRng1, iRng2, iList, iTup, iStr, tIfS, tRet, tRetN, tNext, tAsg, gName, tVar, tC, tOp, rI0, rI, tTest, tB, rEq, rNe, tCall, tCons, tNil, tCB, tLst, tTup, tAnd, tOr, tNot, tAndV, tOrV, tNotV, tIf, tDrop, tSl, tPart, tNoPart, tChain, tUn, rU, L2.start, cx_K, bk_K, cx_calm, bk_calm, lenV_str, and_assoc, Option.join, List.length_map, List.length_append, decide_eq_true_eq, Bool.false_eq_true, if_false, if_true, Bool.not_true, Bool.not_false, Bool.not_eq_true', decide_eq_false_iff_not, Bool.true_eq_false, List.length_cons, List.length_nil, List.map_cons, List.map_nil, List.replicate, List.cons_append, List.nil_append, List.append_nil, List.getElem?_cons_zero, List.getElem?_cons_succ, List.set_cons_zero, List.set_cons_succ, Nat.reduceSub, Nat.reduceAdd, Option.some.injEq, V.int.injEq, V.str.injEq, V.bl.injEq, V.ref.injEq, List.cons.injEq, and_true, true_and, exists_eq_left', exists_eq_left, exists_and_left, exists_eq_right, exists_const]
       exact q
 | lst ds =>
   obtain ⟨a, us, rfl, ha, l1, hu⟩ := hv.lst
   obtain ⟨a', us', rfl, ha', hu'⟩ := hv'
   cases n with
   | zero => exact hd.elim
   | succ n =>
     have l2 := hu'.length
     have l3 : ds.length <= 1000 := hd.1
     simp only [tSeq, tFor_eq, tLC_eq, iRng1, iRng2, iList, iTup, iStr, tIfS, tRet, tRetN, tNext, tAsg, gName, tVar, tC, tOp, rI0, rI, tTest, tB, rEq, rNe, tCall, tCons, tNil, tCB, tLst, tTup, tAnd, tOr, tNot, tAndV, tOrV, tNotV, tIf, tDrop, tSl, tPart, tNoPart, tChain, tUn, rU, L2.start, cx_K, bk_K, cx_calm, bk_calm, lenV_str, and_assoc, Option.join, List.length_map, List.length_append, decide_eq_true_eq, Bool.false_eq_true, if_false, if_true, Bool.not_true, Bool.not_false, Bool.not_eq_true', decide_eq_false_iff_not, Bool.true_eq_false, List.length_cons, List.length_nil, List.map_cons, List.map_nil, List.replicate, List.cons_append, List.nil_append, List.append_nil, List.getElem?_cons_zero, List.getElem?_cons_succ, List.set_cons_zero, List.set_cons_succ, Nat.reduceSub, Nat.reduceAdd, Option.some.injEq, V.int.injEq, V.str.injEq, V.bl.injEq, V.ref.injEq, List.cons.injEq, and_true, true_and, exists_eq_left', exists_eq_left, exists_and_left, exists_eq_right, exists_const]
     refine ⟨_, .of (.lst ha'), false, kit_lb, xP ⟨_, .of (.lst ha'), false, kit_li, xP ⟨_, .of (.lst ha'), false, kit_ls, xP ?_⟩⟩⟩
     refine ⟨_, .of (.lst ha'), false, kit_lt, xP ⟨_, .of (.lst ha), true, yI, ?_⟩⟩
     rw [if_neg (by decide)]
     refine ⟨_, .inl ⟨_, SqL.of ha, rfl⟩, _, .inl ⟨_, SqL.of ha', rfl⟩, rfl, ?_⟩
     rw [if_neg (by rw [l1, l2]; simp)]
     refine ⟨_, .inl ⟨_, SqL.of ha', rfl⟩, by omega, by omega, ?_⟩
     refine xJ (n := (us'.length : Int).toNat) (fun i σ H' => H' = H /\ ∃ o, σ = [some (V.ref a), some (V.ref a'), o]) ⟨rfl, _, rfl⟩ (fun i σ H' hi e => ?_) (fun σ H' e => ?_)
     · obtain ⟨rfl, o, rfl⟩ := e
       have hi' : i < ds.length := by omega
       obtain ⟨u, hu1⟩ : ∃ u, us[i]? = some u := ⟨_, List.getElem?_eq_getElem (by omega)⟩
       have hu2 := hu i u _ hu1 (List.getElem?_eq_getElem hi')
       obtain ⟨u', hu1', hu2'⟩ := hu'.get (List.getElem?_eq_getElem hi')
       simp only [tSeq, tFor_eq, tLC_eq, iRng1, iRng2, iList, iTup, iStr, tIfS, tRet, tRetN, tNext, tAsg, gName, tVar, tC, tOp, rI0, rI, tTest, tB, rEq, rNe, tCall, tCons, tNil, tCB, tLst, tTup, tAnd, tOr, tNot, tAndV, tOrV, tNotV, tIf, tDrop, tSl, tPart, tNoPart, tChain, tUn, rU, L2.start, cx_K, bk_K, cx_calm, bk_calm, lenV_str, and_assoc, Option.join, List.length_map, List.length_append, decide_eq_true_eq, Bool.false_eq_true, if_false, if_true, Bool.not_true, Bool.not_false, Bool.not_eq_true', decide_eq_false_iff_not, Bool.true_eq_false, List.length_cons, List.length_nil, List.map_cons, List.map_nil, List.replicate, List.cons_append, List.nil_append, List.append_nil, List.getElem?_cons_zero, List.getElem?_cons_succ, List.set_cons_zero, List.set_cons_succ, Nat.reduceSub, Nat.reduceAdd, Option.some.injEq, V.int.injEq, V.str.injEq, V.bl.injEq, V.ref.injEq, List.cons.injEq, and_true, true_and, exists_eq_left', exists_eq_left, exists_and_left, exists_eq_right, exists_const]
       refine .inl (⟨a, us, _, u, rfl, rfl, SqL.of ha, by rw [Int.zero_add]; exact yB hu1, .inl (⟨a', us', _, u', rfl, rfl, SqL.of ha', by rw [Int.zero_add]; exact yB hu1', ?_⟩)⟩)
       exact ⟨u, u', _, rfl, hu2, hu2', hd.2 _ (List.getElem_mem hi'), true, rfl, by rw [if_neg (by decide)]; exact ⟨rfl, _, rfl⟩⟩
     · obtain ⟨rfl, o, rfl⟩ := e
       simp only [tSeq, tFor_eq, tLC_eq, iRng1, iRng2, iList, iTup, iStr, tIfS, tRet, tRetN, tNext, tAsg, gName, tVar, tC, tOp, rI0, rI, tTest, tB, rEq, rNe, tCall, tCons, tNil, tCB, tLst, tTup, tAnd, tOr, tNot, tAndV, tOrV, tNotV, tIf, tDrop, tSl, tPart, tNoPart, tChain, tUn, rU, L2.start, cx_K, bk_K, cx_calm, bk_calm, lenV_str, and_assoc, Option.join, List.length_map, List.length_append, decide_eq_true_eq, Bool.false_eq_true, if_false, if_true, Bool.not_true, Bool.not_false, Bool.not_eq_true', decide_eq_false_iff_not, Bool.true_eq_false, List.length_cons, List.length_nil, List.map_cons, List.map_nil, List.replicate, List.cons_append, List.nil_append, List.append_nil, List.getElem?_cons_zero, List.getElem?_cons_succ, List.set_cons_zero, List.set_cons_succ, Nat.reduceSub, Nat.reduceAdd, Option.some.injEq, V.int.injEq, V.str.injEq, V.bl.injEq, V.ref.injEq, List.cons.injEq, and_true, true_and, exists_eq_left', exists_eq_left, exists_and_left, exists_eq_right, exists_const]
       exact q
end
def tnM (n : Nat) : Nat := n + 1 - 2 * (n % 2)
def tnB (e : Bool) (n : Nat) : Nat := if e then tnM n else n
def rix (rows : List Rw) (r : Rw) : Option Nat := rows.findIdx? fun x => deq (dRw x) (dRw r)
def yS (rows : List Rw) (r : Rw) : List Rw × Nat := match rix rows r with
 | some k => (rows, 2 * k)
 | none => (rows ++ [r], 2 * rows.length)
mutual
def bld : Tm -> List Rw -> List Rw × Nat
 | .name x, rows => yS rows (.nm x)
 | .node w ts, rows => if w = "none" then (rows, 0) else if w = "all" then (rows, 1) else if w = "not" then ((yX false ts rows).1, tnM (yX false ts rows).2) else ((yX (decide (w = "either")) ts rows).1, tnB (decide (w = "either")) (yX (decide (w = "either")) ts rows).2)
def yX (e : Bool) : List Tm -> List Rw -> List Rw × Nat
 | [], rows => (rows, 0)
 | t :: ts, rows => yN e ts (bld t rows).1 (tnB e (bld t rows).2)
def yN (e : Bool) : List Tm -> List Rw -> Nat -> List Rw × Nat
 | [], rows, m => (rows, m)
 | t :: ts, rows, m => yN e ts (yS (bld t rows).1 (.bo (m : Int) (tnB e (bld t rows).2 : Nat))).1 (yS (bld t rows).1 (.bo (m : Int) (tnB e (bld t rows).2 : Nat))).2
end
theorem jE {rows : List Rw} {r : Rw} (h : rix rows r = none) : rix (rows ++ [r]) r = some rows.length := by
 unfold rix at h ⊢
 rw [List.findIdx?_append, h]
 simp [List.findIdx?_cons, deq_refl]
theorem jD (rows : List Rw) (r : Rw) : ∃ xs, (yS rows r).1 = rows ++ xs := by
 unfold yS
 split
 · exact ⟨[], (List.append_nil _).symm⟩
 · exact ⟨[r], rfl⟩
theorem rput_at (rows : List Rw) (r : Rw) : ∃ k, rix (yS rows r).1 r = some k /\ (yS rows r).2 = 2 * k := by
 unfold yS
 split
 · rename_i k h
   exact ⟨k, h, rfl⟩
 · rename_i h
   exact ⟨_, jE h, rfl⟩
mutual
theorem bld_ext : ∀ (t : Tm) (rows : List Rw), ∃ xs, (bld t rows).1 = rows ++ xs
 | .name x, rows => by rw [bld]; exact jD _ _
 | .node w ts, rows => by
   rw [bld]
   split
   · exact ⟨[], (List.append_nil _).symm⟩
   · split
     · exact ⟨[], (List.append_nil _).symm⟩
     · split
       · exact bldH_ext _ ts rows
       · exact bldH_ext _ ts rows
theorem bldH_ext (e : Bool) : ∀ (ts : List Tm) (rows : List Rw), ∃ xs, (yX e ts rows).1 = rows ++ xs
 | [], rows => by rw [yX]; exact ⟨[], (List.append_nil _).symm⟩
 | t :: ts, rows => by
   rw [yX]
   obtain ⟨xs, hx⟩ := bld_ext t rows
   obtain ⟨ys, hy⟩ := jO e ts (bld t rows).1 (tnB e (bld t rows).2)
   exact ⟨xs ++ ys, by rw [hy, hx, List.append_assoc]⟩
theorem jO (e : Bool) : ∀ (ts : List Tm) (rows : List Rw) (m : Nat), ∃ xs, (yN e ts rows m).1 = rows ++ xs
 | [], rows, m => by rw [yN]; exact ⟨[], (List.append_nil _).symm⟩
 | t :: ts, rows, m => by
   rw [yN]
   obtain ⟨xs, hx⟩ := bld_ext t rows
   obtain ⟨ys, hy⟩ := jD (bld t rows).1 (.bo (m : Int) (tnB e (bld t rows).2 : Nat))
   obtain ⟨zs, hz⟩ := jO e ts (yS (bld t rows).1 (.bo (m : Int) (tnB e (bld t rows).2 : Nat))).1 (yS (bld t rows).1 (.bo (m : Int) (tnB e (bld t rows).2 : Nat))).2
   exact ⟨xs ++ (ys ++ zs), by rw [hz, hy, hx, List.append_assoc, List.append_assoc]⟩
end
structure Sht (rows : List Rw) : Prop where
 in_ : ∀ (k : Nat) (i j : Int), rows[k]? = some (.bo i j) -> (0 <= i /\ i < 2 * (k : Int)) /\ 0 <= j /\ j < 2 * (k : Int)
 hd : rows[0]? = some .no
 few : ∀ k, rows[k]? = some .no -> k = 0
 nm : ∀ (k : Nat) (x : Str), rows[k]? = some (.nm x) -> Nm x
theorem Sht.pos {rows : List Rw} (h : Sht rows) : 1 <= rows.length := (List.getElem?_eq_some_iff.mp h.hd).1
theorem Sht.one : Sht [.no] := by
 have o : ∀ (k : Nat) (r : Rw), ([Rw.no] : List Rw)[k]? = some r -> k = 0 /\ r = .no := fun k r h => by
   cases k with
   | zero => simp at h; exact ⟨rfl, h.symm⟩
   | succ k => simp at h
 exact ⟨fun k i j h => (by cases (o k _ h).2), rfl, fun k h => (o k _ h).1, fun k x h => (by cases (o k _ h).2)⟩
def RNext (n : Nat) : Rw -> Prop
 | .no => False
 | .nm x => Nm x
 | .bo i j => (0 <= i /\ i < 2 * (n : Int)) /\ 0 <= j /\ j < 2 * (n : Int)
theorem Sht.snoc {rows : List Rw} {r : Rw} (h : Sht rows) (hr : RNext rows.length r) : Sht (rows ++ [r]) := by
 have o : ∀ (k : Nat) (q : Rw), (rows ++ [r])[k]? = some q -> rows[k]? = some q \/ (k = rows.length /\ q = r) := fun k q hq => by
   by_cases c : k < rows.length
   · rw [List.getElem?_append_left c] at hq
     exact .inl hq
   · have := (List.getElem?_eq_some_iff.mp hq).1
     rw [List.length_append, List.length_singleton] at this
     have e : k = rows.length := by omega
     subst e
     rw [List.getElem?_append_right (Nat.le_refl _)] at hq
     simp at hq
     exact .inr ⟨rfl, hq.symm⟩
 refine ⟨fun k i j hk => ?_, ?_, fun k hk => ?_, fun k x hk => ?_⟩
 · rcases o k _ hk with h1 | ⟨rfl, rfl⟩
   · exact h.in_ k i j h1
   · exact hr
 · rw [List.getElem?_append_left (by have := h.pos; omega)]
   exact h.hd
 · rcases o k _ hk with h1 | ⟨rfl, rfl⟩
   · exact h.few k h1
   · exact hr.elim
 · rcases o k _ hk with h1 | ⟨rfl, rfl⟩
   · exact h.nm k x h1
   · exact hr
def Grw (rows : List Rw) (m : Nat) (p : List Rw × Nat) : Prop := Sht p.1 /\ rows.length <= p.1.length /\ p.1.length <= rows.length + m /\ p.2 < 2 * p.1.length
theorem tnM_lt {n m : Nat} (h : n < 2 * m) : tnM n < 2 * m := by unfold tnM; omega
theorem jA {e : Bool} {n m : Nat} (h : n < 2 * m) : tnB e n < 2 * m := by
 cases e
 · exact h
 · exact tnM_lt h
theorem rix_lt {rows : List Rw} {r : Rw} {k : Nat} (h : rix rows r = some k) : k < rows.length := by
 unfold rix at h
 exact (List.findIdx?_eq_some_iff_getElem.mp h).1
theorem jC {rows : List Rw} {r : Rw} (h : Sht rows) (hr : RNext rows.length r) : Grw rows 1 (yS rows r) := by
 unfold yS
 split
 · rename_i k hk
   have := rix_lt hk
   exact ⟨h, Nat.le_refl _, Nat.le_succ _, by show 2 * k < 2 * rows.length; omega⟩
 · refine ⟨h.snoc hr, ?_, ?_, ?_⟩
   · simp
   · simp
   · show 2 * rows.length < 2 * (rows ++ [r]).length
     rw [List.length_append, List.length_singleton]
     omega
mutual
theorem bld_grw : ∀ (t : Tm) (n : Nat) (rows : List Rw), Fit n t -> Sht rows -> Grw rows (2 * wt t - 1) (bld t rows)
 | .name x, n, rows, hf, h => by
   rw [bld, wt]
   exact jC h (by unfold Fit at hf; exact hf)
 | .node w ts, n, rows, hf, h => by
   have hf' : ∀ t ∈ ts, ∃ m, Fit m t := fun t ht => by
     cases n with
     | zero => unfold Fit at hf; rw [hf.2] at ht; cases ht
     | succ n => unfold Fit at hf; exact ⟨n, hf.2 t ht⟩
   have hp := h.pos
   rw [bld, wt]
   split
   · exact ⟨h, Nat.le_refl _, by show rows.length <= _; omega, by show 0 < 2 * rows.length; omega⟩
   · split
     · exact ⟨h, Nat.le_refl _, by show rows.length <= _; omega, by show 1 < 2 * rows.length; omega⟩
     · split
       · obtain ⟨h1, h2, h3, h4⟩ := bldH_grw false ts rows hf' h
         exact ⟨h1, h2, by show (yX false ts rows).1.length <= _; omega, tnM_lt h4⟩
       · obtain ⟨h1, h2, h3, h4⟩ := bldH_grw (decide (w = "either")) ts rows hf' h
         exact ⟨h1, h2, by show (yX _ ts rows).1.length <= _; omega, jA h4⟩
theorem bldH_grw (e : Bool) : ∀ (ts : List Tm) (rows : List Rw), (∀ t ∈ ts, ∃ m, Fit m t) -> Sht rows -> Grw rows (2 * wts ts) (yX e ts rows)
 | [], rows, _, h => by
   rw [yX]
   have := h.pos
   exact ⟨h, Nat.le_refl _, Nat.le_add_right _ _, by show 0 < 2 * rows.length; omega⟩
 | t :: ts, rows, hf, h => by
   rw [yX, wts]
   obtain ⟨m, hm⟩ := hf t List.mem_cons_self
   obtain ⟨a1, a2, a3, a4⟩ := bld_grw t m rows hm h
   obtain ⟨b1, b2, b3, b4⟩ := bldJ_grw e ts (bld t rows).1 (tnB e (bld t rows).2) (fun u hu => hf u (List.mem_cons_of_mem _ hu)) a1 (jA a4)
   have hw := wt_pos t
   exact ⟨b1, by omega, by omega, b4⟩
theorem bldJ_grw (e : Bool) : ∀ (ts : List Tm) (rows : List Rw) (m : Nat), (∀ t ∈ ts, ∃ m, Fit m t) -> Sht rows -> m < 2 * rows.length -> Grw rows (2 * wts ts) (yN e ts rows m)
 | [], rows, m, _, h, hm => by
   rw [yN]
   exact ⟨h, Nat.le_refl _, Nat.le_add_right _ _, hm⟩
 | t :: ts, rows, m, hf, h, hm => by
   rw [yN, wts]
   obtain ⟨n, hn⟩ := hf t List.mem_cons_self
   obtain ⟨a1, a2, a3, a4⟩ := bld_grw t n rows hn h
   have a5 := jA (e := e) a4
   obtain ⟨c1, c2, c3, c4⟩ := jC (r := .bo (m : Int) (tnB e (bld t rows).2 : Nat)) a1 ⟨⟨by omega, by omega⟩, by omega, by omega⟩
   obtain ⟨b1, b2, b3, b4⟩ := bldJ_grw e ts _ _ (fun u hu => hf u (List.mem_cons_of_mem _ hu)) c1 c4
   have hw := wt_pos t
   exact ⟨b1, by omega, by omega, b4⟩
end
abbrev s_o : Stmt := top 11
theorem sc_o : FnScope ["places", "row"] ["places", "row"] (zG s_o) := ⟨rfl, rfl, rfl, by decide +kernel, rfl, by decide +kernel, by decide +kernel⟩
abbrev s_n : Stmt := top 12
theorem sc_n : FnScope ["n", "turn"] ["n", "turn"] (zG s_n) := ⟨rfl, rfl, rfl, by decide +kernel, rfl, by decide +kernel, by decide +kernel⟩
abbrev s_h : Stmt := top 13
theorem sc_h : FnScope ["row_number", "places", "t"] ["row_number", "places", "t"] (zG s_h) := ⟨rfl, rfl, rfl, by decide +kernel, rfl, by decide +kernel, by decide +kernel⟩
abbrev s_a : Stmt := top 14
theorem sc_a : FnScope ["row_number", "places", "t", "turn", "whole", "part", "last"] ["row_number", "places", "t"] (zG s_a) := ⟨rfl, rfl, rfl, by decide +kernel, rfl, by decide +kernel, by decide +kernel⟩
abbrev RwAts (H : Hp) (rows : List Rw) (us : List V) : Prop := DAts H (rows.map dRw) us
theorem xX {α : Type} {H : Hp} {f : α -> Dt} {xs : List α} {us : List V} {i : Nat} {v : V} (h : DAts H (xs.map f) us) (hv : us[i]? = some v) : ∃ x, xs[i]? = some x /\ DAt H (f x) v := by
 have hl := DAts.length h
 rw [List.length_map] at hl
 have hi : i < xs.length := by rw [← hl]; exact (List.getElem?_eq_some_iff.mp hv).1
 obtain ⟨u, h1, h2⟩ := DAts.get (d := f xs[i]) h (by rw [List.getElem?_map, List.getElem?_eq_getElem hi]; rfl)
 rw [hv] at h1
 cases h1
 exact ⟨_, List.getElem?_eq_getElem hi, h2⟩
theorem RwAt.out {H : Hp} {r : Rw} {v : V} (h : DAt H (dRw r) v) : ∃ a x us, v = .ref a /\ H a = some (.tup (.str x :: us)) /\ (match r with | .no => x = "none" /\ us = [] | .nm y => x = "name" /\ us = [.str y] | .bo i j => x = "both" /\ us = [.int i, .int j]) := by
 cases r with
 | no =>
   obtain ⟨a, vs, e1, e2, u1, r1, q1, h1, h2⟩ := h
   have h1 : u1 = .str "none" := h1
   have h2 : r1 = [] := h2
   subst h2 q1 h1
   exact ⟨a, _, _, e1, e2, rfl, rfl⟩
 | nm y =>
   obtain ⟨a, vs, e1, e2, u1, r1, q1, h1, u2, r2, q2, h2, h3⟩ := h
   have h1 : u1 = .str "name" := h1
   have h2 : u2 = .str y := h2
   have h3 : r2 = [] := h3
   subst h3 q2 q1 h1 h2
   exact ⟨a, _, _, e1, e2, rfl, rfl⟩
 | bo i j =>
   obtain ⟨a, vs, e1, e2, u1, r1, q1, h1, u2, r2, q2, h2, u3, r3, q3, h3, h4⟩ := h
   have h1 : u1 = .str "both" := h1
   have h2 : u2 = .int i := h2
   have h3 : u3 = .int j := h3
   have h4 : r3 = [] := h4
   subst h4 q3 q2 q1 h1 h2 h3
   exact ⟨a, _, _, e1, e2, rfl, rfl⟩
theorem tnB_xor (e : Bool) (n : Nat) : Builtin.bitXor (n : Int) (if e = true then 1 else 0) = ((tnB e n : Nat) : Int) := by
 cases e with
 | false => exact PyProof.Rows.bitXor_zero _
 | true =>
   rw [if_pos rfl, xor1]
   unfold tn1 tnB tnM
   rw [if_pos rfl]
   omega
def keyR : Rw -> List Key
 | .no => [.inr "none"]
 | .nm x => [.inr "name", .inr x]
 | .bo i j => [.inr "both", .inl i, .inl j]
theorem keyR_inj {r q : Rw} (h : keyR r = keyR q) : r = q := by
 cases r <;> cases q <;> simp [keyR] at h ⊢ <;> first | exact h | exact h.elim
theorem RwAt.key {H : Hp} {r : Rw} {v : V} (h : DAt H (dRw r) v) : ∃ a, v = .ref a /\ H a = some (.tup ((keyR r).map kV)) := by
 obtain ⟨a, x, us, e, g, m⟩ := RwAt.out h
 refine ⟨a, e, ?_⟩
 cases r with
 | no => obtain ⟨rfl, rfl⟩ := m; exact g
 | nm y => obtain ⟨rfl, rfl⟩ := m; exact g
 | bo i j => obtain ⟨rfl, rfl⟩ := m; exact g
theorem deq_rw (r q : Rw) : deq (dRw r) (dRw q) = true ↔ r = q := by
 constructor
 · intro h
   cases r <;> cases q <;> simp [dRw, deq, deqs] at h ⊢ <;> first | exact h | exact h.elim | exact absurd h.1 (by decide) | exact absurd h (by decide) | skip
 · rintro rfl
   exact deq_refl _
def FitP : Nat -> Tm -> Prop
 | 0, _ => False
 | n + 1, t => Fit n t
theorem FitP.node {n : Nat} {wd : Str} {ts : List Tm} (h : FitP (n + 1) (.node wd ts)) : Sh wd ts.length /\ ∀ t ∈ ts, FitP n t := by
 have h : Fit n (.node wd ts) := h
 cases n with
 | zero => unfold Fit at h; exact ⟨h.1, fun t ht => by rw [h.2] at ht; cases ht⟩
 | succ n => unfold Fit at h; exact h
theorem xB (a b : Str) : deq (.str a) (.str b) = decide (a = b) := by
 rw [Bool.eq_iff_iff, decide_eq_true_eq]
 simp [deq]
theorem cut_two (x y : V) (xs : List V) : yO (x :: y :: xs) (some 2) none = xs := by
 unfold yO
 have e : HT.sIx (x :: y :: xs).length 0 (some 2) = 2 := by
   unfold HT.sIx
   simp only [List.length_cons]
   rw [if_neg (by omega)]
   omega
 rw [e, HT.sIx_none, List.take_of_length_le (by simp)]
 rfl
def plX : List Rw -> List Addr -> Nat -> List XE
 | r :: rows, a :: as, k => (keyR r, a, V.int (k : Nat)) :: plX rows as (k + 1)
 | _, _, _ => []
theorem plX_len : ∀ (rows : List Rw) (as : List Addr) (k : Nat), as.length = rows.length -> (plX rows as k).length = rows.length
 | [], [], _, _ => rfl
 | [], _ :: _, _, h => by cases h
 | _ :: _, [], _, h => by cases h
 | r :: rows, a :: as, k, h => congrArg (· + 1) (plX_len rows as (k + 1) (Nat.succ.inj h))
theorem plX_mem : ∀ (rows : List Rw) (as : List Addr) (k : Nat) (x : XE), x ∈ plX rows as k -> ∃ (i : Nat) (r : Rw) (a : Addr), rows[i]? = some r /\ as[i]? = some a /\ x.1 = keyR r /\ x.2.1 = a
 | [], _, _, _, h => by unfold plX at h; cases h
 | _ :: _, [], _, _, h => by unfold plX at h; cases h
 | r :: rows, a :: as, k, x, h => by
   unfold plX at h
   rcases List.mem_cons.mp h with rfl | h
   · exact ⟨0, r, a, rfl, rfl, rfl, rfl⟩
   · obtain ⟨i, r', a', h1, h2, h3⟩ := plX_mem rows as (k + 1) x h
     exact ⟨i + 1, r', a', h1, h2, h3⟩
theorem xV (r : Rw) : ∀ (rows : List Rw) (as : List Addr) (k : Nat), as.length = rows.length -> xY (plX rows as k) (keyR r) = (rix rows r).map fun i => V.int ((k + i : Nat) : Int)
 | [], [], _, _ => rfl
 | [], _ :: _, _, h => by cases h
 | _ :: _, [], _, h => by cases h
 | q :: rows, a :: as, k, h => by
   have ih := xV r rows as (k + 1) (Nat.succ.inj h)
   unfold xY rix at ih ⊢
   rw [plX, List.find?_cons, List.findIdx?_cons]
   by_cases c : q = r
   · subst c
     rw [decide_eq_true rfl, deq_refl]
     rfl
   · rw [decide_eq_false (fun z => c (keyR_inj z)), Bool.eq_false_iff.mpr (fun z => c ((deq_rw q r).mp z))]
     show Option.map _ (List.find? _ (plX rows as (k + 1))) = _
     rw [ih]
     cases List.findIdx? (fun x => deq (dRw x) (dRw r)) rows with
     | none => rfl
     | some i => show some (V.int ((k + 1 + i : Nat) : Int)) = some (V.int ((k + (i + 1) : Nat) : Int)); rw [show k + 1 + i = k + (i + 1) by omega]
theorem plX_snoc (r : Rw) (b : Addr) : ∀ (rows : List Rw) (as : List Addr) (k : Nat), as.length = rows.length -> plX (rows ++ [r]) (as ++ [b]) k = plX rows as k ++ [(keyR r, b, V.int ((k + rows.length : Nat) : Int))]
 | [], [], k, _ => rfl
 | [], _ :: _, _, h => by cases h
 | _ :: _, [], _, h => by cases h
 | q :: rows, a :: as, k, h => by
   show (keyR q, a, V.int (k : Nat)) :: plX (rows ++ [r]) (as ++ [b]) (k + 1) = _
   rw [plX_snoc r b rows as (k + 1) (Nat.succ.inj h), show k + 1 + rows.length = k + (q :: rows).length by rw [List.length_cons]; omega]
   rfl
theorem plX_refs : ∀ (rows : List Rw) (as : List Addr) (k : Nat), as.length = rows.length -> ((plX rows as k).map fun x => V.ref x.2.1) = as.map V.ref
 | [], [], _, _ => rfl
 | [], _ :: _, _, h => by cases h
 | _ :: _, [], _, h => by cases h
 | q :: rows, a :: as, k, h => congrArg (V.ref a :: ·) (plX_refs rows as (k + 1) (Nat.succ.inj h))
theorem Same.sqT {K : PySem.W.Frag} {H H' : Hp} {a : Addr} {xs : List V} (e : Same H H') (h : SqT K H a xs) : SqT K H' a xs := by
 rcases h with (h | ⟨o, h⟩) | h
 · exact .inl (.inl (e _ _ h))
 · exact .inl (.inr ⟨o, e _ _ h⟩)
 · exact .inr h
structure Px (P : Program) (w : World) (K : PySem.W.Frag) (H J : Hp) (pa : Addr) (rows : List Rw) (as : List Addr) : Prop where
 eq : H = upd J pa (DxO P w pa (plX rows as 0))
 no : J pa = none
 len : as.length = rows.length
 few : rows.length <= 40
 lo : (pa == sysModules) = false
 keys : ∀ (i : Nat) (r : Rw) (a : Addr), rows[i]? = some r -> as[i]? = some a -> SqT K J a ((keyR r).map kV)
section
variable {P : Program} {w : World} {K : PySem.W.Frag} {H J H' : Hp} {pa : Addr} {rows : List Rw} {as : List Addr}
theorem Px.at (h : Px P w K H J pa rows as) : H pa = some (DxO P w pa (plX rows as 0)) := by rw [h.eq]; exact zB
theorem Px.sub (h : Px P w K H J pa rows as) : Same J H := by rw [h.eq]; exact zF h.no _
theorem Px.dx (h : Px P w K H J pa rows as) : DxAt P w K H pa (plX rows as 0) := by
 refine ⟨h.at, by rw [plX_len _ _ _ h.len]; have := h.few; omega, h.lo, fun x hx => ?_⟩
 obtain ⟨i, r, a, h1, h2, h3, h4⟩ := plX_mem rows as 0 x hx
 rw [h3, h4]
 exact Same.sqT h.sub (h.keys i r a h1 h2)
theorem Px.free {p : Addr} (h : Px P w K H J pa rows as) (hp : H p = none) : J p = none := h.sub.free hp
theorem Px.ext (h : Px P w K H J pa rows as) (e : Same H H') : ∃ J', Px P w K H' J' pa rows as /\ Same J J' := by
 have sJ : Same J (fun b => if b = pa then none else H' b) := fun b o hb => by
   have hne : b ≠ pa := fun z => by rw [z, h.no] at hb; cases hb
   show (if b = pa then none else H' b) = some o
   rw [if_neg hne]
   exact e _ _ (h.sub _ _ hb)
 refine ⟨fun b => if b = pa then none else H' b, ⟨?_, if_pos rfl, h.len, h.few, h.lo, fun i r a h1 h2 => Same.sqT sJ (h.keys i r a h1 h2)⟩, sJ⟩
 funext b
 by_cases hb : b = pa
 · subst hb
   rw [zB]
   exact e _ _ h.at
 · rw [zH hb]
   exact (if_neg hb).symm
theorem Px.tup {p : Addr} {vs : List V} (h : Px P w K H J pa rows as) (hp : H p = some (.tup vs)) : J p = some (.tup vs) := by
 have hn : p ≠ pa := fun z => by rw [z, h.at] at hp; cases hp
 rw [h.eq, zH hn] at hp
 exact hp
theorem Px.new {p : Addr} (h : Px P w K H J pa rows as) (hp : H p = none) (o : HO) : Px P w K (upd H p o) (upd J p o) pa rows as := by
 have hne : p ≠ pa := fun z => by rw [z, h.at] at hp; cases hp
 refine ⟨?_, by rw [zH (Ne.symm hne)]; exact h.no, h.len, h.few, h.lo, fun i r a h1 h2 => Same.sqT (zF (h.free hp) o) (h.keys i r a h1 h2)⟩
 rw [h.eq]
 funext b
 by_cases h1 : b = p
 · subst h1
   rw [zB, zH hne, zB]
 · rw [zH h1]
   by_cases h2 : b = pa
   · subst h2
     rw [zB, zB]
   · rw [zH h2, zH h2, zH h1]
end
def Fo40 (P : Program) (w : World) (K : PySem.W.Frag) (CU : Addr) (J : Hp) (pa : Addr) (p : List Rw × Nat) (Q : VK) (E : XK) : Prop :=
 (p.1.length <= 40 -> ∀ (H' J' : Hp) (as' : List Addr), Same J J' -> Px P w K H' J' pa p.1 as' -> Q (.int (p.2 : Nat)) H') /\ (40 < p.1.length -> ∀ H', Same J H' -> E (.ref CU) none H')
def spPi (P : Program) (w : World) (K : PySem.W.Frag) (CU : Addr) : Sp := fun vs H Q E => ∃ (pa b : Addr) (J : Hp) (rows : List Rw) (as : List Addr) (r : Rw), vs = [.ref pa, .ref b] /\ Px P w K H J pa rows as /\ J b = some (.tup ((keyR r).map kV)) /\ Fo40 P w K CU J pa (yS rows r) Q E
def spTu : Sp := fun vs H Q _ => ∃ (n : Nat) (e : Bool), vs = [.int n, .int (if e then 1 else 0)] /\ Q (.int (tnB e n : Nat)) H
def spNb (P : Program) (w : World) (K : PySem.W.Frag) (CU ff : Addr) (n : Nat) : Sp := fun vs H Q E => ∃ (pa : Addr) (v : V) (J : Hp) (rows : List Rw) (as : List Addr) (t : Tm), vs = [.ref ff, .ref pa, v] /\ Px P w K H J pa rows as /\ TAt J t v /\ FitP n t /\ Fo40 P w K CU J pa (bld t rows) Q E
def spJn (P : Program) (w : World) (K : PySem.W.Frag) (CU ff : Addr) (n : Nat) : Sp := fun vs H Q E => ∃ (pa ta : Addr) (us : List V) (J : Hp) (rows : List Rw) (as : List Addr) (e : Bool) (ts : List Tm), vs = [.ref ff, .ref pa, .ref ta] /\ Px P w K H J pa rows as /\ J ta = some (.tup (.str (if e then "either" else "both") :: us)) /\ TAts J ts us /\ (∀ t ∈ ts, FitP n t) /\ ts ≠ [] /\ Fo40 P w K CU J pa ((yX e ts rows).1, tnB e (yX e ts rows).2) Q E
section
variable {P : Program} {w : World} {K : PySem.W.Frag} {mg : Str -> Option Value} {base : Heap} {f ff : Addr} {fd : FuncData} {k n : Nat} {C_TooMuch : Addr} {bm : List Value} {bn nid iid : String}
theorem ok_turned (bi : Bi mg) (F : Fun K "turned" "turned" s_n f fd) : FnOk P w K mg base CX0 1 f fd ["n", "turn"] spTu := by
 refine F.ok sc_n (fun vs H Q E h => ?_) (fun cdv A outer s H vs Q E hr h => ?_)
 · obtain ⟨o, e, rfl, _⟩ := h
   rfl
 obtain ⟨n, e, rfl, q⟩ := h
 refine ⟨_, (zE (zN (pe_ifExp (zK op_isN (pv 0) jG (zP _)) jG (zJ op_xor (pv 0) (pv 1))))), ?_⟩
 simp! []
 rw [if_neg (fun z => by cases z), tnB_xor]
 exact q
theorem ok_put_in (O_TooMuch : PyProof.Rows.OwnCls "TooMuch" C_TooMuch bm nid mg base) (FB_TooMuch : ExcBaseFacts bn nid iid bm) (m_TooMuch : mg "TooMuch" = some (.ref C_TooMuch)) (g_MOST_ROWS : Gc mg "MOST_ROWS" (.int 40)) (bi : Bi mg) (F : Fun K "put_in" "put_in" s_o f fd) : FnOk P w K mg base (CX1 P w) 1 f fd ["places", "row"] (spPi P w K C_TooMuch) := by
 refine F.okX sc_o (fun vs H Q E h => ?_) (fun cdv A outer s H vs Q E hr h => ?_)
 · obtain ⟨pa, b, J, rows, as, r, rfl, _⟩ := h
   rfl
 obtain ⟨pa, b, J, rows, as, r, rfl, px, hb, q, qx⟩ := h
 refine ⟨_, (zC (zU (zK (op_notInX (hu_of hr)) (pv 1) (pv 0) (by with_unfolding_all rfl)) (zC (zU (zK op_eq (zO call_lenX rfl bi.len bt_len (zA (pv 0) pa_nil)) (xQ g_MOST_ROWS rfl) (zP _)) (zE (ps_raise O_TooMuch FB_TooMuch rfl m_TooMuch (zA zQ pa_nil))) pss_nil) (zE (ps_dputX (hu_of hr) (pv 0) (pv 1) (zO call_lenX rfl bi.len bt_len (zA (pv 0) pa_nil)) rfl))) pss_nil) (zE (zN (zJ op_mul zD (pe_dgetX (hu_of hr) (pv 0) (pv 1) (fun _ _ => rfl)))))), ?_⟩
 refine zI fun N hN => ?_
 simp! [rNiX]
 have hfew := px.few
 refine ⟨_, px.dx, keyR r, SqT.of (px.sub _ _ hb), ?_⟩
 rw [xV r rows as 0 px.len]
 have fin : ∀ (rows' : List Rw) (as' : List Addr) (G : Hp) (k : Nat), Px P w K G J pa rows' as' -> rix rows' r = some k -> Q (.int ((2 * k : Nat) : Int)) G -> N [some (V.ref pa), some (V.ref b)] G := fun rows' as' G k px' hk q' => hN _ _ (by
   simp! [tDGX]
   refine ⟨_, px'.dx, keyR r, SqT.of (px'.sub _ _ hb), V.int ((0 + k : Nat) : Int), by rw [xV r rows' as' 0 px'.len, hk]; rfl, ?_⟩
   refine ⟨_, rfl, .inl ⟨by decide, by decide⟩, ?_⟩
   rw [show (2 : Int) * ((0 + k : Nat) : Int) = ((2 * k : Nat) : Int) by omega]
   exact q')
 unfold yS at q qx
 cases c : rix rows r with
 | some k =>
   rw [c] at q qx
   rw [if_neg (show ¬ ((Option.map (fun i : Nat => V.int ((0 + i : Nat) : Int)) (some k)).isSome = false) from fun z => by cases z)]
   exact fin rows as H k px c (q hfew H J as (Same.refl _) px)
 | none =>
   rw [c] at q qx
   rw [if_pos (show (Option.map (fun i : Nat => V.int ((0 + i : Nat) : Int)) none).isSome = false from rfl)]
   refine ⟨_, px.dx, rfl, ?_⟩
   rw [plX_len _ _ _ px.len]
   by_cases h40 : rows.length = 40
   · rw [if_pos (by omega)]
     simp! [tRaise]
     exact ⟨zV (by decide), qx (by show 40 < (rows ++ [r]).length; rw [List.length_append, List.length_singleton]; omega) H px.sub⟩
   · rw [if_neg (by omega)]
     simp! [sDPX]
     refine ⟨_, px.dx, _, px.dx, keyR r, SqT.of (px.sub _ _ hb), by rw [xV r rows as 0 px.len, c]; rfl, ?_⟩
     have px2 : Px P w K (upd H pa (DxO P w pa (plX rows as 0 ++ [(keyR r, b, V.int ((plX rows as 0).length : Nat))]))) J pa (rows ++ [r]) (as ++ [b]) := by
       refine ⟨?_, px.no, by rw [List.length_append, List.length_append, px.len]; rfl, by rw [List.length_append, List.length_singleton]; omega, px.lo, fun i q a h1 h2 => ?_⟩
       · rw [plX_snoc r b rows as 0 px.len, plX_len _ _ _ px.len, Nat.zero_add, px.eq, xF]
       · by_cases hi : i < rows.length
         · rw [List.getElem?_append_left hi] at h1
           rw [List.getElem?_append_left (by rw [px.len]; exact hi)] at h2
           exact px.keys i q a h1 h2
         · have hi2 := (List.getElem?_eq_some_iff.mp h1).1
           rw [List.length_append, List.length_singleton] at hi2
           have ei : i = rows.length := by omega
           subst ei
           rw [List.getElem?_append_right (Nat.le_refl _), Nat.sub_self] at h1
           rw [List.getElem?_append_right (by rw [px.len]; exact Nat.le_refl _), px.len, Nat.sub_self] at h2
           cases h1
           cases h2
           exact SqT.of hb
     exact fin _ _ _ _ px2 (jE c) (q (by show (rows ++ [r]).length <= 40; rw [List.length_append, List.length_singleton]; omega) _ J _ (Same.refl _) px2)
end
theorem xN {e : Bool} {ts : List Tm} {rows : List Rw} {m : Nat} (h : 40 < rows.length) : 40 < (yN e ts rows m).1.length := by
 obtain ⟨xs, hx⟩ := jO e ts rows m
 rw [hx, List.length_append]
 omega
theorem long_rput {rows : List Rw} {r : Rw} (h : 40 < rows.length) : 40 < (yS rows r).1.length := by
 obtain ⟨xs, hx⟩ := jD rows r
 rw [hx, List.length_append]
 omega
section
variable {P : Program} {w : World} {K : PySem.W.Frag} {mg : Str -> Option Value} {base : Heap} {f ff : Addr} {fd : FuncData} {k n : Nat} {CU : Addr}
theorem ok_joined (hf_row_number : HasFX P w K mg base 1 ff ["places", "row"] (spPi P w K CU)) (h_n : Has P w K mg base 1 "turned" ["n", "turn"] spTu) (h_h : HasX P w K mg base (k + 1) "number_by" ["row_number", "places", "t"] (spNb P w K CU ff n)) (F : Fun K "joined_number" "joined_number" s_a f fd) : FnOk P w K mg base (CX1 P w) (k + 2) f fd ["row_number", "places", "t"] (spJn P w K CU ff n) := by
 refine F.okX sc_a (fun vs H Q E h => ?_) (fun cdv A outer s H vs Q E hr h => ?_)
 · obtain ⟨pa, ta, us, J, rows, as, e, ts, rfl, _⟩ := h
   rfl
 obtain ⟨pa, ta, us, J, rows, as, e, ts, rfl, px, hta, hts, hf, hne, q, qx⟩ := h
 refine ⟨_, (zC (zM (i := 3) sc_a.nd rfl (Or.inl rfl) (pe_ifExp (zK (yK hr.units) (yA ix_tup (pv 2) zD (fun _ _ => rfl)) zQ (zP _)) zD zD)) (zC (zM (i := 4) sc_a.nd rfl (Or.inl rfl) (zL h_n (hr.mono (by omega)) rfl (zA (xA h_h (hr.mono (by omega)) rfl (zA (pv 0) (zA (pv 1) (zA (yA ix_tup (pv 2) zD (fun _ _ => rfl)) pa_nil)))) (zA (pv 3) pa_nil)))) (zC (yZ PassesOwn.leaving rfl (pi_tup (yH sl_tupG (pv 2) (yG zD) po_none)) (yP (i := 5) sc_a.nd rfl (Or.inl rfl)) (zC (zM (i := 6) sc_a.nd rfl (Or.inl rfl) (zL h_n (hr.mono (by omega)) rfl (zA (xA h_h (hr.mono (by omega)) rfl (zA (pv 0) (zA (pv 1) (zA (pv 5) pa_nil)))) (zA (pv 3) pa_nil)))) (zE (zM (i := 4) sc_a.nd rfl (Or.inl rfl) (jS (i := 0) hf_row_number (hr.mono (by omega)) (zA (pv 1) (zA (yE (zA zQ (zA (pv 4) (zA (pv 6) pa_nil)))) pa_nil))))))) (zE (zN (zL h_n (hr.mono (by omega)) rfl (zA (pv 4) (zA (pv 3) pa_nil)))))))), ?_⟩
 obtain ⟨t0, ts', rfl⟩ : ∃ t0 ts', ts = t0 :: ts' := by
   cases ts with
   | nil => exact absurd rfl hne
   | cons t0 ts' => exact ⟨t0, ts', rfl⟩
 obtain ⟨u0, us', rfl, hu0, hus⟩ := hts
 rw [yX] at q qx
 have hul : us'.length = ts'.length := by have := DAts.length hus; rwa [List.length_map] at this
 have htaH := px.sub _ _ hta
 refine zI fun N hN => ?_
 simp! [rEqG]
 have cont : N [some (V.ref ff), some (V.ref pa), some (V.ref ta), some (V.int (if e then 1 else 0)), none, none, none] H := hN _ _ (by
   clear hN
   refine zI fun N hN => ?_
   simp! []
   refine ⟨_, SqT.of htaH, _, yB (j := 1) rfl, pa, u0, J, rows, as, t0, rfl, px, hu0, hf t0 List.mem_cons_self, fun h40 H1 J1 as1 s1 px1 => ?_, fun h40 H' s' => qx (xN h40) H' s'⟩
   refine ⟨_, e, rfl, hN _ _ ?_⟩
   clear hN
   generalize (bld t0 rows).1 = rows1 at px1 q qx h40
   generalize tnB e (bld t0 rows).2 = m1 at q qx ⊢
   refine zZ (fun σ G => ∃ (J' : Hp) (as' : List Addr) (o5 o6 : Option V), Same J J' /\ Px P w K G J' pa (yN e ts' rows1 m1).1 as' /\ σ = [some (V.ref ff), some (V.ref pa), some (V.ref ta), some (V.int (if e then 1 else 0)), some (V.int ((yN e ts' rows1 m1).2 : Nat)), o5, o6]) (fun N hN => ?_) (fun σ G h => ?_)
   · simp! [rSlG]
     refine ⟨_, (s1.trans px1.sub) _ _ hta, fun p H2 s2 kp => ?_⟩
     rw [cut_two] at kp
     obtain ⟨J2, px2, s2'⟩ := px1.ext s2
     have kp2 := px2.tup kp
     refine ⟨⟨_, SqT.of kp⟩, ?_⟩
     refine fw_tup (xs := us') (fun i σ G => ∃ (J' : Hp) (as' : List Addr) (rows' : List Rw) (mi : Nat) (o5 o6 : Option V), Same J2 J' /\ Px P w K G J' pa rows' as' /\ yN e (ts'.drop i) rows' mi = yN e ts' rows1 m1 /\ σ = [some (V.ref ff), some (V.ref pa), some (V.ref ta), some (V.int (if e then 1 else 0)), some (V.int (mi : Nat)), o5, o6]) ⟨J2, as1, rows1, m1, _, _, Same.refl _, px2, by rw [List.drop_zero], rfl⟩ (fun i σ G _ h => by obtain ⟨_, _, _, _, _, _, sg, pg, _⟩ := h; exact SqT.of (pg.sub _ _ (sg _ _ kp2))) (fun i x σ G hx h => ?_) (fun σ G h => ?_)
     · obtain ⟨J3, as3, rows3, mi, o5, o6, s3, px3, hb3, rfl⟩ := h
       obtain ⟨t, hti, hx'⟩ := xX (f := toD) hus hx
       obtain ⟨hil, hie⟩ := List.getElem?_eq_some_iff.mp hti
       rw [List.drop_eq_getElem_cons hil, hie, yN] at hb3
       have sA := s1.trans (s2'.trans s3)
       refine zI fun N hN => ?_
       simp! []
       refine ⟨pa, x, J3, rows3, as3, t, rfl, px3, DAt.same sA hx', hf t (List.mem_cons_of_mem _ (List.mem_of_getElem? hti)), fun h41 H4 J4 as4 s4 px4 => ?_, fun h41 H' s' => qx (by rw [← hb3]; exact xN (long_rput h41)) H' (sA.trans s')⟩
       refine ⟨_, e, rfl, hN _ _ ?_⟩
       clear hN
       generalize (bld t rows3).1 = rows4 at px4 hb3 h41
       generalize tnB e (bld t rows3).2 = m4 at hb3 ⊢
       simp! [qB]
       refine ⟨zV (by decide), fun p2 hp2 => ?_⟩
       have px5 := px4.new hp2 (.tup [V.str "both", V.int (mi : Int), V.int (m4 : Int)])
       have s5 := zF (px4.free hp2) (.tup [V.str "both", V.int (mi : Int), V.int (m4 : Int)])
       have k5 : upd J4 p2 (.tup [V.str "both", V.int (mi : Int), V.int (m4 : Int)]) p2 = some (.tup ((keyR (.bo (mi : Int) (m4 : Int))).map kV)) := zB
       refine ⟨pa, p2, _, rows4, as4, .bo (mi : Int) (m4 : Int), rfl, px5, k5, fun h42 H6 J6 as6 s6 px6 => ?_, fun h42 H' s' => qx (by rw [← hb3]; exact xN h42) H' (sA.trans (s4.trans (s5.trans s')))⟩
       exact ⟨J6, s3.trans (s4.trans (s5.trans s6)), as6, _, px6, _, hb3, rfl, _, rfl⟩
     · obtain ⟨J3, as3, rows3, mi, o5, o6, s3, px3, hb3, rfl⟩ := h
       rw [hul, List.drop_length, yN] at hb3
       refine hN _ _ ⟨J3, as3, o5, o6, s1.trans (s2'.trans s3), ?_, ?_⟩
       · rw [← hb3]; exact px3
       · rw [← hb3]
   obtain ⟨J', as', o5, o6, sJ, px', rfl⟩ := h
   simp! []
   exact ⟨_, e, rfl, q px'.few _ J' as' sJ px'⟩)
 cases e with
 | true => exact ⟨_, SqT.of htaH, _, at0, 0, .str "either", rfl, .str "either", rfl, trivial, by decide, by rw [deq_refl, if_pos rfl]; exact cont⟩
 | false => exact ⟨_, SqT.of htaH, _, at0, 0, .str "both", rfl, .str "either", rfl, trivial, by decide, by rw [show deq (.str "both") (.str "either") = false from by simp [deq]; decide, if_neg (by decide)]; exact cont⟩
theorem ok_number (hf_row_number : HasFX P w K mg base 1 ff ["places", "row"] (spPi P w K CU)) (h_n : Has P w K mg base 1 "turned" ["n", "turn"] spTu) (h_h : HasX P w K mg base (k + 2) "number_by" ["row_number", "places", "t"] (spNb P w K CU ff n)) (h_a : HasX P w K mg base (k + 2) "joined_number" ["row_number", "places", "t"] (spJn P w K CU ff n)) (F : Fun K "number_by" "number_by" s_h f fd) : FnOk P w K mg base (CX1 P w) (k + 3) f fd ["row_number", "places", "t"] (spNb P w K CU ff (n + 1)) := by
 refine F.okX sc_h (fun vs H Q E h => ?_) (fun cdv A outer s H vs Q E hr h => ?_)
 · obtain ⟨pa, v, J, rows, as, t, rfl, _⟩ := h
   rfl
 obtain ⟨pa, v, J, rows, as, t, rfl, px, hv, hf, q, qx⟩ := h
 refine ⟨_, (zC (zU (zK (yK hr.units) (yA ix_tup (pv 2) zD (fun _ _ => rfl)) zQ (zP _)) (zE (zN zD)) pss_nil) (zC (zU (zK (yK hr.units) (yA ix_tup (pv 2) zD (fun _ _ => rfl)) zQ (zP _)) (zE (zN zD)) pss_nil) (zC (zU (zK (yK hr.units) (yA ix_tup (pv 2) zD (fun _ _ => rfl)) zQ (zP _)) (zE (zN (jS (i := 0) hf_row_number (hr.mono (by omega)) (zA (pv 1) (zA (yE (zA zQ (zA (yA ix_tup (pv 2) zD (fun _ _ => rfl)) pa_nil))) pa_nil))))) pss_nil) (zC (zU (zK (yK hr.units) (yA ix_tup (pv 2) zD (fun _ _ => rfl)) zQ (zP _)) (zE (zN (zL h_n (hr.mono (by omega)) rfl (zA (xA h_h (hr.mono (by omega)) rfl (zA (pv 0) (zA (pv 1) (zA (yA ix_tup (pv 2) zD (fun _ _ => rfl)) pa_nil)))) (zA zD pa_nil))))) pss_nil) (zE (zN (xA h_a (hr.mono (by omega)) rfl (zA (pv 0) (zA (pv 1) (zA (pv 2) pa_nil)))))))))), ?_⟩
 cases t with
 | name x =>
   obtain ⟨a, vs, rfl, ha, u1, r1, rfl, h1, u2, r2, rfl, h2, h3⟩ := hv
   have h1 : u1 = .str "name" := h1
   have h2 : u2 = .str x := h2
   have h3 : r2 = [] := h3
   subst h1 h2 h3
   replace ha := px.sub _ _ ha
   simp! [rEqG, qB]
   rw [bld] at q qx
   refine ⟨_, SqT.of ha, _, at0, 0, .str "name", rfl, .str "none", rfl, trivial, by decide, ?_⟩
   rw [xB, if_neg (by decide)]
   refine ⟨_, SqT.of ha, _, at0, 0, .str "name", rfl, .str "all", rfl, trivial, by decide, ?_⟩
   rw [xB, if_neg (by decide)]
   refine ⟨_, SqT.of ha, _, at0, 0, .str "name", rfl, .str "name", rfl, trivial, by decide, ?_⟩
   rw [xB, if_pos (by decide)]
   refine ⟨_, SqT.of ha, _, at1, zV (by decide), fun p2 hp2 => ?_⟩
   have px5 := px.new hp2 (.tup [V.str "name", V.str x])
   have s5 := zF (px.free hp2) (.tup [V.str "name", V.str x])
   have k5 : upd J p2 (.tup [V.str "name", V.str x]) p2 = some (.tup ((keyR (.nm x)).map kV)) := zB
   exact ⟨pa, p2, _, rows, as, .nm x, rfl, px5, k5, fun h42 H6 J6 as6 s6 px6 => q h42 H6 J6 as6 (s5.trans s6) px6, fun h42 H' s' => qx h42 H' (s5.trans s')⟩
 | node wd ts =>
   obtain ⟨a, vs, rfl, ha, u1, us, rfl, h1, hus⟩ := hv
   have h1 : u1 = .str wd := h1
   subst h1
   obtain ⟨hs, hfs⟩ := hf.node
   have haH := px.sub _ _ ha
   have step : ∀ {c : Str} {A B : Prop}, (wd = c -> A) -> (wd ≠ c -> B) -> ∃ x, SqT K H a x /\ ∃ x_1, atI x 0 = some x_1 /\ ∃ n_1 d, DAt H d x_1 /\ ∃ x, DAt H x (V.str c) /\ DFit (n_1 + 1) d /\ n_1 <= 60 /\ if deq d x = true then A else B := fun {c A B} h1 h2 => by
     refine ⟨_, SqT.of haH, _, at0, 0, .str wd, rfl, .str c, rfl, trivial, by decide, ?_⟩
     rw [xB]
     by_cases e : wd = c
     · rw [if_pos (decide_eq_true e)]; exact h1 e
     · rw [if_neg (by simp [e])]; exact h2 e
   simp! [rEqG, qB]
   rw [bld] at q qx
   refine step (fun e => ?_) (fun e1 => step (fun e => ?_) (fun e2 => step (fun e => ?_) (fun e3 => step (fun e => ?_) (fun e4 => ?_))))
   · rw [if_pos e] at q
     exact q px.few H J as (Same.refl _) px
   · rw [if_neg e1, if_pos e] at q
     exact q px.few H J as (Same.refl _) px
   · subst e
     rcases hs with h | h | h | h | h <;> exact absurd h.1 (by decide)
   · subst e
     rw [if_neg e1, if_neg e2, if_pos rfl] at q qx
     have hl : ts.length = 1 := by
       rcases hs with h | h | h | h | h
       · exact absurd h.1 (by decide)
       · exact absurd h.1 (by decide)
       · exact h.2
       · exact absurd h.1 (by decide)
       · exact absurd h.1 (by decide)
     obtain ⟨t, rfl⟩ : ∃ t, ts = [t] := by
       cases ts with
       | nil => simp at hl
       | cons t r =>
         cases r with
         | nil => exact ⟨t, rfl⟩
         | cons _ _ => simp at hl
     obtain ⟨u, r, rfl, hu, _⟩ := hus
     rw [yX, yN] at q qx
     exact ⟨_, SqT.of haH, _, yB (j := 1) rfl, pa, u, J, rows, as, t, rfl, px, hu, hfs t List.mem_cons_self, fun h42 H6 J6 as6 s6 px6 => ⟨_, true, rfl, q h42 H6 J6 as6 s6 px6⟩, qx⟩
   · rw [if_neg e1, if_neg e2, if_neg e4] at q qx
     refine ⟨pa, a, us, J, rows, as, decide (wd = "either"), ts, rfl, px, ?_, (by rw [toDs_map] at hus; exact hus), hfs, fun z => ?_, q, qx⟩
     · rw [ha]
       rcases hs with h | h | h | h | h
       · exact absurd h.1 e1
       · exact absurd h.1 e2
       · exact absurd h.1 e4
       · rw [h.1]; rfl
       · rw [h.1]; rfl
     · subst z
       rcases hs with h | h | h | h | h
       · exact absurd h.1 e1
       · exact absurd h.1 e2
       · exact absurd h.1 e4
       · exact absurd h.2 (by decide)
       · exact absurd h.2 (by decide)
theorem ok_number0 (F : Fun K "number_by" "number_by" s_h f fd) (hf_row_number : HasFX P w K mg base 1 ff ["places", "row"] (spPi P w K CU)) (h_n : Has P w K mg base 1 "turned" ["n", "turn"] spTu) : FnOk P w K mg base (CX1 P w) 1 f fd ["row_number", "places", "t"] (spNb P w K CU ff 0) := by
 refine F.okX sc_h (fun vs H Q E h => ?_) (fun cdv A outer s H vs Q E hr h => ?_)
 · obtain ⟨pa, v, J, rows, as, t, rfl, _⟩ := h
   rfl
 · obtain ⟨pa, v, J, rows, as, t, rfl, px, hv, hf, _⟩ := h
   exact hf.elim
theorem jL {g : Addr} {gd : FuncData} (hf_row_number : HasFX P w K mg base 1 ff ["places", "row"] (spPi P w K CU)) (h_n : Has P w K mg base 1 "turned" ["n", "turn"] spTu) (F : Fun K "number_by" "number_by" s_h f fd) (b : Binds K fd ["row_number", "places", "t"] []) (m : mg "number_by" = some (.ref f)) (G : Fun K "joined_number" "joined_number" s_a g gd) (bg : Binds K gd ["row_number", "places", "t"] []) (mgg : mg "joined_number" = some (.ref g)) : ∀ n, HasX P w K mg base (2 * n + 2) "number_by" ["row_number", "places", "t"] (spNb P w K CU ff n)
 | 0 => (xI F (ok_number0 F hf_row_number h_n) b m).mono (by omega)
 | n + 1 => by
   have ih := jL hf_row_number h_n F b m G bg mgg n
   have hj := xI G (ok_joined (k := 2 * n + 1) hf_row_number h_n ih G) bg mgg
   exact xI F (ok_number (k := 2 * n + 1) hf_row_number h_n (ih.mono (by omega)) hj F) b m
end
abbrev s_j : Stmt := top 15
theorem sc_j : FnScope ["terms", "places", "t"] ["terms"] (zG s_j) := ⟨rfl, rfl, rfl, by decide +kernel, rfl, by decide +kernel, by decide +kernel⟩
def blds : List Tm -> List Rw -> List Rw
 | [], rows => rows
 | t :: ts, rows => blds ts (bld t rows).1
theorem blds_ext : ∀ (ts : List Tm) (rows : List Rw), ∃ xs, blds ts rows = rows ++ xs
 | [], rows => ⟨[], (List.append_nil _).symm⟩
 | t :: ts, rows => by
   obtain ⟨xs, hx⟩ := bld_ext t rows
   obtain ⟨ys, hy⟩ := blds_ext ts (bld t rows).1
   exact ⟨xs ++ ys, by rw [blds, hy, hx, List.append_assoc]⟩
theorem long_blds {ts : List Tm} {rows : List Rw} (h : 40 < rows.length) : 40 < (blds ts rows).length := by
 obtain ⟨xs, hx⟩ := blds_ext ts rows
 rw [hx, List.length_append]
 omega
def spSo (K : PySem.W.Frag) (CU : Addr) : Sp := fun vs H Q E => ∃ (ta : Addr) (us : List V) (ts : List Tm), vs = [.ref ta] /\ H ta = some (.lst us) /\ TAts H ts us /\ (∀ t ∈ ts, FitP 21 t) /\
 ((blds ts [.no]).length <= 40 -> ∀ (p : Addr) (as : List Addr) (H' : Hp), Same H H' -> H' p = some (.lst (as.map V.ref)) -> as.length = (blds ts [.no]).length -> (∀ (i : Nat) (r : Rw) (a : Addr), (blds ts [.no])[i]? = some r -> as[i]? = some a -> SqT K H' a ((keyR r).map kV)) -> Q (.ref p) H') /\
 (40 < (blds ts [.no]).length -> ∀ H', Same H H' -> E (.ref CU) none H')
section
variable {P : Program} {w : World} {K : PySem.W.Frag} {mg : Str -> Option Value} {base : Heap} {f ff aN : Addr} {fd : FuncData} {CU : Addr}
theorem ok_sheet_of (g_NONE_ROW : Gc mg "NONE_ROW" (.ref aN)) (hNo : ∀ H, SqT K H aN [.str "none"]) (mf_put_in : mg "put_in" = some (.ref ff)) (bi : Bi mg) (h_h : HasX P w K mg base 44 "number_by" ["row_number", "places", "t"] (spNb P w K CU ff 21)) (F : Fun K "sheet_of" "sheet_of" s_j f fd) : FnOk P w K mg base (CX1 P w) 45 f fd ["terms"] (spSo K CU) := by
 refine F.okX sc_j (fun vs H Q E h => ?_) (fun cdv A outer s H vs Q E hr h => ?_)
 · obtain ⟨ta, us, ts, rfl, _⟩ := h
   rfl
 obtain ⟨ta, us, ts, rfl, hta, hts, hf, q, qx⟩ := h
 have hul : us.length = ts.length := by have := DAts.length hts; rwa [List.length_map] at this
 refine ⟨_, (zC (zM (i := 1) sc_j.nd rfl (Or.inl rfl) (pe_dispX (hu_of hr) (xQ g_NONE_ROW rfl) zD)) (zC (yZ PassesOwn.leaving rfl (qG (pv 0)) (yP (i := 2) sc_j.nd rfl (Or.inl rfl)) (zE (yD (xA h_h (hr.mono (by omega)) rfl (zA (pe_fnv mf_put_in rfl) (zA (pv 1) (zA (pv 2) pa_nil))))))) (zE (zN (pe_listX rfl bi.list rfl (pv 1)))))), ?_⟩
 refine zI fun N hN => ?_
 simp! [tDX1]
 refine fun pa hpa hlo => ⟨keyR .no, hNo _, zB, hN _ _ ?_⟩
 clear hN
 have px0 : Px P w K (upd (upd H pa (DxO P w pa [])) pa (DxO P w pa [(keyR .no, aN, V.int 0)])) H pa [.no] [aN] := by
   refine ⟨by rw [xF]; rfl, hpa, rfl, by decide, hlo, fun i r a h1 h2 => ?_⟩
   cases i with
   | zero => cases h1; cases h2; exact hNo _
   | succ i => cases h1
 generalize upd (upd H pa (DxO P w pa [])) pa (DxO P w pa [(keyR .no, aN, V.int 0)]) = H0 at px0 ⊢
 refine zZ (fun σ G => ∃ (J : Hp) (as : List Addr) (o2 : Option V), Same H J /\ Px P w K G J pa (blds ts [.no]) as /\ σ = [some (V.ref ta), some (V.ref pa), o2]) (fun N hN => ?_) (fun σ G h => ?_)
 · simp! []
   refine ⟨⟨_, SqL.of (px0.sub _ _ hta)⟩, ?_⟩
   refine qI (xs := us) (fun i σ G => ∃ (J : Hp) (as : List Addr) (rows : List Rw) (o2 : Option V), Same H J /\ Px P w K G J pa rows as /\ blds (ts.drop i) rows = blds ts [.no] /\ σ = [some (V.ref ta), some (V.ref pa), o2]) ⟨H, _, _, _, Same.refl _, px0, by rw [List.drop_zero], rfl⟩ (fun i σ G _ h => by obtain ⟨_, _, _, _, sg, pg, _⟩ := h; exact SqL.of (pg.sub _ _ (sg _ _ hta))) (fun i x σ G hx h => ?_) (fun σ G h => ?_)
   · obtain ⟨J, as, rows, o2, sJ, px, hb, rfl⟩ := h
     obtain ⟨t, hti, hx'⟩ := xX (f := toD) hts hx
     obtain ⟨hil, hie⟩ := List.getElem?_eq_some_iff.mp hti
     rw [List.drop_eq_getElem_cons hil, hie, blds] at hb
     simp! []
     refine ⟨pa, x, J, rows, as, t, rfl, px, DAt.same sJ hx', hf t (List.mem_of_getElem? hti), fun h40 H1 J1 as1 s1 px1 => ?_, fun h40 H' s' => qx (by rw [← hb]; exact long_blds h40) H' (sJ.trans s')⟩
     exact ⟨J1, sJ.trans s1, as1, _, px1, hb, _, rfl⟩
   · obtain ⟨J, as, rows, o2, sJ, px, hb, rfl⟩ := h
     rw [hul, List.drop_length, blds] at hb
     exact hN _ _ ⟨J, as, o2, sJ, by rw [← hb]; exact px, rfl⟩
 obtain ⟨J, as, o2, sJ, px, rfl⟩ := h
 simp! [tLX]
 refine ⟨_, px.dx, fun l hl => ?_⟩
 rw [plX_refs _ _ _ px.len]
 have sl := zF hl (.lst (as.map V.ref))
 exact q px.few l as _ (sJ.trans (px.sub.trans sl)) zB px.len (fun i r a h1 h2 => Same.sqT (px.sub.trans sl) (px.keys i r a h1 h2))
end
abbrev s_f : Stmt := top 24
theorem sc_f : FnScope ["n"] ["n"] (zG s_f) := ⟨rfl, rfl, rfl, by decide +kernel, rfl, by decide +kernel, by decide +kernel⟩
def spLt : Sp := fun vs H Q _ => ∃ n : Nat, vs = [.int n] /\ Q (.int (tnM n : Nat)) H
theorem wt_part : ∀ {ts : List Tm} {i : Nat} {t : Tm}, ts[i]? = some t -> wt t <= wts ts
 | [], _, _, h => by simp at h
 | u :: ts, 0, t, h => by
   simp at h
   subst h
   rw [wts]
   omega
 | u :: ts, i + 1, t, h => by
   rw [wts]
   have := wt_part (ts := ts) (i := i) (t := t) (by simpa using h)
   omega
section
variable {P : Program} {w : World} {K : PySem.W.Frag} {mg : Str -> Option Value} {base : Heap} {f : Addr} {fd : FuncData}
theorem ok_lturned (F : Fun K "_law_turned" "_law_turned" s_f f fd) : FnOk P w K mg base CX0 1 f fd ["n"] spLt := by
 refine F.ok sc_f (fun vs H Q E h => ?_) (fun cdv A outer s H vs Q E hr h => ?_)
 · obtain ⟨n, rfl, _⟩ := h
   rfl
 obtain ⟨n, rfl, q⟩ := h
 refine ⟨_, (zE (zN (zJ op_sub (zJ op_add (pv 0) zD) (zJ op_mul zD (zJ op_mod (pv 0) zD))))), ?_⟩
 simp! []
 refine ⟨by decide, .inl ⟨by decide, by decide⟩, ?_⟩
 rw [show (n : Int) + 1 - 2 * ((n : Int) % 2) = ((tnM n : Nat) : Int) by unfold tnM; omega]
 exact q
end
abbrev s_e : Stmt := top 25
theorem sc_e : FnScope ["rows", "t", "made", "part", "n"] ["rows", "t"] (zG s_e) := ⟨rfl, rfl, rfl, by decide +kernel, rfl, by decide +kernel, by decide +kernel⟩
structure Ov (H J : Hp) (lg : Addr) (us : List V) : Prop where
 eq : H = upd J lg (.lst us)
 no : J lg = none
theorem Ov.at {H J : Hp} {lg : Addr} {us : List V} (h : Ov H J lg us) : H lg = some (.lst us) := by rw [h.eq]; exact zB
theorem Ov.sub {H J : Hp} {lg : Addr} {us : List V} (h : Ov H J lg us) : Same J H := by rw [h.eq]; exact zF h.no _
theorem Ov.ne {H J : Hp} {lg p : Addr} {us : List V} (h : Ov H J lg us) (hp : H p = none) : p ≠ lg := fun z => by
 rw [z, h.at] at hp
 cases hp
theorem Ov.free {H J : Hp} {lg p : Addr} {us : List V} (h : Ov H J lg us) (hp : H p = none) : J p = none := h.sub.free hp
theorem Ov.new {H J : Hp} {lg p : Addr} {us : List V} (h : Ov H J lg us) (hp : H p = none) (o : HO) : Ov (upd H p o) (upd J p o) lg us := by
 have hne := h.ne hp
 refine ⟨?_, by rw [zH (Ne.symm hne)]; exact h.no⟩
 rw [h.eq]
 funext b
 by_cases h1 : b = p
 · subst h1
   rw [zB, zH hne, zB]
 · rw [zH h1]
   by_cases h2 : b = lg
   · subst h2
     rw [zB, zB]
   · rw [zH h2, zH h2, zH h1]
theorem Ov.set {H J : Hp} {lg : Addr} {us : List V} (h : Ov H J lg us) (vs : List V) : Ov (upd H lg (.lst vs)) J lg vs := ⟨by rw [h.eq, xF], h.no⟩
theorem Ov.mk0 {H : Hp} {lg : Addr} (h : H lg = none) (us : List V) : Ov (upd H lg (.lst us)) H lg us := ⟨rfl, h⟩
theorem Ov.ext {H J H' : Hp} {lg : Addr} {us : List V} (h : Ov H J lg us) (e : Same H H') : ∃ J', Ov H' J' lg us /\ Same J J' := by
 refine ⟨fun b => if b = lg then none else H' b, ⟨?_, if_pos rfl⟩, fun b o hb => ?_⟩
 · funext b
   by_cases hb : b = lg
   · subst hb
     rw [zB]
     exact e _ _ h.at
   · rw [zH hb]
     exact (if_neg hb).symm
 · have hne : b ≠ lg := fun z => by rw [z, h.no] at hb; cases hb
   show (if b = lg then none else H' b) = some o
   rw [if_neg hne]
   exact e _ _ (h.sub _ _ hb)
theorem Ov.in_ {H J : Hp} {lg p : Addr} {us : List V} {o : HO} (h : Ov H J lg us) (hp : H p = some o) (hn : p ≠ lg) : J p = some o := by
 rw [h.eq, zH hn] at hp
 exact hp
theorem Ov.tup {H J : Hp} {lg p : Addr} {us vs : List V} (h : Ov H J lg us) (hp : H p = some (.tup vs)) : J p = some (.tup vs) := h.in_ hp fun z => by
 rw [z, h.at] at hp
 cases hp
theorem yT (rows : List Rw) : ∀ e ∈ rows.map dRw, DFit 2 e := fun e he => by
 obtain ⟨r, _, rfl⟩ := List.mem_map.mp he
 cases r <;> refine ⟨by simp, fun d hd => ?_⟩ <;> simp at hd
 · subst hd; trivial
 · rcases hd with rfl | rfl <;> trivial
 · rcases hd with rfl | rfl | rfl <;> trivial
theorem rix_any {rows : List Rw} {r : Rw} {k : Nat} (h : rix rows r = some k) : ((rows.map dRw).any fun e => deq e (dRw r)) = true := by
 have hr2 := List.findIdx?_eq_some_iff_getElem.mp h
 exact List.any_eq_true.mpr ⟨_, List.mem_map.mpr ⟨_, List.getElem_mem hr2.1, rfl⟩, hr2.2.1⟩
theorem rix_no {rows : List Rw} {r : Rw} (h : rix rows r = none) : ((rows.map dRw).any fun e => deq e (dRw r)) = false := by
 rw [List.any_map]
 exact List.any_eq_false.mpr (fun x hx => Bool.eq_false_iff.mp (List.findIdx?_eq_none_iff.mp h x hx))
theorem rix_ix {rows : List Rw} {r : Rw} {k : Nat} (h : rix rows r = some k) : (∃ d', (rows.map dRw)[k]? = some d' /\ deq d' (dRw r) = true) /\ ∀ (m' : Nat) (d' : Dt), m' < k -> (rows.map dRw)[m']? = some d' -> deq d' (dRw r) = false := by
 have hr2 := List.findIdx?_eq_some_iff_getElem.mp h
 refine ⟨⟨_, by rw [List.getElem?_map, List.getElem?_eq_getElem hr2.1]; rfl, hr2.2.1⟩, fun m' d' hm' hd' => ?_⟩
 rw [List.getElem?_map] at hd'
 obtain ⟨r, hr3, rfl⟩ := Option.map_eq_some_iff.mp hd'
 obtain ⟨hl, he⟩ := List.getElem?_eq_some_iff.mp hr3
 have := hr2.2.2 m' hm'
 rw [he] at this
 exact Bool.eq_false_iff.mpr this
def spBd : Nat -> Sp
 | 0 => fun _ _ _ _ => False
 | 1 => fun _ _ _ _ => False
 | n + 2 => fun vs H Q _ => ∃ (ra : Addr) (us : List V) (v : V) (rows : List Rw) (t : Tm) (J : Hp), vs = [.ref ra, v] /\ Ov H J ra us /\ RwAts J rows us /\ Sht rows /\ rows.length + (2 * wt t - 1) <= 500 /\ TAt J t v /\ Fit n t /\ ∀ H' J' us', Same J J' -> Ov H' J' ra us' -> RwAts J' (bld t rows).1 us' -> Q (.int (bld t rows).2) H'
theorem RwAts.snoc {H : Hp} {rows : List Rw} {us : List V} {r : Rw} {v : V} (h : RwAts H rows us) (hv : DAt H (dRw r) v) : RwAts H (rows ++ [r]) (us ++ [v]) := by
 show DAts H ((rows ++ [r]).map dRw) _
 rw [List.map_append]
 exact DAts.append h ⟨_, _, rfl, hv, rfl⟩
section
variable {P : Program} {w : World} {K : PySem.W.Frag} {mg : Str -> Option Value} {base : Heap} {f : Addr} {fd : FuncData}
theorem ok_lbuild (bi : Bi mg) (h_f : Has P w K mg base 1 "_law_turned" ["n"] spLt) (F : Fun K "_law_build" "_law_build" s_e f fd) (b : Binds K fd ["rows", "t"] []) (m : mg "_law_build" = some (.ref f)) : ∀ n, FnOk P w K mg base CX0 n f fd ["rows", "t"] (spBd n) := by
 refine rec_ok F b m (fun vs H Q E h => h) (fun n h_e => ?_)
 cases n with
 | zero => exact F.ok sc_e (fun vs H Q E h => h.elim) (fun cdv A outer s H vs Q E hr h => h.elim)
 | succ n =>
 refine F.ok sc_e (fun vs H Q E h => ?_) (fun cdv A outer s H vs Q E hr h => ?_)
 · obtain ⟨ra, us, v, rows, t, J, rfl, _⟩ := h
   rfl
 obtain ⟨ra, us, v, rows, t, J, rfl, ov, hrw, hsh, hrl, hv, hf, q⟩ := h
 refine ⟨_, (zC (zU (zK (yK hr.units) (yA ix_tup (pv 1) zD (fun _ _ => rfl)) zQ (zP _)) (zE (zN zD)) pss_nil) (zC (zU (zK (yK hr.units) (yA ix_tup (pv 1) zD (fun _ _ => rfl)) zQ (zP _)) (zE (zN zD)) pss_nil) (zC (zU (zK (yK hr.units) (yA ix_tup (pv 1) zD (fun _ _ => rfl)) zQ (zP _)) (zC (zU (zK (jT hr.units) (pv 1) (pv 0) (by with_unfolding_all rfl)) (zE (yD (yQ PySem.F.plainAttrs_list PySem.F.slot_list_append PySem.F.type_list_append mt_append (pv 0) (zA (pv 1) pa_nil)))) pss_nil) (zE (zN (zJ op_mul zD (yQ PySem.F.plainAttrs_list PySem.F.slot_list_index PySem.F.type_list_index (jU hr.units) (pv 0) (zA (pv 1) pa_nil)))))) pss_nil) (zC (zM (i := 2) sc_e.nd rfl (Or.inl rfl) (zL h_e hr rfl (zA (pv 0) (zA (yA ix_tup (pv 1) zD (fun _ _ => rfl)) pa_nil)))) (zC (zU (zK (yK hr.units) (yA ix_tup (pv 1) zD (fun _ _ => rfl)) zQ (zP _)) (zE (zN (zL h_f (hr.mono (by omega)) rfl (zA (pv 2) pa_nil)))) pss_nil) (zC (zU (zK (yK hr.units) (yA ix_tup (pv 1) zD (fun _ _ => rfl)) zQ (zP _)) (zE (zM (i := 2) sc_e.nd rfl (Or.inl rfl) (zL h_f (hr.mono (by omega)) rfl (zA (pv 2) pa_nil)))) pss_nil) (zC (yZ PassesOwn.never rfl (pi_tup (yH sl_tupG (pv 1) (yG zD) po_none)) (yP (i := 3) sc_e.nd rfl (Or.inl rfl)) (zC (zM (i := 4) sc_e.nd rfl (Or.inl rfl) (zL h_e hr rfl (zA (pv 0) (zA (pv 3) pa_nil)))) (zC (zU (zK (yK hr.units) (yA ix_tup (pv 1) zD (fun _ _ => rfl)) zQ (zP _)) (zE (zM (i := 4) sc_e.nd rfl (Or.inl rfl) (zL h_f (hr.mono (by omega)) rfl (zA (pv 4) pa_nil)))) pss_nil) (zC (zU (zK (jT hr.units) (yE (zA zQ (zA (pv 2) (zA (pv 4) pa_nil)))) (pv 0) (by with_unfolding_all rfl)) (zE (yD (yQ PySem.F.plainAttrs_list PySem.F.slot_list_append PySem.F.type_list_append mt_append (pv 0) (zA (yE (zA zQ (zA (pv 2) (zA (pv 4) pa_nil)))) pa_nil)))) pss_nil) (zE (zM (i := 2) sc_e.nd rfl (Or.inl rfl) (zJ op_mul zD (yQ PySem.F.plainAttrs_list PySem.F.slot_list_index PySem.F.type_list_index (jU hr.units) (pv 0) (zA (yE (zA zQ (zA (pv 2) (zA (pv 4) pa_nil)))) pa_nil))))))))) (zC (zU (zK (yK hr.units) (yA ix_tup (pv 1) zD (fun _ _ => rfl)) zQ (zP _)) (zE (zN (zL h_f (hr.mono (by omega)) rfl (zA (pv 2) pa_nil)))) pss_nil) (zE (zN (pv 2))))))))))), ?_⟩
 have hra := ov.at
 cases t with
 | name x =>
   obtain ⟨a, vs, rfl, ha, u1, r1, rfl, h1, u2, r2, rfl, h2, h3⟩ := id hv
   have h1 : u1 = .str "name" := h1
   have h2 : u2 = .str x := h2
   have h3 : r2 = [] := h3
   subst h1 h2 h3
   rw [bld] at q
   replace ha := ov.sub _ _ ha
   refine zI fun N hN => ?_
   simp! [rEqG]
   refine ⟨_, SqT.of ha, _, at0, 0, .str "name", rfl, .str "none", rfl, trivial, by decide, ?_⟩
   rw [xB, if_neg (by decide)]
   refine hN _ _ ?_
   clear hN
   refine zI fun N hN => ?_
   simp! [rEqG]
   refine ⟨_, SqT.of ha, _, at0, 0, .str "name", rfl, .str "all", rfl, trivial, by decide, ?_⟩
   rw [xB, if_neg (by decide)]
   refine hN _ _ ?_
   clear hN
   refine zI fun N hN => ?_
   simp! [rEqG, rInG, rIndexG]
   refine ⟨_, SqT.of ha, _, at0, 0, .str "name", rfl, .str "name", rfl, trivial, by decide, ?_⟩
   rw [xB, if_pos (by decide)]
   have hda : DAt J (dRw (.nm x)) (.ref a) := hv
   have hdh := DAt.same ov.sub hda
   refine ⟨2, _, hdh, rows.map dRw, .inl ⟨ra, us, rfl, hra, DAts.same ov.sub hrw⟩, yT rows, by decide, ?_⟩
   cases c : rix rows (.nm x) with
   | some k =>
     have hk := rix_lt c
     obtain ⟨i1, i2⟩ := rix_ix c
     rw [rix_any c, if_neg (by decide)]
     unfold yS at q
     rw [c] at q
     refine ⟨.inl ⟨rfl, _, SqL.of hra⟩, _, hra, _, DAts.same ov.sub hrw, _, hdh, 2, yT rows, by decide, by rw [List.length_map]; omega, k, i1, i2, .inl ⟨by decide, by decide⟩, ?_⟩
     rw [show (2 : Int) * (k : Int) = ((2 * k : Nat) : Int) by omega]
     exact q _ _ _ (Same.refl _) ov hrw
   | none =>
     rw [rix_no c, if_pos (by decide)]
     unfold yS at q
     rw [c] at q
     have hul : us.length = rows.length := by have := DAts.length hrw; rwa [List.length_map] at this
     rw [wt] at hrl
     have ov2 := ov.set (us ++ [V.ref a])
     have hrw2 := hrw.snoc hda
     have c2 := jE c
     obtain ⟨i1, i2⟩ := rix_ix c2
     refine ⟨.inl ⟨rfl, _, SqL.of hra⟩, us, hra, zY (by omega), ?_⟩
     generalize upd H ra (.lst (us ++ [V.ref a])) = H2 at ov2 ⊢
     refine ⟨.inl ⟨rfl, _, SqL.of ov2.at⟩, _, ov2.at, _, DAts.same ov2.sub hrw2, _, DAt.same ov2.sub hda, 2, yT _, by decide, by rw [List.length_map, List.length_append, List.length_singleton]; omega, _, i1, i2, .inl ⟨by decide, by decide⟩, ?_⟩
     rw [show (2 : Int) * (rows.length : Int) = ((2 * rows.length : Nat) : Int) by omega]
     exact q _ _ _ (Same.refl _) ov2 hrw2
 | node wd ts =>
   obtain ⟨a, vs, rfl, ha, u1, ws, rfl, h1, hws⟩ := id hv
   have h1 : u1 = .str wd := h1
   subst h1
   have hf' : FitP (n + 1) (.node wd ts) := hf
   obtain ⟨hs, hfs⟩ := hf'.node
   rw [toDs_map] at hws
   rw [wt] at hrl
   rw [bld] at q
   have step : ∀ {G : Hp} {c : Str} {A B : Prop}, G a = some (.tup (.str wd :: ws)) -> (wd = c -> A) -> (wd ≠ c -> B) -> ∃ x, SqT K G a x /\ ∃ x_1, atI x 0 = some x_1 /\ ∃ n_1 d, DAt G d x_1 /\ ∃ x, DAt G x (V.str c) /\ DFit (n_1 + 1) d /\ n_1 <= 60 /\ if deq d x = true then A else B := fun {G c A B} hg h1 h2 => by
     refine ⟨_, SqT.of hg, _, at0, 0, .str wd, rfl, .str c, rfl, trivial, by decide, ?_⟩
     rw [xB]
     by_cases e : wd = c
     · rw [if_pos (decide_eq_true e)]; exact h1 e
     · rw [if_neg (by simp [e])]; exact h2 e
   refine zI fun N hN => ?_
   simp! [rEqG]
   refine step (ov.sub _ _ ha) (fun e => ?_) (fun e1 => hN _ _ ?_)
   · rw [if_pos e] at q
     exact q _ _ _ (Same.refl _) ov hrw
   clear hN
   refine zI fun N hN => ?_
   simp! [rEqG]
   refine step (ov.sub _ _ ha) (fun e => ?_) (fun e2 => hN _ _ ?_)
   · rw [if_neg e1, if_pos e] at q
     exact q _ _ _ (Same.refl _) ov hrw
   clear hN
   refine zI fun N hN => ?_
   simp! [rEqG]
   refine step (ov.sub _ _ ha) (fun e => ?_) (fun e3 => hN _ _ ?_)
   · subst e
     rcases hs with h | h | h | h | h <;> exact absurd h.1 (by decide)
   clear hN
   rw [if_neg e1, if_neg e2] at q
   obtain ⟨t0, ts', rfl⟩ : ∃ t0 ts', ts = t0 :: ts' := by
     cases ts with
     | nil =>
       rcases hs with h | h | h | h | h
       · exact absurd h.1 e1
       · exact absurd h.1 e2
       · cases h.2
       · exact absurd h.2 (by decide)
       · exact absurd h.2 (by decide)
     | cons t0 ts' => exact ⟨t0, ts', rfl⟩
   have hws0 := hws
   obtain ⟨u0, ws', rfl, hu0, hws'⟩ := hws
   have hwl : ws'.length = ts'.length := by have := DAts.length hws'; rwa [List.length_map] at this
   have hft0 := hfs t0 List.mem_cons_self
   rw [wts] at hrl
   cases n with
   | zero => exact hft0.elim
   | succ n =>
   obtain ⟨g1, g2, g3, g4⟩ := bld_grw t0 n rows hft0 hsh
   refine zI fun N hN => ?_
   simp! []
   refine ⟨_, SqT.of (ov.sub _ _ ha), _, yB (j := 1) rfl, ra, us, u0, rows, t0, J, rfl, ov, hrw, hsh, by omega, hu0, hft0, fun H1 J1 us1 s1 ov1 hrw1 => hN _ _ ?_⟩
   clear hN
   have hw0 := wt_pos t0
   generalize hr1 : (bld t0 rows).1 = rows1 at g1 g2 g3 g4 hrw1
   generalize hm1 : (bld t0 rows).2 = m1 at g4 ⊢
   have ha1 := s1 _ _ ha
   refine zI fun N hN => ?_
   simp! [rEqG]
   refine step (ov1.sub _ _ ha1) (fun e => ?_) (fun e4 => hN _ _ ?_)
   · rw [if_pos e] at q
     have hl : ts' = [] := by
       rcases hs with h | h | h | h | h
       · exact absurd h.1 e1
       · exact absurd h.1 e2
       · exact List.length_eq_zero_iff.mp (Nat.succ.inj h.2)
       · rw [h.1] at e; exact absurd e (by decide)
       · rw [h.1] at e; exact absurd e (by decide)
     subst hl
     rw [yX, yN, hr1, hm1] at q
     exact ⟨m1, rfl, q _ _ _ s1 ov1 hrw1⟩
   clear hN
   rw [if_neg e4] at q
   obtain ⟨ee, hee⟩ : ∃ ee, ee = decide (wd = "either") := ⟨_, rfl⟩
   rw [← hee, yX, hr1, hm1] at q
   refine zZ (fun σ G => G = H1 /\ σ = [some (V.ref ra), some (V.ref a), some (V.int (tnB ee m1 : Nat)), none, none]) (fun N hN => ?_) (fun σ G h => ?_)
   · simp! [rEqG]
     refine step (ov1.sub _ _ ha1) (fun e => ?_) (fun e5 => hN _ _ ?_)
     · rw [decide_eq_true e] at hee
       subst hee
       exact ⟨m1, rfl, hN _ _ ⟨rfl, rfl⟩⟩
     · rw [decide_eq_false e5] at hee
       subst hee
       exact ⟨rfl, rfl⟩
   obtain ⟨rfl, rfl⟩ := h
   have g5 : tnB ee m1 < 2 * rows1.length := jA g4
   generalize hm2 : tnB ee m1 = m2 at g5 q ⊢
   refine zZ (fun σ G => ∃ (J' : Hp) (us' : List V) (o3 o4 : Option V), Same J1 J' /\ Ov G J' ra us' /\ RwAts J' (yN ee ts' rows1 m2).1 us' /\ σ = [some (V.ref ra), some (V.ref a), some (V.int ((yN ee ts' rows1 m2).2 : Nat)), o3, o4]) (fun N hN => ?_) (fun σ G h => ?_)
   · simp! [rSlG]
     refine ⟨_, ov1.sub _ _ ha1, fun p H2 s2 kp => ?_⟩
     rw [cut_two] at kp
     obtain ⟨J2, ov2, s2'⟩ := ov1.ext s2
     have kp2 := ov2.tup kp
     refine ⟨⟨_, SqT.of kp⟩, ?_⟩
     refine fw_tup (xs := ws') (fun i σ G => ∃ (J' : Hp) (us' : List V) (rows' : List Rw) (mi : Nat) (o3 o4 : Option V), Same J2 J' /\ Ov G J' ra us' /\ RwAts J' rows' us' /\ Sht rows' /\ rows'.length + 2 * wts (ts'.drop i) <= 500 /\ mi < 2 * rows'.length /\ yN ee (ts'.drop i) rows' mi = yN ee ts' rows1 m2 /\ σ = [some (V.ref ra), some (V.ref a), some (V.int (mi : Nat)), o3, o4]) ⟨J2, us1, rows1, m2, _, _, Same.refl _, ov2, DAts.same s2' hrw1, g1, by rw [List.drop_zero]; omega, g5, by rw [List.drop_zero], rfl⟩ (fun i σ G _ h => by obtain ⟨_, _, _, _, _, _, sg, og, _⟩ := h; exact SqT.of (og.sub _ _ (sg _ _ kp2))) (fun i x σ G hx h => ?_) (fun σ G h => ?_)
     · obtain ⟨J3, us3, rows3, mi, o3, o4, s3, ov3, hrw3, hsh3, hl3, hmi, hb3, rfl⟩ := h
       obtain ⟨t, hti, hx'⟩ := xX (f := toD) hws' hx
       obtain ⟨hil, hie⟩ := List.getElem?_eq_some_iff.mp hti
       rw [List.drop_eq_getElem_cons hil, hie, wts] at hl3
       rw [List.drop_eq_getElem_cons hil, hie, yN] at hb3
       have hft := hfs t (List.mem_cons_of_mem _ (List.mem_of_getElem? hti))
       obtain ⟨d1, d2, d3, d4⟩ := bld_grw t n rows3 hft hsh3
       have hw1 := wt_pos t
       refine zI fun N hN => ?_
       simp! []
       refine ⟨ra, us3, x, rows3, t, J3, rfl, ov3, hrw3, hsh3, by omega, DAt.same (s1.trans (s2'.trans s3)) hx', hft, fun H4 J4 us4 s4 ov4 hrw4 => hN _ _ ?_⟩
       clear hN
       generalize hr4 : (bld t rows3).1 = rows4 at d1 d2 d3 d4 hrw4 hb3
       generalize hm4 : (bld t rows3).2 = m4 at d4 hb3 ⊢
       have ha4 := (s2'.trans (s3.trans s4)) _ _ ha1
       refine zZ (fun σ G => G = H4 /\ σ = [some (V.ref ra), some (V.ref a), some (V.int (mi : Nat)), some x, some (V.int (tnB ee m4 : Nat))]) (fun N hN => ?_) (fun σ G h => ?_)
       · simp! [rEqG]
         refine step (ov4.sub _ _ ha4) (fun e => ?_) (fun e5 => hN _ _ ?_)
         · rw [decide_eq_true e] at hee
           subst hee
           exact ⟨m4, rfl, hN _ _ ⟨rfl, rfl⟩⟩
         · rw [decide_eq_false e5] at hee
           subst hee
           exact ⟨rfl, rfl⟩
       obtain ⟨rfl, rfl⟩ := h
       have d5 : tnB ee m4 < 2 * rows4.length := jA d4
       generalize hm5 : tnB ee m4 = m5 at d5 hb3 ⊢
       have hnx : RNext rows4.length (.bo (mi : Int) (m5 : Int)) := ⟨⟨by omega, by omega⟩, by omega, by omega⟩
       obtain ⟨f1, f2, f3, f4⟩ := jC (r := .bo (mi : Int) (m5 : Int)) d1 hnx
       refine zZ (fun σ G => ∃ (J' : Hp) (us' : List V), Same J4 J' /\ Ov G J' ra us' /\ RwAts J' (yS rows4 (.bo (mi : Int) (m5 : Int))).1 us' /\ σ = [some (V.ref ra), some (V.ref a), some (V.int (mi : Nat)), some x, some (V.int (m5 : Nat))]) (fun N hN => ?_) (fun σ G h => ?_)
       · simp! [rInG]
         refine ⟨zV (by decide), fun p4 hp4 => ?_⟩
         have ov5 := ov4.new hp4 (.tup [V.str "both", V.int (mi : Int), V.int (m5 : Int)])
         have s5 := zF (ov4.free hp4) (.tup [V.str "both", V.int (mi : Int), V.int (m5 : Int)])
         have hd5 : DAt (upd J4 p4 (.tup [V.str "both", V.int (mi : Int), V.int (m5 : Int)])) (dRw (.bo (mi : Int) (m5 : Int))) (.ref p4) := ⟨p4, _, rfl, zB, _, _, rfl, rfl, _, _, rfl, rfl, _, _, rfl, rfl, rfl⟩
         generalize upd J4 p4 (.tup [V.str "both", V.int (mi : Int), V.int (m5 : Int)]) = J5 at ov5 s5 hd5
         generalize upd G p4 (.tup [V.str "both", V.int (mi : Int), V.int (m5 : Int)]) = H5 at ov5 ⊢
         refine ⟨2, _, DAt.same ov5.sub hd5, rows4.map dRw, .inl ⟨ra, us4, rfl, ov5.at, DAts.same (s5.trans ov5.sub) hrw4⟩, yT rows4, by decide, ?_⟩
         cases c : rix rows4 (.bo (mi : Int) (m5 : Int)) with
         | some k =>
           rw [rix_any c, if_neg (by decide)]
           refine hN _ _ ⟨J5, us4, s5, ov5, ?_, rfl⟩
           unfold yS
           rw [c]
           exact DAts.same s5 hrw4
         | none =>
           rw [rix_no c, if_pos (by decide)]
           have hul : us4.length = rows4.length := by have := DAts.length hrw4; rwa [List.length_map] at this
           refine ⟨.inl ⟨rfl, _, SqL.of ov5.at⟩, zV (by decide), fun p5 hp5 => ?_⟩
           have ov6 := ov5.new hp5 (.tup [V.str "both", V.int (mi : Int), V.int (m5 : Int)])
           have s6 := zF (ov5.free hp5) (.tup [V.str "both", V.int (mi : Int), V.int (m5 : Int)])
           have hd6 : DAt (upd J5 p5 (.tup [V.str "both", V.int (mi : Int), V.int (m5 : Int)])) (dRw (.bo (mi : Int) (m5 : Int))) (.ref p5) := ⟨p5, _, rfl, zB, _, _, rfl, rfl, _, _, rfl, rfl, _, _, rfl, rfl, rfl⟩
           generalize upd J5 p5 (.tup [V.str "both", V.int (mi : Int), V.int (m5 : Int)]) = J6 at ov6 s6 hd6
           generalize upd H5 p5 (.tup [V.str "both", V.int (mi : Int), V.int (m5 : Int)]) = H6 at ov6 ⊢
           refine ⟨us4, ov6.at, zY (by omega), hN _ _ ⟨J6, us4 ++ [V.ref p5], s5.trans s6, ov6.set _, ?_, rfl⟩⟩
           unfold yS
           rw [c]
           exact RwAts.snoc (DAts.same (s5.trans s6) hrw4) hd6
       obtain ⟨J6, us6, s6, ov6, hrw6, rfl⟩ := h
       obtain ⟨k, hk1, hk2⟩ := rput_at rows4 (.bo (mi : Int) (m5 : Int))
       generalize hr6 : (yS rows4 (.bo (mi : Int) (m5 : Int))).1 = rows6 at f1 f2 f3 f4 hrw6 hb3 hk1
       rw [hk2] at hb3 f4
       obtain ⟨i1, i2⟩ := rix_ix hk1
       simp! [rIndexG]
       refine ⟨.inl ⟨rfl, _, SqL.of ov6.at⟩, zV (by decide), fun p5 hp5 => ?_⟩
       have ov7 := ov6.new hp5 (.tup [V.str "both", V.int (mi : Int), V.int (m5 : Int)])
       have s7 := zF (ov6.free hp5) (.tup [V.str "both", V.int (mi : Int), V.int (m5 : Int)])
       have hd7 : DAt (upd J6 p5 (.tup [V.str "both", V.int (mi : Int), V.int (m5 : Int)])) (dRw (.bo (mi : Int) (m5 : Int))) (.ref p5) := ⟨p5, _, rfl, zB, _, _, rfl, rfl, _, _, rfl, rfl, _, _, rfl, rfl, rfl⟩
       generalize upd J6 p5 (.tup [V.str "both", V.int (mi : Int), V.int (m5 : Int)]) = J7 at ov7 s7 hd7
       generalize upd G p5 (.tup [V.str "both", V.int (mi : Int), V.int (m5 : Int)]) = H7 at ov7 ⊢
       refine ⟨_, ov7.at, _, DAts.same (s7.trans ov7.sub) hrw6, dRw (.bo (mi : Int) (m5 : Int)), DAt.same ov7.sub hd7, 2, yT _, by decide, by rw [List.length_map]; omega, k, i1, i2, .inl ⟨by decide, by decide⟩, ?_⟩
       exact ⟨J7, s3.trans (s4.trans (s6.trans s7)), us6, ov7, rows6, DAts.same s7 hrw6, f1, by omega, 2 * k, f4, hb3, by omega, _, rfl⟩
     · obtain ⟨J3, us3, rows3, mi, o3, o4, s3, ov3, hrw3, hsh3, hl3, hmi, hb3, rfl⟩ := h
       rw [hwl, List.drop_length, yN] at hb3
       refine hN _ _ ⟨J3, us3, o3, o4, s2'.trans s3, ov3, ?_, ?_⟩
       · rw [← hb3]; exact hrw3
       · rw [← hb3]
   obtain ⟨J', us', o3, o4, sJ, ov', hrw', rfl⟩ := h
   simp! [rEqG]
   refine step (ov'.sub _ _ (sJ _ _ ha1)) (fun e => ?_) (fun e5 => ?_)
   · rw [decide_eq_true e] at hee
     subst hee
     exact ⟨_, rfl, q _ _ _ (s1.trans sJ) ov' hrw'⟩
   · rw [decide_eq_false e5] at hee
     subst hee
     exact q _ _ _ (s1.trans sJ) ov' hrw'
end
abbrev s_l : Stmt := top 26
theorem sc_l : FnScope ["cell", "pool", "size", "made", "k"] ["cell", "pool"] (zG s_l) := ⟨rfl, rfl, rfl, by decide +kernel, rfl, by decide +kernel, by decide +kernel⟩
theorem wts_names : ∀ {ts : List Tm}, (∀ t ∈ ts, ∃ x, Nm x /\ t = .name x) -> wts ts = ts.length
 | [], _ => rfl
 | t :: ts, h => by
   obtain ⟨x, _, rfl⟩ := h t List.mem_cons_self
   rw [wts, wt, wts_names fun u hu => h u (List.mem_cons_of_mem _ hu), List.length_cons]
   omega
def spLg (K : PySem.W.Frag) : Sp := fun vs H Q _ => ∃ (c : Int) (p : Addr), vs = [.int c, .ref p] /\ 0 <= c /\ Pool K H p /\ ∀ v t H', Same H H' -> TAt H' t v -> Fit 1 t -> wt t <= 42 -> Q v H'
section
variable {P : Program} {w : World} {K : PySem.W.Frag} {mg : Str -> Option Value} {base : Heap} {f : Addr} {fd : FuncData}
theorem ok_long (bi : Bi mg) (F : Fun K "_law_long" "_law_long" s_l f fd) : FnOk P w K mg base CX0 1 f fd ["cell", "pool"] (spLg K) := by
 refine F.ok sc_l (fun vs H Q E h => ?_) (fun cdv A outer s H vs Q E hr h => ?_)
 · obtain ⟨c, p, rfl, _⟩ := h
   rfl
 obtain ⟨c, pp, rfl, hc, hP, q⟩ := h
 refine ⟨_, (zC (zM (i := 2) sc_l.nd rfl (Or.inl rfl) (zJ op_add zD (zJ op_mod (pv 0) zD))) (zC (zM (i := 3) sc_l.nd rfl (Or.inl rfl) (yM (zA (yA ix_list (yM (zA zQ (zA zQ pa_nil))) (zJ op_mod (zJ op_fdiv (pv 0) zD) zD) (fun _ _ => rfl)) pa_nil))) (zC (yZ PassesOwn.never rfl (xL rfl bi.range (zA (pv 2) pa_nil)) (yP (i := 4) sc_l.nd rfl (Or.inl rfl)) (zE (yD (yQ PySem.F.plainAttrs_list PySem.F.slot_list_append PySem.F.type_list_append mt_append (pv 3) (zA (yE (zA zQ (zA (yA ix_list (pv 1) (zJ op_mod (zJ op_add (pv 4) (zJ op_fdiv (pv 0) zD)) zD) (fun _ _ => rfl)) pa_nil))) pa_nil))))) (zE (zN (yU call_tuple_of rfl bi.tuple bt_tuple (zA (pv 3) pa_nil))))))), ?_⟩
 refine zI fun N hN => ?_
 simp! []
 refine ⟨by decide, hN _ _ ?_⟩
 clear hN
 obtain ⟨sz, hsz, h36, h41⟩ : ∃ sz : Nat, 36 + c % 6 = (sz : Int) /\ 36 <= sz /\ sz <= 41 := ⟨(36 + c % 6).toNat, by omega, by omega, by omega⟩
 rw [hsz]
 refine zI fun N hN => ?_
 simp! []
 refine ⟨zV (by decide), fun p1 hp1 => ?_⟩
 have s1 := zF hp1 (.lst [V.str "both", V.str "either"])
 have k1 : upd H p1 (.lst [V.str "both", V.str "either"]) p1 = some (.lst [V.str "both", V.str "either"]) := zB
 generalize upd H p1 (.lst [V.str "both", V.str "either"]) = H1 at s1 k1 ⊢
 obtain ⟨wd, hwd, hat⟩ : ∃ wd : Str, (wd = "both" \/ wd = "either") /\ atI [V.str "both", V.str "either"] (c / 6 % 2) = some (V.str wd) := by
   have h : c / 6 % 2 = ((c / 6 % 2).toNat : Nat) := by omega
   rw [h]
   have h2 : (c / 6 % 2).toNat = 0 \/ (c / 6 % 2).toNat = 1 := by omega
   rcases h2 with h2 | h2 <;> rw [h2]
   · exact ⟨"both", .inl rfl, yB (j := 0) rfl⟩
   · exact ⟨"either", .inr rfl, yB (j := 1) rfl⟩
 refine ⟨⟨by decide, by decide⟩, by decide, _, SqL.of k1, _, hat, zV (by decide), fun pm hpm => hN _ _ ?_⟩
 clear hN
 have s2 := zF hpm (.lst [V.str wd])
 have k2 : upd H1 pm (.lst [V.str wd]) pm = some (.lst [V.str wd]) := zB
 have fm : H1 pm = none := hpm
 generalize upd H1 pm (.lst [V.str wd]) = H2 at s2 k2 ⊢
 replace hP : Pool K H1 pp := Pool.same s1 hP
 clear hpm k1
 refine zZ (fun σ G => ∃ (J : Hp) (ws : List V) (ts : List Tm) (o4 : Option V), Same H1 J /\ Same J G /\ J pm = none /\ G pm = some (.lst (V.str wd :: ws)) /\ TAts J ts ws /\ (∀ t ∈ ts, ∃ x, Nm x /\ t = .name x) /\ ts.length = sz /\ σ = [some (V.int c), some (V.ref pp), some (V.int sz), some (V.ref pm), o4]) (fun N hN => ?_) (fun σ G h => ?_)
 · simp! []
   refine ⟨by omega, by omega, ?_⟩
   refine xJ (n := ((sz : Nat) : Int).toNat) (fun i σ G => ∃ (J : Hp) (ws : List V) (ts : List Tm) (o4 : Option V), Same H1 J /\ Same J G /\ J pm = none /\ G pm = some (.lst (V.str wd :: ws)) /\ TAts J ts ws /\ (∀ t ∈ ts, ∃ x, Nm x /\ t = .name x) /\ ts.length = i /\ σ = [some (V.int c), some (V.ref pp), some (V.int sz), some (V.ref pm), o4]) ⟨H1, [], [], _, Same.refl _, s2, fm, k2, rfl, (fun t ht => by cases ht), rfl, rfl⟩ (fun i σ G hi h => ?_) (fun σ G h => ?_)
   · obtain ⟨J, ws, ts, o4, sJ, sG, hJ, kG, hts, hnm, htl, rfl⟩ := h
     have hwl : ws.length = ts.length := by have := DAts.length hts; rwa [List.length_map] at this
     obtain ⟨x, y, z, hx, hy, hz, hpl⟩ := Pool.same (sJ.trans sG) hP
     simp! []
     obtain ⟨nm, hnx, hat2⟩ : ∃ nm : Str, Nm nm /\ atI [V.str x, V.str y, V.str z] ((0 + (i : Int) + c / 12) % 2) = some (V.str nm) := by
       have h : (0 + (i : Int) + c / 12) % 2 = (((0 + (i : Int) + c / 12) % 2).toNat : Nat) := by omega
       rw [h]
       have h2 : ((0 + (i : Int) + c / 12) % 2).toNat = 0 \/ ((0 + (i : Int) + c / 12) % 2).toNat = 1 := by omega
       rcases h2 with h2 | h2 <;> rw [h2]
       · exact ⟨x, hx, yB (j := 0) rfl⟩
       · exact ⟨y, hy, yB (j := 1) rfl⟩
     refine ⟨.inl ⟨rfl, _, SqL.of kG⟩, ⟨by decide, by decide⟩, by decide, _, SqL.of hpl, _, hat2, zV (by decide), fun p3 hp3 => ?_⟩
     have s3 := zF hp3 (.tup [V.str "name", V.str nm])
     have j3 := zF (sG.free hp3) (.tup [V.str "name", V.str nm])
     have npm : pm ≠ p3 := fun e => by rw [← e, kG] at hp3; cases hp3
     have hJ3 : upd J p3 (.tup [V.str "name", V.str nm]) pm = none := by rw [zH npm]; exact hJ
     have sG3 : Same (upd J p3 (.tup [V.str "name", V.str nm])) (upd G p3 (.tup [V.str "name", V.str nm])) := fun b o hb => by
       by_cases e : b = p3
       · subst e; rw [zB] at hb ⊢; exact hb
       · rw [zH e] at hb ⊢; exact sG _ _ hb
     have hT3 : TAt (upd J p3 (.tup [V.str "name", V.str nm])) (.name nm) (.ref p3) := ⟨p3, _, rfl, zB, _, _, rfl, rfl, _, _, rfl, rfl, rfl⟩
     refine ⟨_, s3 _ _ kG, zY (by rw [List.length_cons]; omega), _, sJ.trans j3, sG3.upd hJ3, hJ3, ws ++ [V.ref p3], zB, ts ++ [.name nm], TAts.append (DAts.same j3 hts) (TAts.one hT3), fun t ht => ?_, by rw [List.length_append, htl]; rfl, _, rfl⟩
     rcases List.mem_append.mp ht with ht | ht
     · exact hnm t ht
     · exact ⟨nm, hnx, List.mem_singleton.mp ht⟩
   · obtain ⟨J, ws, ts, o4, sJ, sG, hJ, kG, hts, hnm, htl, rfl⟩ := h
     exact hN _ _ ⟨J, ws, ts, o4, sJ, sG, hJ, kG, hts, hnm, by omega, rfl⟩
 obtain ⟨J, ws, ts, o4, sJ, sG, hJ, kG, hts, hnm, htl, rfl⟩ := h
 simp! []
 refine ⟨_, .inl ⟨SqL.of kG, fun p4 hp4 => ?_⟩⟩
 have s4 := zF hp4 (.tup (V.str wd :: ws))
 have hw := wts_names hnm
 refine q (.ref p4) (.node wd ts) _ (s1.trans (sJ.trans (sG.trans s4))) ?_ ?_ (by rw [wt, hw]; omega)
 · refine ⟨p4, _, rfl, zB, _, _, rfl, rfl, ?_⟩
   show DAts _ (toDs ts) ws
   rw [toDs_map]
   exact DAts.same (sG.trans s4) hts
 · unfold Fit
   refine ⟨?_, fun t ht => ?_⟩
   · rcases hwd with rfl | rfl
     · exact .inr (.inr (.inr (.inl ⟨rfl, by omega⟩)))
     · exact .inr (.inr (.inr (.inr ⟨rfl, by omega⟩)))
   · obtain ⟨x, hx, rfl⟩ := hnm t ht
     unfold Fit
     exact hx
end
abbrev s_p : Stmt := top 27
theorem sc_p : FnScope ["script", "pool", "terms", "rows", "t", "handed", "found", "refused", "good", "e"] ["script"] (zG s_p) := ⟨rfl, rfl, rfl, by decide +kernel, rfl, by decide +kernel, by decide +kernel⟩
theorem wts_app : ∀ (ts us : List Tm), wts (ts ++ us) = wts ts + wts us
 | [], us => by rw [List.nil_append]; show _ = 0 + _; omega
 | t :: ts, us => by rw [List.cons_append, wts, wts, wts_app ts us]; omega
theorem tup_upd {H : Hp} {a : Addr} {xs : List V} (h : H a = some (.lst xs)) (o : HO) : TupSame H (upd H a o) := fun b ys hb => by
 have : b ≠ a := fun z => by rw [z, h] at hb; cases hb
 rw [zH this]
 exact hb
theorem row_nat {K : PySem.W.Frag} {H : Hp} {r : Rw} {a : Addr} (h : SqT K H a ((keyR r).map kV)) : NAt K H (dRw r) (.ref a) := by
 cases r with
 | no => exact .inr ⟨a, _, _, rfl, rfl, h, _, _, rfl, rfl, rfl⟩
 | nm x => exact .inr ⟨a, _, _, rfl, rfl, h, _, _, rfl, rfl, _, _, rfl, rfl, rfl⟩
 | bo i j => exact .inr ⟨a, _, _, rfl, rfl, h, _, _, rfl, rfl, _, _, rfl, rfl, _, _, rfl, rfl, rfl⟩
theorem jR {K : PySem.W.Frag} {H : Hp} {p : Addr} {R : List Rw} {as : List Addr} (h : H p = some (.lst (as.map V.ref))) (hl : as.length = R.length) (hk : ∀ (i : Nat) (r : Rw) (a : Addr), R[i]? = some r -> as[i]? = some a -> SqT K H a ((keyR r).map kV)) : LAt K H (.lst (R.map dRw)) (.ref p) := by
 refine .inr ⟨p, _, _, rfl, h, rfl, by rw [List.length_map, List.length_map]; exact hl, fun i u e h1 h2 => ?_⟩
 rw [List.getElem?_map] at h1 h2
 obtain ⟨a, ha, rfl⟩ := Option.map_eq_some_iff.mp h1
 obtain ⟨r, hr, rfl⟩ := Option.map_eq_some_iff.mp h2
 exact row_nat (hk i r a hr ha)
structure Errs (K : PySem.W.Frag) (mg : Str -> Option Value) (CE CU C1 C2 C3 C4 C5 : Addr) : Prop where
 ce : mg "ClashError" = some (.ref CE)
 cb : xSub K CE (.type "BaseException") = some true
 ct : xSub K CU (.ref CE) = some true
 xc : XCls K CU
 g0 : Gc mg "TooMuch" (.ref CU)
 g1 : Gc mg "NoText" (.ref C1)
 g2 : Gc mg "NoName" (.ref C2)
 g3 : Gc mg "NoRule" (.ref C3)
 g4 : Gc mg "NoRow" (.ref C4)
 g5 : Gc mg "NoMiddle" (.ref C5)
 k0 : PySem.W.kitOne K (.ref CU) (.ref CU) = some true
 k1 : PySem.W.kitOne K (.ref CU) (.ref C1) = some false
 k2 : PySem.W.kitOne K (.ref CU) (.ref C2) = some false
 k3 : PySem.W.kitOne K (.ref CU) (.ref C3) = some false
 k4 : PySem.W.kitOne K (.ref CU) (.ref C4) = some false
 k5 : PySem.W.kitOne K (.ref CU) (.ref C5) = some false
def spLaw (K : PySem.W.Frag) : Sp := fun vs H Q _ => ∃ (a : Addr) (ns : List Int), vs = [.ref a] /\ SqL K H a (ns.map V.int) /\ ns.length <= 63 /\ ∀ H', Q (.bl true) H'
section
variable {P : Program} {w : World} {K : PySem.W.Frag} {mg : Str -> Option Value} {base : Heap} {f : Addr} {fd : FuncData} {CE CU C1 C2 C3 C4 C5 : Addr}
theorem ok_law (Er : Errs K mg CE CU C1 C2 C3 C4 C5) (bi : Bi mg) (h_d : Has P w K mg base 1 "_law_cell_at" ["script", "k"] (xK K)) (h_k : Has P w K mg base 2 "_law_pool" ["script"] (spPool K)) (h_g : Has P w K mg base 2 "_law_stack" ["cells", "pool"] (xU K)) (h_b : Has P w K mg base 1 "_law_whole_term" ["stack"] spWhole) (h_l : Has P w K mg base 1 "_law_long" ["cell", "pool"] (spLg K)) (h_e : Has P w K mg base 21 "_law_build" ["rows", "t"] (spBd 21)) (h_i : Has P w K mg base 10 "_law_alike" ["found", "due"] (spAlk K 10)) (h_j : Has P w K mg base 45 "sheet_of" ["terms"] (fun vs H Q _ => spSo K CU vs H Q E0)) (hx_sheet_of : HasX P w K mg base 45 "sheet_of" ["terms"] (spSo K CU)) (F : Fun K "law" "law" s_p f fd) : FnOk P w K mg base CX0 65 f fd ["script"] (spLaw K) := by
 have m_ClashError := Er.ce
 have xb_ClashError := Er.cb
 have g_TooMuch := Er.g0
 have g_NoText := Er.g1
 have g_NoName := Er.g2
 have g_NoRule := Er.g3
 have g_NoRow := Er.g4
 have g_NoMiddle := Er.g5
 refine F.ok sc_p (fun vs H Q E h => ?_) (fun cdv A outer s H vs Q E hr h => ?_)
 · obtain ⟨a, ns, rfl, _⟩ := h
   rfl
 obtain ⟨a, ns, rfl, hS, h63, q⟩ := h
 refine ⟨_, (zC (zM (i := 1) sc_p.nd rfl (Or.inl rfl) (zL h_k (hr.mono (by omega)) rfl (zA (pv 0) pa_nil))) (zC (zU (qE (yY (zL h_i (hr.mono (by omega)) rfl (zA (zL h_j (hr.mono (by omega)) rfl (zA (yM pa_nil) pa_nil)) (zA (yM (zA (yE (zA zQ pa_nil)) pa_nil)) pa_nil))))) (zE (zN xD)) pss_nil) (zC (zM (i := 2) sc_p.nd rfl (Or.inl rfl) (zL h_g (hr.mono (by omega)) rfl (zA (yH sl_list (pv 0) (yG zD) (yG zD)) (zA (pv 1) pa_nil)))) (zC (yD (yQ PySem.F.plainAttrs_list PySem.F.slot_list_append PySem.F.type_list_append mt_append (pv 2) (zA (zL h_b (hr.mono (by omega)) rfl (zA (yU call_list_of rfl bi.list bt_list (zA (pv 2) pa_nil)) pa_nil)) pa_nil))) (zC (zU (zK op_eq (zJ op_mod (zL h_d (hr.mono (by omega)) rfl (zA (pv 0) (zA zD pa_nil))) zD) zD (zP _)) (zC (zM (i := 2) sc_p.nd rfl (Or.inl rfl) (zL h_g (hr.mono (by omega)) rfl (zA (yH sl_list (pv 0) (yG zD) (yG zD)) (zA (pv 1) pa_nil)))) (zE (yD (yQ PySem.F.plainAttrs_list PySem.F.slot_list_append PySem.F.type_list_append mt_append (pv 2) (zA (zL h_l (hr.mono (by omega)) rfl (zA (zJ op_mod (zL h_d (hr.mono (by omega)) rfl (zA (pv 0) (zA zD pa_nil))) (zJ op_pow zD zD)) (zA (pv 1) pa_nil))) pa_nil))))) pss_nil) (zC (zM (i := 3) sc_p.nd rfl (Or.inl rfl) (yM (zA (yE (zA zQ pa_nil)) pa_nil))) (zC (yZ PassesOwn.never rfl (qG (pv 2)) (yP (i := 4) sc_p.nd rfl (Or.inl rfl)) (zE (yD (zL h_e (hr.mono (by omega)) rfl (zA (pv 3) (zA (pv 4) pa_nil)))))) (zC (zM (i := 5) sc_p.nd rfl (Or.inl rfl) (yU call_list_of rfl bi.list bt_list (zA (pv 2) pa_nil))) (zC (zM (i := 6) sc_p.nd rfl (Or.inl rfl) jG) (zC (zM (i := 7) sc_p.nd rfl (Or.inl rfl) xD) (zC (zM (i := 8) sc_p.nd rfl (Or.inl rfl) xD) (zC (ps_try (i := 9) body_nox sc_p.nd rfl rfl rfl m_ClashError xb_ClashError rfl (px_set (i := 6) rfl hx_sheet_of (hr.mono (by omega)) rfl sc_p.nd rfl (Or.inl rfl) (zA (pv 5) pa_nil)) (fun _ => (zC (zM (i := 7) sc_p.nd rfl (Or.inl rfl) xD) (zE (zM (i := 8) sc_p.nd rfl (Or.inl rfl) (xE (zO (call_isXK K rfl) rfl bi.isinstance bt_isinstance (zA (pv 9) (zA (xQ g_TooMuch rfl) pa_nil))) (xM (pe_not (zO (call_isXTK K rfl) rfl bi.isinstance bt_isinstance (zA (pv 9) (zA (yE (zA (xQ g_NoText rfl) (zA (xQ g_NoName rfl) (zA (xQ g_NoRule rfl) (zA (xQ g_NoRow rfl) (zA (xQ g_NoMiddle rfl) pa_nil)))))) pa_nil))))))))))) (zC (zU (zK (op_neG hr.units) (pv 5) (pv 2) (zP _)) (zE (zN xD)) pss_nil) (zC (zU (zK op_gt (zO call_len rfl bi.len bt_len (zA (pv 3) pa_nil)) zD (zP _)) (zE (zN (xE (pv 7) (xM (pv 8))))) pss_nil) (zE (zN (xE (pe_not (pv 7)) (xM (zL h_i (hr.mono (by omega)) rfl (zA (pv 6) (zA (pv 3) pa_nil))))))))))))))))))))), ?_⟩
 refine zI fun N hN => ?_
 simp! [spPool]
 refine ⟨ns, hS, fun pp H1 e1 hP => hN _ _ ?_⟩
 clear hN
 refine zI fun N hN => ?_
 simp! []
 refine ⟨zV (by decide), fun p1 hp1 => ?_⟩
 have s1 := zF hp1 (.lst [])
 refine ⟨p1, [], [], rfl, zB, rfl, (fun t ht => by cases ht), fun _ p2 as2 H2 s2 k2 l2 ks2 => ?_, fun h => absurd h (by decide)⟩
 refine ⟨zV (by decide), fun p3 hp3 => ⟨zV (by decide), fun p4 hp4 => ?_⟩⟩
 have s3 := zF hp3 (.tup [V.str "none"])
 have s4 := zF hp4 (.lst [V.ref p3])
 have s34 := s3.trans s4
 refine ⟨_, _, .lst ([Rw.no].map dRw), rfl, jR (R := [.no]) (s34 _ _ k2) l2 (fun i r a h1 h2 => Same.sqT s34 (ks2 i r a h1 h2)), ⟨p4, _, rfl, zB, _, _, rfl, ⟨p3, _, rfl, s4 _ _ zB, _, _, rfl, rfl, rfl⟩, rfl⟩, ⟨by decide, fun d hd => ?_⟩, true, rfl, ?_⟩
 · rw [List.mem_singleton.mp hd]
   exact ⟨by decide, fun d hd => by rw [List.mem_singleton.mp hd]; trivial⟩
 rw [if_neg (by decide)]
 refine hN _ _ ?_
 clear hN
 have sA := s1.trans (s2.trans s34)
 generalize upd (upd H2 p3 (.tup [V.str "none"])) p4 (.lst [V.ref p3]) = H3 at sA ⊢
 replace hP : Pool K H3 pp := Pool.same sA hP
 replace e1 := e1.trans sA
 clear s1 s2 s3 s4 s34 sA k2 l2 ks2 hp1 hp3 hp4
 refine zI fun N hN => ?_
 simp! [xU]
 refine ⟨_, Same.seq e1 hS, fun p hp => ?_⟩
 rw [cut_ints]
 have hcl := cutI_len ns (some 3) (some 63)
 generalize qK ns (some 3) (some 63) = cs at hcl
 have e2 := zF hp (.lst (cs.map V.int))
 refine ⟨cs, SqL.of zB, by omega, Pool.same e2 hP, fun sa us ts H4 e4 nsa hsa hts hne hf hw => hN _ _ ?_⟩
 clear hN
 have nsa3 : H3 sa = none := e2.free nsa
 have e34 : Same H3 H4 := e2.trans e4
 clear e2 e4 nsa hp
 have hw64 : wts ts <= 64 := by omega
 have hul : us.length = ts.length := by have := DAts.length hts; rwa [List.length_map] at this
 have htl := wts_len ts
 refine zI fun N hN => ?_
 simp! [spWhole]
 refine ⟨.inl ⟨rfl, _, SqL.of hsa⟩, us, .inl (SqL.of hsa), fun l hl => ?_⟩
 have s5 := zF hl (.lst us)
 refine ⟨us, zB, ts, DAts.same s5 hts, hne, hf, 64, hw64, by decide, fun v H5 s6 hv hfv hwv => ?_⟩
 have s56 := s5.trans s6
 have hsa5 := s56 _ _ hsa
 refine ⟨us, hsa5, zY (by omega), hN _ _ ?_⟩
 clear hN
 have tS := tup_upd hsa5 (.lst (us ++ [v]))
 have hts5 : TAts (upd H5 sa (.lst (us ++ [v]))) (ts ++ [whole ts]) (us ++ [v]) := TAts.append (TAts.tups tS (DAts.same s56 hts)) (TAts.one (TAt.tups tS hv))
 have e35 : Same H3 (upd H5 sa (.lst (us ++ [v]))) := (e34.trans s56).upd nsa3
 have k5 : upd H5 sa (.lst (us ++ [v])) sa = some (.lst (us ++ [v])) := zB
 have hf5 : ∀ t ∈ ts ++ [whole ts], Fit 18 t := fun t ht => by
   rcases List.mem_append.mp ht with ht | ht
   · exact (hf t ht).mono (by decide)
   · rw [List.mem_singleton.mp ht]; exact hfv
 have hw5 : wts (ts ++ [whole ts]) <= 130 := by rw [wts_app, wts, wts]; omega
 generalize ts ++ [whole ts] = T at hts5 hf5 hw5
 generalize us ++ [v] = U at hts5 e35 k5
 generalize upd H5 sa (.lst U) = G at hts5 e35 k5 ⊢
 clear hv hfv hwv s5 s6 s56 hsa5 tS hl hts hf hw hw64 hne hsa e34 htl hul
 refine zZ (fun σ G' => ∃ (sa : Addr) (us : List V) (ts : List Tm), Same H3 G' /\ G' sa = some (.lst us) /\ TAts G' ts us /\ (∀ t ∈ ts, Fit 18 t) /\ wts ts <= 130 /\ σ = [some (V.ref a), some (V.ref pp), some (V.ref sa), none, none, none, none, none, none, none]) (fun N hN => ?_) (fun σ G' h => ?_)
 · simp! [xU]
   have hSG : SqL K G a (ns.map V.int) := Same.seq (e1.trans e35) hS
   refine ⟨a, ns, 0, rfl, hSG, _, rfl, by decide, rfl, ?_⟩
   split
   · clear hts5 k5
     refine ⟨_, hSG, fun p hp => ?_⟩
     rw [cut_ints]
     have hcl : (qK ns (some 3) (some 7)).length <= 4 := cutI_len2 ns 3 7
     generalize qK ns (some 3) (some 7) = cs at hcl
     have e2 := zF hp (.lst (cs.map V.int))
     refine ⟨cs, SqL.of zB, by omega, Pool.same (e35.trans e2) hP, fun sa us ts H4 e4 nsa hsa hts hne hf hw => ?_⟩
     have nsa3 : H3 sa = none := (e35.trans e2).free nsa
     have e34 : Same H3 H4 := e35.trans (e2.trans e4)
     clear e2 e4 nsa hp
     have hul : us.length = ts.length := by have := DAts.length hts; rwa [List.length_map] at this
     have htl := wts_len ts
     refine ⟨.inl ⟨rfl, _, SqL.of hsa⟩, a, ns, 2, rfl, Same.seq (e1.trans e34) hS, ⟨by decide, by decide, by decide⟩, _, rfl, by show (0 : Int) < 10 ^ 9; decide, ?_⟩
     refine ⟨_, pp, rfl, Int.emod_nonneg _ (by show (10 : Int) ^ 9 ≠ 0; decide), Pool.same e34 hP, fun v t H5 s5 hv hfv hwv => ?_⟩
     have hsa5 := s5 _ _ hsa
     refine ⟨us, hsa5, zY (by omega), hN _ _ ?_⟩
     have tS := tup_upd hsa5 (.lst (us ++ [v]))
     refine ⟨sa, us ++ [v], ts ++ [t], (e34.trans s5).upd nsa3, zB, TAts.append (TAts.tups tS (DAts.same s5 hts)) (TAts.one (TAt.tups tS hv)), fun u hu => ?_, by rw [wts_app, wts, wts]; omega, rfl⟩
     rcases List.mem_append.mp hu with hu | hu
     · exact (hf u hu).mono (by decide)
     · rw [List.mem_singleton.mp hu]; exact hfv.mono (by decide)
   · exact hN _ _ ⟨sa, U, T, e35, k5, hts5, hf5, hw5, rfl⟩
 clear nsa3 e35 k5 hts5 hf5 hw5
 obtain ⟨sa, us, ts, e3, hsa, hts, hf, hw, rfl⟩ := h
 have hul : us.length = ts.length := by have := DAts.length hts; rwa [List.length_map] at this
 have htl := wts_len ts
 refine zI fun N hN => ?_
 simp! []
 refine ⟨zV (by decide), fun p1 hp1 => ⟨zV (by decide), fun ra hra0 => hN _ _ ?_⟩⟩
 clear hN
 have s1 := zF hp1 (.tup [V.str "none"])
 have k1 : upd G' p1 (.tup [V.str "none"]) p1 = some (.tup [V.str "none"]) := zB
 generalize upd G' p1 (.tup [V.str "none"]) = H5 at s1 k1 hra0 ⊢
 have ov0 := Ov.mk0 hra0 [V.ref p1]
 generalize upd H5 ra (.lst [V.ref p1]) = H6 at ov0 ⊢
 refine zZ (fun σ G => ∃ (J : Hp) (vs : List V) (o4 : Option V), Same H5 J /\ Ov G J ra vs /\ RwAts J (blds ts [.no]) vs /\ (blds ts [.no]).length <= 261 /\ σ = [some (V.ref a), some (V.ref pp), some (V.ref sa), some (V.ref ra), o4, none, none, none, none, none]) (fun N hN => ?_) (fun σ G h => ?_)
 · simp! []
   have hsa6 := (s1.trans ov0.sub) _ _ hsa
   refine ⟨⟨_, SqL.of hsa6⟩, ?_⟩
   refine qI (xs := us) (fun i σ G => ∃ (J : Hp) (vs : List V) (rows : List Rw) (o4 : Option V), Same H5 J /\ Ov G J ra vs /\ RwAts J rows vs /\ Sht rows /\ rows.length + 2 * wts (ts.drop i) <= 261 /\ blds (ts.drop i) rows = blds ts [.no] /\ σ = [some (V.ref a), some (V.ref pp), some (V.ref sa), some (V.ref ra), o4, none, none, none, none, none]) ⟨H5, _, [.no], _, Same.refl _, ov0, ⟨_, _, rfl, ⟨p1, _, rfl, k1, _, _, rfl, rfl, rfl⟩, rfl⟩, Sht.one, by rw [List.drop_zero]; show 1 + 2 * wts ts <= 261; omega, by rw [List.drop_zero], rfl⟩ (fun i σ G _ h => by obtain ⟨_, _, _, _, sg, og, _⟩ := h; exact SqL.of (og.sub _ _ (sg _ _ (s1 _ _ hsa)))) (fun i x σ G hx h => ?_) (fun σ G h => ?_)
   · obtain ⟨J, vs, rows, o4, sJ, ov, hrw, hsh, hrl, hb, rfl⟩ := h
     obtain ⟨t, hti, hx'⟩ := xX (f := toD) hts hx
     obtain ⟨hil, hie⟩ := List.getElem?_eq_some_iff.mp hti
     rw [List.drop_eq_getElem_cons hil, hie, wts] at hrl
     rw [List.drop_eq_getElem_cons hil, hie, blds] at hb
     have hft := hf t (List.mem_of_getElem? hti)
     have hwp := wt_pos t
     obtain ⟨g1, g2, g3, g4⟩ := bld_grw t 18 rows hft hsh
     simp! []
     refine ⟨ra, vs, x, rows, t, J, rfl, ov, hrw, hsh, by omega, DAt.same (s1.trans sJ) hx', hft.mono (by decide), fun H' J' us' sJ' ov' hrw' => ?_⟩
     exact ⟨J', sJ.trans sJ', us', ov', (bld t rows).1, hrw', g1, by omega, hb, _, rfl⟩
   · obtain ⟨J, vs, rows, o4, sJ, ov, hrw, hsh, hrl, hb, rfl⟩ := h
     rw [hul, List.drop_length, blds] at hb
     exact hN _ _ ⟨J, vs, _, sJ, ov, by rw [← hb]; exact hrw, by rw [← hb]; omega, rfl⟩
 obtain ⟨J, vs, o4, sJ, ov, hrw, hrl, rfl⟩ := h
 have sB := s1.trans (sJ.trans ov.sub)
 have hra := ov.at
 replace hrw : RwAts G (blds ts [.no]) vs := DAts.same ov.sub hrw
 replace hsa := sB _ _ hsa
 replace hts : TAts G ts us := DAts.same sB hts
 clear ov ov0 sJ sB s1 k1 hra0 hp1
 refine zI fun N hN => ?_
 simp! []
 refine ⟨us, .inl (SqL.of hsa), fun ph hph => hN _ _ ?_⟩
 clear hN
 have sh := zF hph (.lst us)
 have kh : upd G ph (.lst us) ph = some (.lst us) := zB
 generalize upd G ph (.lst us) = G1 at sh kh ⊢
 replace hra := sh _ _ hra
 replace hsa := sh _ _ hsa
 replace hrw : RwAts G1 (blds ts [.no]) vs := DAts.same sh hrw
 replace hts : TAts G1 ts us := DAts.same sh hts
 clear sh hph
 refine zI fun N hN => ?_
 simp! []
 refine hN _ _ ?_
 clear hN
 refine zI fun N hN => ?_
 simp! []
 refine hN _ _ ?_
 clear hN
 refine zI fun N hN => ?_
 simp! []
 refine hN _ _ ?_
 clear hN
 refine zI fun N hN => ?_
 simp! [tTry, tXSet, rIsX, rIsXT]
 have hany : PySem.W.kitAny K (.ref CU) [.ref C1, .ref C2, .ref C3, .ref C4, .ref C5] = some false := by
   simp only [PySem.W.kitAny, Er.k1, Er.k2, Er.k3, Er.k4, Er.k5]
 generalize hR : blds ts [.no] = R at hrw hrl
 have fin : ∀ (H' : Hp) (fv : V) (rf gd : Bool), Same G1 H' -> (R.length <= 40 -> rf = false /\ LAt K H' (.lst (R.map dRw)) fv) -> (40 < R.length -> rf = true /\ gd = true) -> N [some (V.ref a), some (V.ref pp), some (V.ref sa), some (V.ref ra), o4, some (V.ref ph), some fv, some (V.bl rf), some (V.bl gd), none] H' := fun H' fv rf gd sH hle hgt => hN _ _ (by
   refine zI fun N hN => ?_
   simp! [rNeG]
   refine ⟨19, .lst (ts.map toD), ⟨ph, us, rfl, sH _ _ kh, DAts.same sH hts⟩, .lst (ts.map toD), ⟨sa, us, rfl, sH _ _ hsa, DAts.same sH hts⟩, ⟨by rw [List.length_map]; omega, fun d hd => ?_⟩, by decide, ?_⟩
   · obtain ⟨t, ht, rfl⟩ := List.mem_map.mp hd
     obtain ⟨i, hi⟩ := List.getElem?_of_mem ht
     have := wt_part hi
     exact (hf t ht).dfit (by omega)
   rw [deq_refl, if_neg (by decide)]
   refine hN _ _ ?_
   have hvl : vs.length = R.length := by have := DAts.length hrw; rwa [List.length_map] at this
   simp! []
   refine ⟨R.length, .inl ⟨_, SqL.of (sH _ _ hra), hvl.symm⟩, ?_⟩
   by_cases h40 : 40 < R.length
   · obtain ⟨rfl, rfl⟩ := hgt h40
     rw [if_pos (by omega), if_pos rfl]
     exact q _
   · obtain ⟨rfl, hla⟩ := hle (by omega)
     rw [if_neg (by omega), if_pos rfl]
     exact ⟨_, _, .lst (R.map dRw), rfl, hla, ⟨ra, vs, rfl, sH _ _ hra, DAts.same sH hrw⟩, DFit.mono (n := 3) ⟨by rw [List.length_map]; omega, yT R⟩ (by decide), q _⟩)
 refine ⟨ph, us, ts, rfl, kh, hts, fun t ht => (Fit.mono (hf t ht) (by decide) : Fit 20 t), fun h40 p2 as2 H2 s2 k2 l2 ks2 => ?_, fun h40 H2 s2 => ?_⟩
 · rw [hR] at h40 l2 ks2
   exact fin H2 _ false false s2 (fun _ => ⟨rfl, jR k2 l2 ks2⟩) (fun h => absurd h40 (by omega))
 · rw [hR] at h40
   refine ⟨CU, rfl, Er.ct, fun ea hea => ⟨CU, zB, Er.xc, _, .inl ⟨_, rfl, rfl⟩, true, Er.k0, ?_⟩⟩
   rw [if_pos rfl]
   refine ⟨zV (by decide), fun p3 hp3 => ⟨CU, zF hp3 _ _ _ zB, Er.xc, _, zB, _, .cons (.inl ⟨_, rfl, rfl⟩) (.cons (.inl ⟨_, rfl, rfl⟩) (.cons (.inl ⟨_, rfl, rfl⟩) (.cons (.inl ⟨_, rfl, rfl⟩) (.cons (.inl ⟨_, rfl, rfl⟩) .nil)))), false, hany, ?_⟩⟩
   exact fin _ .non true true (s2.trans ((zF hea _).trans (zF hp3 _))) (fun h => absurd h40 (by omega)) (fun _ => ⟨rfl, rfl⟩)
end
theorem ln0 {us : List Value} (h : us.length = 0) : us = [] := List.length_eq_zero_iff.mp h
theorem lnS {us : List Value} {n : Nat} (h : us.length = n + 1) : ∃ (u : Value) (r : List Value), us = u :: r /\ r.length = n := by
 cases us with
 | nil => cases h
 | cons u r => exact ⟨u, r, rfl, Nat.succ.inj h⟩
theorem ln1 {us : List Value} (h : us.length = 1) : ∃ a, us = [a] := by
 obtain ⟨a, r, rfl, g⟩ := lnS h
 cases ln0 g
 exact ⟨a, rfl⟩
theorem ln2 {us : List Value} (h : us.length = 2) : ∃ a b, us = [a, b] := by
 obtain ⟨a, r, rfl, g⟩ := lnS h
 obtain ⟨b, rfl⟩ := ln1 g
 exact ⟨a, b, rfl⟩
theorem ln3 {us : List Value} (h : us.length = 3) : ∃ a b c, us = [a, b, c] := by
 obtain ⟨a, r, rfl, g⟩ := lnS h
 obtain ⟨b, c, rfl⟩ := ln2 g
 exact ⟨a, b, c, rfl⟩
theorem all_mk {l : PySem.W.OpenLaw} {w : World} {K : PySem.W.Frag} {h : Heap} {mg : Str -> Option Value} {fa : Addr} (X : K.In h) (G : h.Ns mainGlobals mg) (hfa : mg "law" = some (.ref fa))
   {f_o : Addr} {od_o an_o : Option Addr} {sl_o : Array (Option Value)} {oc_o kV_o dc_o pm_o cd_o ct_o : Value} (a_o : PySem.W.nsIn K mainGlobals "put_in" = some (some (.ref f_o))) (l_o : K.lookup f_o = some ⟨oc_o, od_o, .func (PySem.W.fnOf "put_in" "put_in" (zW s_o) (zT s_o) (zG s_o) .none kV_o dc_o pm_o an_o cd_o ct_o), sl_o⟩) (c_o : PySem.W.codeIn K cd_o "put_in" = true) (k_o : PySem.W.keepIn K (.ref f_o) = true)
   {f_n : Addr} {od_n an_n : Option Addr} {sl_n : Array (Option Value)} {oc_n kV_n dc_n pm_n cd_n ct_n : Value} (a_n : PySem.W.nsIn K mainGlobals "turned" = some (some (.ref f_n))) (l_n : K.lookup f_n = some ⟨oc_n, od_n, .func (PySem.W.fnOf "turned" "turned" (zW s_n) (zT s_n) (zG s_n) .none kV_n dc_n pm_n an_n cd_n ct_n), sl_n⟩) (c_n : PySem.W.codeIn K cd_n "turned" = true) (k_n : PySem.W.keepIn K (.ref f_n) = true)
   {f_h : Addr} {od_h an_h : Option Addr} {sl_h : Array (Option Value)} {oc_h kV_h dc_h pm_h cd_h ct_h : Value} (a_h : PySem.W.nsIn K mainGlobals "number_by" = some (some (.ref f_h))) (l_h : K.lookup f_h = some ⟨oc_h, od_h, .func (PySem.W.fnOf "number_by" "number_by" (zW s_h) (zT s_h) (zG s_h) .none kV_h dc_h pm_h an_h cd_h ct_h), sl_h⟩) (c_h : PySem.W.codeIn K cd_h "number_by" = true) (k_h : PySem.W.keepIn K (.ref f_h) = true)
   {f_a : Addr} {od_a an_a : Option Addr} {sl_a : Array (Option Value)} {oc_a kV_a dc_a pm_a cd_a ct_a : Value} (a_a : PySem.W.nsIn K mainGlobals "joined_number" = some (some (.ref f_a))) (l_a : K.lookup f_a = some ⟨oc_a, od_a, .func (PySem.W.fnOf "joined_number" "joined_number" (zW s_a) (zT s_a) (zG s_a) .none kV_a dc_a pm_a an_a cd_a ct_a), sl_a⟩) (c_a : PySem.W.codeIn K cd_a "joined_number" = true) (k_a : PySem.W.keepIn K (.ref f_a) = true)
   {f_j : Addr} {od_j an_j : Option Addr} {sl_j : Array (Option Value)} {oc_j kV_j dc_j pm_j cd_j ct_j : Value} (a_j : PySem.W.nsIn K mainGlobals "sheet_of" = some (some (.ref f_j))) (l_j : K.lookup f_j = some ⟨oc_j, od_j, .func (PySem.W.fnOf "sheet_of" "sheet_of" (zW s_j) (zT s_j) (zG s_j) .none kV_j dc_j pm_j an_j cd_j ct_j), sl_j⟩) (c_j : PySem.W.codeIn K cd_j "sheet_of" = true) (k_j : PySem.W.keepIn K (.ref f_j) = true)
   {f_d : Addr} {od_d an_d : Option Addr} {sl_d : Array (Option Value)} {oc_d kV_d dc_d pm_d cd_d ct_d : Value} (a_d : PySem.W.nsIn K mainGlobals "_law_cell_at" = some (some (.ref f_d))) (l_d : K.lookup f_d = some ⟨oc_d, od_d, .func (PySem.W.fnOf "_law_cell_at" "_law_cell_at" (zW s_d) (zT s_d) (zG s_d) .none kV_d dc_d pm_d an_d cd_d ct_d), sl_d⟩) (c_d : PySem.W.codeIn K cd_d "_law_cell_at" = true) (k_d : PySem.W.keepIn K (.ref f_d) = true)
   {f_c : Addr} {od_c an_c : Option Addr} {sl_c : Array (Option Value)} {oc_c kV_c dc_c pm_c cd_c ct_c : Value} (a_c : PySem.W.nsIn K mainGlobals "_law_name_by" = some (some (.ref f_c))) (l_c : K.lookup f_c = some ⟨oc_c, od_c, .func (PySem.W.fnOf "_law_name_by" "_law_name_by" (zW s_c) (zT s_c) (zG s_c) .none kV_c dc_c pm_c an_c cd_c ct_c), sl_c⟩) (c_c : PySem.W.codeIn K cd_c "_law_name_by" = true) (k_c : PySem.W.keepIn K (.ref f_c) = true)
   {f_k : Addr} {od_k an_k : Option Addr} {sl_k : Array (Option Value)} {oc_k kV_k dc_k pm_k cd_k ct_k : Value} (a_k : PySem.W.nsIn K mainGlobals "_law_pool" = some (some (.ref f_k))) (l_k : K.lookup f_k = some ⟨oc_k, od_k, .func (PySem.W.fnOf "_law_pool" "_law_pool" (zW s_k) (zT s_k) (zG s_k) .none kV_k dc_k pm_k an_k cd_k ct_k), sl_k⟩) (c_k : PySem.W.codeIn K cd_k "_law_pool" = true) (k_k : PySem.W.keepIn K (.ref f_k) = true)
   {f_m : Addr} {od_m an_m : Option Addr} {sl_m : Array (Option Value)} {oc_m kV_m dc_m pm_m cd_m ct_m : Value} (a_m : PySem.W.nsIn K mainGlobals "_law_leaf" = some (some (.ref f_m))) (l_m : K.lookup f_m = some ⟨oc_m, od_m, .func (PySem.W.fnOf "_law_leaf" "_law_leaf" (zW s_m) (zT s_m) (zG s_m) .none kV_m dc_m pm_m an_m cd_m ct_m), sl_m⟩) (c_m : PySem.W.codeIn K cd_m "_law_leaf" = true) (k_m : PySem.W.keepIn K (.ref f_m) = true)
   {f_g : Addr} {od_g an_g : Option Addr} {sl_g : Array (Option Value)} {oc_g kV_g dc_g pm_g cd_g ct_g : Value} (a_g : PySem.W.nsIn K mainGlobals "_law_stack" = some (some (.ref f_g))) (l_g : K.lookup f_g = some ⟨oc_g, od_g, .func (PySem.W.fnOf "_law_stack" "_law_stack" (zW s_g) (zT s_g) (zG s_g) .none kV_g dc_g pm_g an_g cd_g ct_g), sl_g⟩) (c_g : PySem.W.codeIn K cd_g "_law_stack" = true) (k_g : PySem.W.keepIn K (.ref f_g) = true)
   {f_b : Addr} {od_b an_b : Option Addr} {sl_b : Array (Option Value)} {oc_b kV_b dc_b pm_b cd_b ct_b : Value} (a_b : PySem.W.nsIn K mainGlobals "_law_whole_term" = some (some (.ref f_b))) (l_b : K.lookup f_b = some ⟨oc_b, od_b, .func (PySem.W.fnOf "_law_whole_term" "_law_whole_term" (zW s_b) (zT s_b) (zG s_b) .none kV_b dc_b pm_b an_b cd_b ct_b), sl_b⟩) (c_b : PySem.W.codeIn K cd_b "_law_whole_term" = true) (k_b : PySem.W.keepIn K (.ref f_b) = true)
   {f_i : Addr} {od_i an_i : Option Addr} {sl_i : Array (Option Value)} {oc_i kV_i dc_i pm_i cd_i ct_i : Value} (a_i : PySem.W.nsIn K mainGlobals "_law_alike" = some (some (.ref f_i))) (l_i : K.lookup f_i = some ⟨oc_i, od_i, .func (PySem.W.fnOf "_law_alike" "_law_alike" (zW s_i) (zT s_i) (zG s_i) .none kV_i dc_i pm_i an_i cd_i ct_i), sl_i⟩) (c_i : PySem.W.codeIn K cd_i "_law_alike" = true) (k_i : PySem.W.keepIn K (.ref f_i) = true)
   {f_f : Addr} {od_f an_f : Option Addr} {sl_f : Array (Option Value)} {oc_f kV_f dc_f pm_f cd_f ct_f : Value} (a_f : PySem.W.nsIn K mainGlobals "_law_turned" = some (some (.ref f_f))) (l_f : K.lookup f_f = some ⟨oc_f, od_f, .func (PySem.W.fnOf "_law_turned" "_law_turned" (zW s_f) (zT s_f) (zG s_f) .none kV_f dc_f pm_f an_f cd_f ct_f), sl_f⟩) (c_f : PySem.W.codeIn K cd_f "_law_turned" = true) (k_f : PySem.W.keepIn K (.ref f_f) = true)
   {f_e : Addr} {od_e an_e : Option Addr} {sl_e : Array (Option Value)} {oc_e kV_e dc_e pm_e cd_e ct_e : Value} (a_e : PySem.W.nsIn K mainGlobals "_law_build" = some (some (.ref f_e))) (l_e : K.lookup f_e = some ⟨oc_e, od_e, .func (PySem.W.fnOf "_law_build" "_law_build" (zW s_e) (zT s_e) (zG s_e) .none kV_e dc_e pm_e an_e cd_e ct_e), sl_e⟩) (c_e : PySem.W.codeIn K cd_e "_law_build" = true) (k_e : PySem.W.keepIn K (.ref f_e) = true)
   {f_l : Addr} {od_l an_l : Option Addr} {sl_l : Array (Option Value)} {oc_l kV_l dc_l pm_l cd_l ct_l : Value} (a_l : PySem.W.nsIn K mainGlobals "_law_long" = some (some (.ref f_l))) (l_l : K.lookup f_l = some ⟨oc_l, od_l, .func (PySem.W.fnOf "_law_long" "_law_long" (zW s_l) (zT s_l) (zG s_l) .none kV_l dc_l pm_l an_l cd_l ct_l), sl_l⟩) (c_l : PySem.W.codeIn K cd_l "_law_long" = true) (k_l : PySem.W.keepIn K (.ref f_l) = true)
   {f_p : Addr} {od_p an_p : Option Addr} {sl_p : Array (Option Value)} {oc_p kV_p dc_p pm_p cd_p ct_p : Value} (a_p : PySem.W.nsIn K mainGlobals "law" = some (some (.ref f_p))) (l_p : K.lookup f_p = some ⟨oc_p, od_p, .func (PySem.W.fnOf "law" "law" (zW s_p) (zT s_p) (zG s_p) .none kV_p dc_p pm_p an_p cd_p ct_p), sl_p⟩) (c_p : PySem.W.codeIn K cd_p "law" = true) (k_p : PySem.W.keepIn K (.ref f_p) = true)
   {a_NONE_ROW : Addr} {d_NONE_ROW : Option Addr} {n_NONE_ROW : Nat} {sl_NONE_ROW : Array (Option Value)} {t_N1 : Tok} (g_NONE_ROW : PySem.W.nsIn K mainGlobals "NONE_ROW" = some (some (.ref a_NONE_ROW))) (o_NONE_ROW : K.lookup a_NONE_ROW = some ⟨.type "tuple", d_NONE_ROW, .seq #[.str "none" t_N1] n_NONE_ROW, sl_NONE_ROW⟩)
   {t_MOST_ROWS : Tok} (g_MOST_ROWS : PySem.W.nsIn K mainGlobals "MOST_ROWS" = some (some (.int 40 t_MOST_ROWS)))
   {C_ClashError : Addr} (a_ClashError : PySem.W.nsIn K mainGlobals "ClashError" = some (some (.ref C_ClashError)))
   {C_NoText : Addr} (a_NoText : PySem.W.nsIn K mainGlobals "NoText" = some (some (.ref C_NoText)))
   {C_NoName : Addr} (a_NoName : PySem.W.nsIn K mainGlobals "NoName" = some (some (.ref C_NoName)))
   {C_NoRule : Addr} (a_NoRule : PySem.W.nsIn K mainGlobals "NoRule" = some (some (.ref C_NoRule)))
   {C_NoRow : Addr} (a_NoRow : PySem.W.nsIn K mainGlobals "NoRow" = some (some (.ref C_NoRow)))
   {C_NoMiddle : Addr} (a_NoMiddle : PySem.W.nsIn K mainGlobals "NoMiddle" = some (some (.ref C_NoMiddle)))
   {C_TooMuch : Addr} (a_TooMuch : PySem.W.nsIn K mainGlobals "TooMuch" = some (some (.ref C_TooMuch)))
    (ei_TooMuch : PySem.W.excIn K C_TooMuch [.type "ValueError", .type "Exception", .type "BaseException", .type "object"] "ValueError.__new__" = true) (x1_TooMuch : (PySem.W.clsIn K C_TooMuch).isSome = true) (x2_TooMuch : PySem.W.findIn K (.ref C_TooMuch) "__getattribute__" = some (some (.builtin "BaseException.__getattribute__"))) (x3_TooMuch : PySem.W.findIn K (.ref C_TooMuch) "__getattr__" = some none) (x4_TooMuch : PySem.W.findIn K (.ref C_TooMuch) "__class__" = some (some (.builtin "object.__class__"))) (x5_TooMuch : PySem.W.specialIn K (.builtin "object.__class__") "__get__" = some (some (.builtin "getset_descriptor.__get__"))) (x6_TooMuch : PySem.W.takesIn K (.builtin "object.__class__") = some true) (x7_TooMuch : PySem.W.mroIn K C_TooMuch (.type "object") = some true) (x8_TooMuch : PySem.W.mroIn K C_TooMuch (.type "BaseException") = some true) (xb_TooMuch : xSub K C_ClashError (.type "BaseException") = some true) (xt_TooMuch : xSub K C_TooMuch (.ref C_ClashError) = some true) (kv_TooMuch : PySem.W.kitOne K (.ref C_TooMuch) (.type "ValueError") = some true)
    (ko_TooMuch_TooMuch : PySem.W.kitOne K (.ref C_TooMuch) (.ref C_TooMuch) = some true)
    (ko_TooMuch_NoText : PySem.W.kitOne K (.ref C_TooMuch) (.ref C_NoText) = some false)
    (ko_TooMuch_NoName : PySem.W.kitOne K (.ref C_TooMuch) (.ref C_NoName) = some false)
    (ko_TooMuch_NoRule : PySem.W.kitOne K (.ref C_TooMuch) (.ref C_NoRule) = some false)
    (ko_TooMuch_NoRow : PySem.W.kitOne K (.ref C_TooMuch) (.ref C_NoRow) = some false)
    (ko_TooMuch_NoMiddle : PySem.W.kitOne K (.ref C_TooMuch) (.ref C_NoMiddle) = some false)
   (z_all : PySem.W.nsIn K mainGlobals "all" = some none)
   (z_bool : PySem.W.nsIn K mainGlobals "bool" = some none)
   (z_dict : PySem.W.nsIn K mainGlobals "dict" = some none)
   (z_int : PySem.W.nsIn K mainGlobals "int" = some none)
   (z_isinstance : PySem.W.nsIn K mainGlobals "isinstance" = some none)
   (z_len : PySem.W.nsIn K mainGlobals "len" = some none)
   (z_list : PySem.W.nsIn K mainGlobals "list" = some none)
   (z_max : PySem.W.nsIn K mainGlobals "max" = some none)
   (z_range : PySem.W.nsIn K mainGlobals "range" = some none)
   (z_set : PySem.W.nsIn K mainGlobals "set" = some none)
   (z_sorted : PySem.W.nsIn K mainGlobals "sorted" = some none)
   (z_str : PySem.W.nsIn K mainGlobals "str" = some none)
   (z_sum : PySem.W.nsIn K mainGlobals "sum" = some none)
   (z_tuple : PySem.W.nsIn K mainGlobals "tuple" = some none) :
   ∃ fd : FuncData, (∀ (s : Shared) (v : Value), BindsTo s fd ⟨[v], []⟩ [("script", v)]) /\ ∀ base : Heap, K.In base -> base.Ns mainGlobals mg -> FnOk l.prog w K mg base CX0 65 fa fd ["script"] (spLaw K) := by
 have e := hfa.symm.trans (PySem.W.mg_of X G a_p)
 cases e
 have F_o := yF (st := s_o) l_o c_o k_o
 have b_o := F_o.binds (ps := ["places", "row"]) fun _ _ _ _ _ _ us hl => by obtain ⟨u0, u1, rfl⟩ := ln2 hl; rfl
 have m_o := PySem.W.mg_of X G a_o
 have F_n := yF (st := s_n) l_n c_n k_n
 have b_n := F_n.binds (ps := ["n", "turn"]) fun _ _ _ _ _ _ us hl => by obtain ⟨u0, u1, rfl⟩ := ln2 hl; rfl
 have m_n := PySem.W.mg_of X G a_n
 have F_h := yF (st := s_h) l_h c_h k_h
 have b_h := F_h.binds (ps := ["row_number", "places", "t"]) fun _ _ _ _ _ _ us hl => by obtain ⟨u0, u1, u2, rfl⟩ := ln3 hl; rfl
 have m_h := PySem.W.mg_of X G a_h
 have F_a := yF (st := s_a) l_a c_a k_a
 have b_a := F_a.binds (ps := ["row_number", "places", "t"]) fun _ _ _ _ _ _ us hl => by obtain ⟨u0, u1, u2, rfl⟩ := ln3 hl; rfl
 have m_a := PySem.W.mg_of X G a_a
 have F_j := yF (st := s_j) l_j c_j k_j
 have b_j := F_j.binds (ps := ["terms"]) fun _ _ _ _ _ _ us hl => by obtain ⟨u0, rfl⟩ := ln1 hl; rfl
 have m_j := PySem.W.mg_of X G a_j
 have F_d := yF (st := s_d) l_d c_d k_d
 have b_d := F_d.binds (ps := ["script", "k"]) fun _ _ _ _ _ _ us hl => by obtain ⟨u0, u1, rfl⟩ := ln2 hl; rfl
 have m_d := PySem.W.mg_of X G a_d
 have F_c := yF (st := s_c) l_c c_c k_c
 have b_c := F_c.binds (ps := ["cell", "size"]) fun _ _ _ _ _ _ us hl => by obtain ⟨u0, u1, rfl⟩ := ln2 hl; rfl
 have m_c := PySem.W.mg_of X G a_c
 have F_k := yF (st := s_k) l_k c_k k_k
 have b_k := F_k.binds (ps := ["script"]) fun _ _ _ _ _ _ us hl => by obtain ⟨u0, rfl⟩ := ln1 hl; rfl
 have m_k := PySem.W.mg_of X G a_k
 have F_m := yF (st := s_m) l_m c_m k_m
 have b_m := F_m.binds (ps := ["cell", "pool"]) fun _ _ _ _ _ _ us hl => by obtain ⟨u0, u1, rfl⟩ := ln2 hl; rfl
 have m_m := PySem.W.mg_of X G a_m
 have F_g := yF (st := s_g) l_g c_g k_g
 have b_g := F_g.binds (ps := ["cells", "pool"]) fun _ _ _ _ _ _ us hl => by obtain ⟨u0, u1, rfl⟩ := ln2 hl; rfl
 have m_g := PySem.W.mg_of X G a_g
 have F_b := yF (st := s_b) l_b c_b k_b
 have b_b := F_b.binds (ps := ["stack"]) fun _ _ _ _ _ _ us hl => by obtain ⟨u0, rfl⟩ := ln1 hl; rfl
 have m_b := PySem.W.mg_of X G a_b
 have F_i := yF (st := s_i) l_i c_i k_i
 have b_i := F_i.binds (ps := ["found", "due"]) fun _ _ _ _ _ _ us hl => by obtain ⟨u0, u1, rfl⟩ := ln2 hl; rfl
 have m_i := PySem.W.mg_of X G a_i
 have F_f := yF (st := s_f) l_f c_f k_f
 have b_f := F_f.binds (ps := ["n"]) fun _ _ _ _ _ _ us hl => by obtain ⟨u0, rfl⟩ := ln1 hl; rfl
 have m_f := PySem.W.mg_of X G a_f
 have F_e := yF (st := s_e) l_e c_e k_e
 have b_e := F_e.binds (ps := ["rows", "t"]) fun _ _ _ _ _ _ us hl => by obtain ⟨u0, u1, rfl⟩ := ln2 hl; rfl
 have m_e := PySem.W.mg_of X G a_e
 have F_l := yF (st := s_l) l_l c_l k_l
 have b_l := F_l.binds (ps := ["cell", "pool"]) fun _ _ _ _ _ _ us hl => by obtain ⟨u0, u1, rfl⟩ := ln2 hl; rfl
 have m_l := PySem.W.mg_of X G a_l
 have F_p := yF (st := s_p) l_p c_p k_p
 have b_p := F_p.binds (ps := ["script"]) fun _ _ _ _ _ _ us hl => by obtain ⟨u0, rfl⟩ := ln1 hl; rfl
 have m_p := PySem.W.mg_of X G a_p
 have bi : Bi mg := ⟨PySem.W.mg_none_of X G z_len, PySem.W.mg_none_of X G z_range, PySem.W.mg_none_of X G z_isinstance, PySem.W.mg_none_of X G z_max, PySem.W.mg_none_of X G z_sum, PySem.W.mg_none_of X G z_all, PySem.W.mg_none_of X G z_tuple, PySem.W.mg_none_of X G z_list, PySem.W.mg_none_of X G z_sorted, PySem.W.mg_none_of X G z_set, PySem.W.mg_none_of X G z_int, PySem.W.mg_none_of X G z_bool, PySem.W.mg_none_of X G z_str, PySem.W.mg_none_of X G z_dict⟩
 refine ⟨PySem.W.fnOf "law" "law" (zW s_p) (zT s_p) (zG s_p) .none kV_p dc_p pm_p an_p cd_p ct_p, fun s v => .of_eq rfl, fun base Xb Gb => ?_⟩
 have m_TooMuch := PySem.W.mg_of X G a_TooMuch
 have Er : Errs K mg C_ClashError C_TooMuch C_NoText C_NoName C_NoRule C_NoRow C_NoMiddle := ⟨PySem.W.mg_of X G a_ClashError, xb_TooMuch, xt_TooMuch, ⟨x1_TooMuch, x2_TooMuch, x3_TooMuch, x4_TooMuch, x5_TooMuch, x6_TooMuch, x7_TooMuch, x8_TooMuch⟩, ⟨_, m_TooMuch, rfl⟩, ⟨_, PySem.W.mg_of X G a_NoText, rfl⟩, ⟨_, PySem.W.mg_of X G a_NoName, rfl⟩, ⟨_, PySem.W.mg_of X G a_NoRule, rfl⟩, ⟨_, PySem.W.mg_of X G a_NoRow, rfl⟩, ⟨_, PySem.W.mg_of X G a_NoMiddle, rfl⟩, ko_TooMuch_TooMuch, ko_TooMuch_NoText, ko_TooMuch_NoName, ko_TooMuch_NoRule, ko_TooMuch_NoRow, ko_TooMuch_NoMiddle⟩
 have O_TooMuch := own_mk (x := "TooMuch") (mg := mg) Xb m_TooMuch ei_TooMuch
 have gM : Gc mg "MOST_ROWS" (.int 40) := ⟨_, PySem.W.mg_of X G g_MOST_ROWS, ⟨_, rfl⟩⟩
 have gN : Gc mg "NONE_ROW" (.ref a_NONE_ROW) := ⟨_, PySem.W.mg_of X G g_NONE_ROW, rfl⟩
 have sN : ∀ H, SqT K H a_NONE_ROW [.str "none"] := fun H => .inr ⟨_, _, _, o_NONE_ROW, rfl, rfl, (by show 1 <= sizeLine; decide), .cons ⟨_, rfl⟩ .nil⟩
 have h1 := xI F_o (ok_put_in (P := l.prog) (w := w) O_TooMuch PySem.F.excBase_ValueError m_TooMuch gM bi F_o) b_o m_o
 have h2 := yJ F_n (ok_turned (P := l.prog) (w := w) (base := base) bi F_n) b_n m_n
 have h3 := jL (h1.at m_o) h2 F_h b_h m_h F_a b_a m_a 21
 have f4 := ok_sheet_of gN sN m_o bi h3 F_j
 have h4 := xI F_j f4 b_j m_j
 have h5 := yJ F_j f4.calm b_j m_j
 have w1 := yJ F_d (ok_cell (P := l.prog) (w := w) (base := base) bi F_d) b_d m_d
 have w2 := yJ F_c (ok_name (P := l.prog) (w := w) (base := base) bi F_c) b_c m_c
 have w3 := yJ F_k (ok_pool bi w1 w2 F_k) b_k m_k
 have w4 := yJ F_m (ok_leaf (P := l.prog) (w := w) (base := base) bi F_m) b_m m_m
 have w5 := yJ F_g (ok_stack bi w4 F_g) b_g m_g
 have w6 := yJ F_b (ok_whole (P := l.prog) (w := w) (base := base) bi F_b) b_b m_b
 have w7 := yJ F_i (ok_alike (P := l.prog) (w := w) (base := base) bi F_i b_i m_i 10) b_i m_i
 have w8 := yJ F_f (ok_lturned (P := l.prog) (w := w) (base := base) F_f) b_f m_f
 have w9 := yJ F_e (ok_lbuild bi w8 F_e b_e m_e 21) b_e m_e
 have v1 := yJ F_l (ok_long (P := l.prog) (w := w) (base := base) bi F_l) b_l m_l
 exact ok_law Er bi w1 w3 w5 w6 v1 w9 w7 h5 h4 F_p
theorem walk {l : PySem.W.OpenLaw} {q : Program} {loose : List Str} {XP : (Str -> Option Value) -> Heap -> Prop} {YP : World -> Heap -> Prop} {d : DefRec} {K : Params -> PySem.W.Frag} (hn : l.most = some 63) (hdf : d.params.defaults = [])
   (hY : ∀ (w : World) (h : Heap), YP w h -> (K w.params).In h)
   (F : ∀ (w : World) (mg : Str -> Option Value) (fa : Addr) (h : Heap), (K w.params).In h -> h.Ns mainGlobals mg -> mg d.name = some (.ref fa) ->
     ∃ fd : FuncData, (∀ (s : Shared) (u : Value), BindsTo s fd ⟨[u], []⟩ [("script", u)]) /\ ∀ base : Heap, (K w.params).In base -> base.Ns mainGlobals mg -> FnOk l.prog w (K w.params) mg base CX0 65 fa fd ["script"] (spLaw (K w.params))) :
   PySem.W.WalkO q loose XP YP l.row.toRowW d [] (fun f vs => PySem.call f vs) :=
 L2.walk_of (n := 63) (k := 65) (x := "script") (CX := fun _ => CX0) (sp := fun w => spLaw (K w.params)) hn (by decide) hdf ⟨rfl, by decide, by decide⟩ hY F (fun _ _ a ns hl _ hS => ⟨a, ns, rfl, hS, hl, fun _ => rfl⟩) fun _ _ _ _ _ z => z
end C
open PySem PySem.W PyProof.Rows
set_option maxRecDepth 100000 in
set_option maxHeartbeats 0 in
theorem PySem.Challenge.cw_clashbook_k11_sheets_of_terms_holds : PySem.Challenge.rw_clashbook_k11_sheets_of_terms.Holds := by
 w_on; o_law; k_head; (case hw => w_witness2)
 k_fill
 refine C.walk (l := PySem.Challenge.rw_clashbook_k11_sheets_of_terms) rfl rfl (fun w h Y => PySem.W.kIn_of Y) ?F
 case F =>
   intro w mg fa h KX G hmg
   refine' C.all_mk KX G hmg ?a_o ?l_o ?c_o ?k_o ?a_n ?l_n ?c_n ?k_n ?a_h ?l_h ?c_h ?k_h ?a_a ?l_a ?c_a ?k_a ?a_j ?l_j ?c_j ?k_j ?a_d ?l_d ?c_d ?k_d ?a_c ?l_c ?c_c ?k_c ?a_k ?l_k ?c_k ?k_k ?a_m ?l_m ?c_m ?k_m ?a_g ?l_g ?c_g ?k_g ?a_b ?l_b ?c_b ?k_b ?a_i ?l_i ?c_i ?k_i ?a_f ?l_f ?c_f ?k_f ?a_e ?l_e ?c_e ?k_e ?a_l ?l_l ?c_l ?k_l ?a_p ?l_p ?c_p ?k_p ?g_NONE_ROW ?o_NONE_ROW ?g_MOST_ROWS ?a_ClashError ?a_NoText ?a_NoName ?a_NoRule ?a_NoRow ?a_NoMiddle ?a_TooMuch ?ei_TooMuch ?x1_TooMuch ?x2_TooMuch ?x3_TooMuch ?x4_TooMuch ?x5_TooMuch ?x6_TooMuch ?x7_TooMuch ?x8_TooMuch ?xb_TooMuch ?xt_TooMuch ?kv_TooMuch ?ko_TooMuch_TooMuch ?ko_TooMuch_NoText ?ko_TooMuch_NoName ?ko_TooMuch_NoRule ?ko_TooMuch_NoRow ?ko_TooMuch_NoMiddle ?z_all ?z_bool ?z_dict ?z_int ?z_isinstance ?z_len ?z_list ?z_max ?z_range ?z_set ?z_sorted ?z_str ?z_sum ?z_tuple
   (case a_o => k_is); (case l_o => k_is); (case c_o => k_is); (case k_o => k_is)
   (case a_n => k_is); (case l_n => k_is); (case c_n => k_is); (case k_n => k_is)
   (case a_h => k_is); (case l_h => k_is); (case c_h => k_is); (case k_h => k_is)
   (case a_a => k_is); (case l_a => k_is); (case c_a => k_is); (case k_a => k_is)
   (case a_j => k_is); (case l_j => k_is); (case c_j => k_is); (case k_j => k_is)
   (case a_d => k_is); (case l_d => k_is); (case c_d => k_is); (case k_d => k_is)
   (case a_c => k_is); (case l_c => k_is); (case c_c => k_is); (case k_c => k_is)
   (case a_k => k_is); (case l_k => k_is); (case c_k => k_is); (case k_k => k_is)
   (case a_m => k_is); (case l_m => k_is); (case c_m => k_is); (case k_m => k_is)
   (case a_g => k_is); (case l_g => k_is); (case c_g => k_is); (case k_g => k_is)
   (case a_b => k_is); (case l_b => k_is); (case c_b => k_is); (case k_b => k_is)
   (case a_i => k_is); (case l_i => k_is); (case c_i => k_is); (case k_i => k_is)
   (case a_f => k_is); (case l_f => k_is); (case c_f => k_is); (case k_f => k_is)
   (case a_e => k_is); (case l_e => k_is); (case c_e => k_is); (case k_e => k_is)
   (case a_l => k_is); (case l_l => k_is); (case c_l => k_is); (case k_l => k_is)
   (case a_p => k_is); (case l_p => k_is); (case c_p => k_is); (case k_p => k_is)
   (case g_NONE_ROW => k_is); (case o_NONE_ROW => k_is); (case g_MOST_ROWS => k_is); (case a_ClashError => k_is)
   (case a_NoText => k_is); (case a_NoName => k_is); (case a_NoRule => k_is); (case a_NoRow => k_is)
   (case a_NoMiddle => k_is); (case a_TooMuch => k_is); (case ei_TooMuch => first | k_is | kernel_rfl); (case x1_TooMuch => first | k_is | kernel_rfl)
   (case x2_TooMuch => first | k_is | kernel_rfl); (case x3_TooMuch => first | k_is | kernel_rfl); (case x4_TooMuch => first | k_is | kernel_rfl); (case x5_TooMuch => first | k_is | kernel_rfl)
   (case x6_TooMuch => first | k_is | kernel_rfl); (case x7_TooMuch => first | k_is | kernel_rfl); (case x8_TooMuch => first | k_is | kernel_rfl); (case xb_TooMuch => first | k_is | kernel_rfl)
   (case xt_TooMuch => first | k_is | kernel_rfl); (case kv_TooMuch => first | k_is | kernel_rfl); (case ko_TooMuch_TooMuch => first | k_is | kernel_rfl); (case ko_TooMuch_NoText => first | k_is | kernel_rfl)
   (case ko_TooMuch_NoName => first | k_is | kernel_rfl); (case ko_TooMuch_NoRule => first | k_is | kernel_rfl); (case ko_TooMuch_NoRow => first | k_is | kernel_rfl); (case ko_TooMuch_NoMiddle => first | k_is | kernel_rfl)
   (case z_all => k_is); (case z_bool => k_is); (case z_dict => k_is); (case z_int => k_is)
   (case z_isinstance => k_is); (case z_len => k_is); (case z_list => k_is); (case z_max => k_is)
   (case z_range => k_is); (case z_set => k_is); (case z_sorted => k_is); (case z_str => k_is)
   (case z_sum => k_is); (case z_tuple => k_is)
#print axioms PySem.Challenge.cw_clashbook_k11_sheets_of_terms_holds
