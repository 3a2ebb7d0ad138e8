import PyProof.Rows.All
import Wide.All
import OpenK.AllK
import Wide.FinOn
import Lean
import PyProof.EqAt
import PyProof.EqKinds
import PyProof.TupleCall
import PyProof.FitsReplace
import PyProof.StrLawsChain
import PyProof.IsiH_list
import KE.KDictOf
import PyProof.Rows.Exc
import PyProof.RulesTry
import PyProof.ForAppend
import PyProof.Rows.Tup
import PyProof.CollectWalk
import PyProof.Rows.DictListVals
import PyProof.AutoSeq1
import PyProof.FactsAll.list_3
import KE.KDictSum
import PyProof.Rows.SortStr
import PyProof.Rows.SortWalk
import PyProof.SetKind
import PyProof.Rows.SetObj
import PyProof.DictKinds
import PyProof.DictIter
import PyProof.MakeMany
import PyProof.WalksS
import PyProof.Walks
import PyProof.Seq
import PyProof.TupleIter
import PyProof.FactsAll.set_1
import PyProof.ForAny
import PyProof.Rows.SetFrom
import PyProof.Rows.StrMeet
import PyProof.NeKinds
import PyProof.ZipIter
import KE.BitLaws
import PyProof.Rows.TupAdd
import PySem.SetOps
import PyProof.EnumMake
import PyProof.EnumFor
import PyProof.Rows.EnumRows
import PyProof.Rows.Range3
import PyProof.Rows.BitMore
import PyProof.Rows.RuleM_int
import PyProof.DictRoadsH
import KE.KDictList
import PyProof.DictWalks
import PyProof.AutoListH
import PyProof.FactsAll.list_2
import PyProof.CallType
import PyProof.ListNew
import PyProof.Conv_int_bool
import PyProof.ConsumeWalk
import KE.KSortTup
import PyProof.FString5
import PySem.Challenge.RW_clashbook_k24_what_is_a_world
set_option Elab.async false
set_option linter.all false
set_option maxRecDepth 100000
namespace L2
open PySem PySem.Spec PyProof.Rows
abbrev Key := Sum Int Str
def keyIs : Key → Value → Bool
  | .inl k, v => Value.isInt k v
  | .inr x, v => Value.isStrOf x v
def keyH (w : World) : Key → Int
  | .inl k => hashInt k
  | .inr x => hashStr w x
theorem keyIs_shape : ∀ {k : Key} {v : Value}, keyIs k v = true → (∃ i t, k = Sum.inl i ∧ v = Value.int i t) ∨ (∃ x t, k = Sum.inr x ∧ v = Value.str x t)
  | .inl i, v, h => by
    obtain ⟨t, e⟩ := Value.isInt_shape (k := i) (v := v) h
    exact .inl ⟨i, t, rfl, e⟩
  | .inr x, v, h => by
    obtain ⟨t, e⟩ := Value.isStrOf_shape (x := x) (v := v) h
    exact .inr ⟨x, t, rfl, e⟩
theorem keyIs_str (x : Str) (t : Tok) : keyIs (.inr x) (.str x t) = true := by simp [keyIs, Value.isStrOf]
theorem key_ll (a b : Int) : decide ((Sum.inl a : Key) = Sum.inl b) = (a == b) := by
  by_cases e : a = b
  · subst e; simp
  · have h : ¬ (Sum.inl a : Key) = Sum.inl b := fun q => e (Sum.inl.inj q)
    rw [decide_eq_false h]
    exact (beq_eq_false_iff_ne.mpr e).symm
theorem key_rr (a b : Str) : decide ((Sum.inr a : Key) = Sum.inr b) = decide (a = b) := by
  by_cases e : a = b
  · subst e; simp
  · have h : ¬ (Sum.inr a : Key) = Sum.inr b := fun q => e (Sum.inr.inj q)
    rw [decide_eq_false h, decide_eq_false e]
theorem key_lr (a : Int) (b : Str) : decide ((Sum.inl a : Key) = Sum.inr b) = false := decide_eq_false (fun q => nomatch q)
theorem key_rl (a : Str) (b : Int) : decide ((Sum.inr a : Key) = Sum.inl b) = false := decide_eq_false (fun q => nomatch q)
def mixKind (prog : Program) (w : World) : PySem.KeyKind prog w Key where
  is := keyIs
  hash := keyH w
  inj := fun v a b ha hb => by
    rcases keyIs_shape ha with ⟨i, t, rfl, rfl⟩ | ⟨x, t, rfl, rfl⟩
    · rcases keyIs_shape hb with ⟨j, u, rfl, e⟩ | ⟨y, u, rfl, e⟩
      · injection e with e1 _; rw [e1]
      · exact nomatch e
    · rcases keyIs_shape hb with ⟨j, u, rfl, e⟩ | ⟨y, u, rfl, e⟩
      · exact nomatch e
      · injection e with e1 _; rw [e1]
  byValue := fun k v h => by
    rcases keyIs_shape h with ⟨i, t, rfl, rfl⟩ | ⟨x, t, rfl, rfl⟩ <;> rfl
  pyHash := fun hv h => by
    rcases keyIs_shape hv with ⟨i, t, rfl, rfl⟩ | ⟨x, t, rfl, rfl⟩
    · exact wpAny_pyHash_int h
    · exact wpAny_pyHash_str h
  eqBool := fun hu hv h => by
    rcases keyIs_shape hu with ⟨i, t, rfl, rfl⟩ | ⟨x, t, rfl, rfl⟩
    · rcases keyIs_shape hv with ⟨j, u, rfl, rfl⟩ | ⟨y, u, rfl, rfl⟩
      · rw [key_ll] at h; exact wpAny_eqBool_int h
      · rw [key_lr] at h; exact SeqAt.EqAt.int_str i t y u _ _ _ _ h
    · rcases keyIs_shape hv with ⟨j, u, rfl, rfl⟩ | ⟨y, u, rfl, rfl⟩
      · rw [key_rl] at h; exact SeqAt.EqAt.str_int x t j u _ _ _ _ h
      · rw [key_rr] at h; exact wpAny_eqBool_str h
  «strs» := fun k x t v h => by
    rcases keyIs_shape h with ⟨i, u, rfl, e⟩ | ⟨y, u, rfl, e⟩
    · exact nomatch e
    · injection e with e1 _
      subst e1
      cases v <;> rfl
theorem mixKind_str (prog : Program) (w : World) (x : Str) (t : Tok) : (mixKind prog w).is (.inr x) (.str x t) = true := keyIs_str x t
end L2
namespace L2
open PySem PySem.Spec PyProof.Rows
inductive V where
  | non | bl (b : Bool) | int (i : Int) | str (x : Str) | byt (b : Array UInt8) | flt (b : UInt64) | ref (a : Addr) | ty (n : String)
  deriving DecidableEq
def RelV : V → Value → Prop
  | .non, u => u = Value.none
  | .bl b, u => u = Value.bool b
  | .int i, u => ∃ t, u = Value.int i t
  | .str x, u => ∃ t, u = Value.str x t
  | .byt b, u => ∃ t, u = Value.bytes b t
  | .flt b, u => ∃ t, u = Value.float b t
  | .ref a, u => u = Value.ref a
  | .ty n, u => u = Value.type n
abbrev Vals : List V → List Value → Prop := Paired RelV
theorem Vals.length {xs : List V} {us : List Value} (r : Vals xs us) : xs.length = us.length := Paired.length r
theorem Vals.get : ∀ {xs : List V} {us : List Value} {i : Nat} {x : V}, Vals xs us → xs[i]? = some x → ∃ u, us[i]? = some u ∧ RelV x u
  | _, _, _, _, .nil, e => by simp at e
  | _, _, 0, _, .cons r _, e => by simp at e; subst e; exact ⟨_, rfl, r⟩
  | _, _, i + 1, x, .cons _ t, e => by
    obtain ⟨u, h1, h2⟩ := Vals.get (i := i) (x := x) t (by simpa using e)
    exact ⟨u, by simpa using h1, h2⟩
theorem Vals.set {x : V} {u : Value} (r : RelV x u) : ∀ {xs : List V} {us : List Value} (i : Nat), Vals xs us → Vals (xs.set i x) (us.set i u)
  | _, _, _, .nil => .nil
  | _, _, 0, .cons _ t => .cons r t
  | _, _, i + 1, .cons q t => .cons q (Vals.set r i t)
theorem Vals.append : ∀ {xs ys : List V} {us ws : List Value}, Vals xs us → Vals ys ws → Vals (xs ++ ys) (us ++ ws)
  | _, _, _, _, .nil, s => s
  | _, _, _, _, .cons r t, s => .cons r (Vals.append t s)
theorem Vals.take : ∀ {xs : List V} {us : List Value} (n : Nat), Vals xs us → Vals (xs.take n) (us.take n)
  | _, _, 0, _ => .nil
  | _, _, _ + 1, .nil => .nil
  | _, _, n + 1, .cons r t => .cons r (Vals.take n t)
theorem Vals.drop : ∀ {xs : List V} {us : List Value} (n : Nat), Vals xs us → Vals (xs.drop n) (us.drop n)
  | _, _, 0, r => r
  | _, _, _ + 1, .nil => .nil
  | _, _, n + 1, .cons _ t => Vals.drop n t
theorem Vals.none_of : ∀ {xs : List V} {us : List Value} {i : Nat}, Vals xs us → xs[i]? = none → us[i]? = none := fun {xs us i} r e => by
  have h1 := r.length
  have h2 : xs.length ≤ i := List.getElem?_eq_none_iff.mp e
  exact List.getElem?_eq_none_iff.mpr (by omega)
def RelO : Option V → Option Value → Prop
  | some v, some u => RelV v u
  | none, none => True
  | _, _ => False
def KV {κ : Type} : List (κ × V) → List (κ × Value) → Prop := Paired fun (p : κ × V) (q : κ × Value) => p.1 = q.1 ∧ RelV p.2 q.2
def kV : Key → V
  | .inl i => .int i
  | .inr x => .str x
inductive HO where
  /-- a list -/
  | lst (xs : List V)
  /-- a tuple (never changes) -/
  | tup (xs : List V)
  /-- a dict whose keys are ints and texts; one whose keys are tuples of ints and texts (the empty one is both) -/
  | dK (kvs : List (Key × V)) | dT (kvs : List (List Key × V))
  /-- a set of ints: its members, its size -/
  | set (S : Int → Bool) (n : Nat)
  /-- an instance of the class at C, its dict at dx, its attributes -/
  | ins (C dx : Addr) (fs : List (Str × V))
  /-- the dict of the instance at x -/
  | own (x : Addr)
  /-- the dict of an exception -/
  | xd (fs : List (Str × V))
  /-- a bound method, f of x -/
  | met (f x : Addr)
  /-- a range object lo, lo + 1, .. below hi -/
  | rng (lo hi : Int)
  /-- a thing that is known to the object (the script; a dict while a loop walks it): read, never written while it is so -/
  | frz (o : Obj) (u : HO)
  /-- a code object's table -/
  | tbl (ps : Array Value)
  /-- any other thing, by what is true of its one object (a def of one's own: SetO a S n := HO.ext fun h => ..) -/
  | ext (φ : Heap → Prop)
abbrev Hp := Addr → Option HO
def upd (H : Hp) (a : Addr) (o : HO) : Hp := fun b => if b = a then some o else H b
theorem upd_same {H : Hp} {a : Addr} {o : HO} : upd H a o a = some o := by unfold upd; rw [if_pos rfl]
theorem upd_ne {H : Hp} {a b : Addr} {o : HO} (h : b ≠ a) : upd H a o b = H b := by unfold upd; rw [if_neg h]
theorem ne_of {H : Hp} {a b : Addr} {o u : HO} (h : H a = some o) (h' : H b = some u) (d : o ≠ u) : a ≠ b := by
  intro e; subst e; rw [h] at h'; exact d (Option.some.inj h')
theorem ne_of_none {H : Hp} {a b : Addr} {o : HO} (h : H a = some o) (h' : H b = none) : a ≠ b := by
  intro e; subst e; rw [h] at h'; cases h'
section
variable (P : Program) (w : World)
def ObjOk (H : Hp) (h : Heap) (a : Addr) : HO → Prop
  | .lst xs => xs.length ≤ sizeLine ∧ ∃ (its : List Value) (n : Nat), Vals xs its ∧ h.get? a = some { cls := .type "list", data := .seq its.toArray n }
  | .tup xs => xs.length ≤ sizeLine ∧ ∃ its : List Value, Vals xs its ∧ IsTup h a its.toArray
  | .dK kvs => kvs.length ≤ sizeLine ∧ (a == sysModules) = false ∧ ∃ vs, KV kvs vs ∧ h.DictOf (mixKind P w) a vs
  | .dT kvs => kvs.length ≤ sizeLine ∧ (a == sysModules) = false ∧ ∃ xs : List (List Key × Addr × Value),
      Paired (fun (p : List Key × V) (q : List Key × Addr × Value) => p.1 = q.1 ∧ H q.2.1 = some (.tup (p.1.map kV)) ∧ RelV p.2 q.2.2) kvs xs ∧
      ∃ o es ep, h.get? a = some o ∧ o.ExactDict ∧ o.data = .dict es ep ∧ es.toList = xs.map (entryOfKey (tupleKind (mixKind P w))) ∧ (xs.map (·.1)).Nodup
  | .set S n => h.SetOf (intKind P w) a S n
  | .ins C dx fs => H dx = some (.own a) ∧ fs.length ≤ 1000 ∧ dx ≠ a ∧ h.get? a = some (PySem.W.instObj C dx) ∧
      ∃ mA, h.Ns1 dx mA ∧ (∀ f, RelO (fs.lookup f) (mA f)) ∧ PySem.Within mA (fs.map (·.1))
  | .own _ => ∃ o, h.get? a = some o
  | .xd fs => ∃ mA, h.Ns1 a mA ∧ ∀ f, RelO (fs.lookup f) (mA f)
  | .rng lo hi => ∃ t u v, h.get? a = some { cls := .type "range", data := .fields #[.int lo t, .int hi u, .int 1 v] }
  | .frz o u => h.get? a = some o ∧ ObjOk H h a u
  | .tbl ps => h.get? a = some { cls := .none, data := .fields ps }
  | .met f x => h.get? a = some (PySem.W.methodObj (.ref f) (.ref x))
  | .ext φ => φ h ∧ (∃ o, h.get? a = some o) ∧ ∀ h1 h2 : Heap, φ h1 → (∀ o, h1.get? a = some o → h2.get? a = some o) → φ h2
def HOk (H : Hp) (h : Heap) : Prop := ∀ a o, H a = some o → ObjOk P w H h a o
end
section
variable {P : Program} {w : World} {H H' : Hp} {h h' : Heap} {a : Addr} {o : HO}
theorem ObjOk.lt (x : ObjOk P w H h a o) : a < h.objs.size := by
  cases o with
  | lst xs => obtain ⟨_, _, _, _, e⟩ := x; exact Heap.lt_size e
  | tup xs => obtain ⟨_, _, _, p⟩ := x; exact p.lt
  | dK kvs => obtain ⟨_, _, _, _, o, _, _, e, _⟩ := x; exact Heap.lt_size e
  | dT kvs => obtain ⟨_, _, _, _, o, _, _, e, _⟩ := x; exact Heap.lt_size e
  | set S n => obtain ⟨o, _, _, _, e, _⟩ := x; exact Heap.lt_size e
  | ins C dx fs => obtain ⟨_, _, _, e, _⟩ := x; exact Heap.lt_size e
  | own y => obtain ⟨_, e⟩ := x; exact Heap.lt_size e
  | xd fs => obtain ⟨_, ⟨_, _, _, e, _⟩, _⟩ := x; exact Heap.lt_size e
  | rng lo hi => obtain ⟨_, _, _, e⟩ := x; exact Heap.lt_size e
  | frz ob u => obtain ⟨e, _⟩ := x; exact Heap.lt_size e
  | tbl ps => exact Heap.lt_size (show h.get? a = some _ from x)
  | met f y => exact Heap.lt_size (show h.get? a = some _ from x)
  | ext φ => obtain ⟨_, ⟨_, e⟩, _⟩ := x; exact Heap.lt_size e
theorem Paired.mapP {α β : Type} {F G : α → β → Prop} : ∀ {l₁ : List α} {l₂ : List β}, Paired F l₁ l₂ → (∀ a b, F a b → G a b) → Paired G l₁ l₂
  | _, _, .nil, _ => .nil
  | _, _, .cons r t, f => .cons (f _ _ r) (Paired.mapP t f)
theorem ObjOk.stay (x : ObjOk P w H h a o) (k : ∀ b u, (b = a ∨ H b = some (.own a)) → h.get? b = some u → h'.get? b = some u)
    (ho : ∀ b, H b = some (.own a) → H' b = some (.own a)) (ht : ∀ b xs, H b = some (.tup xs) → H' b = some (.tup xs)) : ObjOk P w H' h' a o := by
  induction o with
  | lst xs => obtain ⟨z, its, n, r, e⟩ := x; exact ⟨z, its, n, r, k _ _ (.inl rfl) e⟩
  | tup xs => obtain ⟨z, its, r, ob, e, c⟩ := x; exact ⟨z, its, r, ob, k _ _ (.inl rfl) e, c⟩
  | dK kvs => obtain ⟨z, y, vs, r, ob, es, ep, e, c⟩ := x; exact ⟨z, y, vs, r, ob, es, ep, k _ _ (.inl rfl) e, c⟩
  | dT kvs =>
    obtain ⟨z, y, xs, r, ob, es, ep, e, c⟩ := x
    exact ⟨z, y, xs, Paired.mapP r fun p q z => ⟨z.1, ht _ _ z.2.1, z.2.2⟩, ob, es, ep, k _ _ (.inl rfl) e, c⟩
  | set S n => obtain ⟨ob, es, ep, t, e, c⟩ := x; exact ⟨ob, es, ep, t, k _ _ (.inl rfl) e, c⟩
  | ins C dx fs =>
    obtain ⟨d, z, ne, e, mA, ⟨od, es, ep, e2, c⟩, r⟩ := x
    exact ⟨ho _ d, z, ne, k _ _ (.inl rfl) e, mA, ⟨od, es, ep, k _ _ (.inr d) e2, c⟩, r⟩
  | own y => obtain ⟨ob, e⟩ := x; exact ⟨ob, k _ _ (.inl rfl) e⟩
  | xd fs => obtain ⟨mA, ⟨od, es, ep, e, c⟩, r⟩ := x; exact ⟨mA, ⟨od, es, ep, k _ _ (.inl rfl) e, c⟩, r⟩
  | rng lo hi => obtain ⟨t, u, v, e⟩ := x; exact ⟨t, u, v, k _ _ (.inl rfl) e⟩
  | frz ob u ih => obtain ⟨e, q⟩ := x; exact ⟨k _ _ (.inl rfl) e, ih q⟩
  | tbl ps =>
    have e : h.get? a = some { cls := .none, data := .fields ps } := x
    show h'.get? a = some { cls := .none, data := .fields ps }
    exact k a _ (.inl rfl) e
  | met f y =>
    have e : h.get? a = some (PySem.W.methodObj (.ref f) (.ref y)) := x
    show h'.get? a = some (PySem.W.methodObj (.ref f) (.ref y))
    exact k a _ (.inl rfl) e
  | ext φ => obtain ⟨p, ⟨o, e⟩, st⟩ := x; exact ⟨st _ _ p fun o q => k _ _ (.inl rfl) q, ⟨o, k _ _ (.inl rfl) e⟩, st⟩
theorem HOk.lt (x : HOk P w H h) (e : H a = some o) : a < h.objs.size := (x a o e).lt
theorem HOk.fresh (x : HOk P w H h) (e : h.objs.size ≤ a) : H a = none := by
  cases q : H a with
  | none => rfl
  | some u => exact absurd (Nat.lt_of_lt_of_le (x.lt q) e) (Nat.lt_irrefl _)
theorem HOk.kept (x : HOk P w H h) (k : ∀ b u, h.get? b = some u → h'.get? b = some u) : HOk P w H h' := fun a o e =>
  (x a o e).stay (fun b u _ q => k b u q) (fun _ q => q) fun _ _ q => q
theorem HOk.laid (x : HOk P w H h) (k : ∀ b u, h.get? b = some u → h'.get? b = some u) (hp : h.objs.size ≤ a) (new : ObjOk P w (upd H a o) h' a o) : HOk P w (upd H a o) h' := fun b u e => by
  have hn := x.fresh hp
  by_cases hb : b = a
  · subst hb; rw [upd_same] at e; cases e; exact new
  · rw [upd_ne hb] at e
    exact (x b u e).stay (fun c v _ q => k c v q) (fun c q => by rw [upd_ne (ne_of_none q hn)]; exact q) fun c xs q => by rw [upd_ne (ne_of_none q hn)]; exact q
end
def Rd (H : Hp) (a : Addr) (u : HO) : Prop := H a = some u ∨ ∃ o, H a = some (.frz o u)
theorem Rd.of {H : Hp} {a : Addr} {u : HO} (h : H a = some u) : Rd H a u := .inl h
theorem Rd.ok {P : Program} {w : World} {H : Hp} {h : Heap} {a : Addr} {u : HO} (r : Rd H a u) (x : HOk P w H h) : ObjOk P w H h a u := by
  rcases r with r | ⟨o, r⟩
  · exact x a u r
  · obtain ⟨_, q⟩ := x a _ r
    exact q
def Mut : Option HO → Prop
  | some (.lst _) => True
  | some (.dK _) => True
  | some (.dT _) => True
  | some (.set _ _) => True
  | some (.ins _ _ _) => True
  | some (.ext _) => True
  | _ => False
section
variable {P : Program} {w : World} {H : Hp} {h h' : Heap} {x e : Addr} {o' : HO}
theorem HOk.write (ok : HOk P w H h) (mu : Mut (H x)) (he : e = x ∨ H e = some (.own x)) (k : ∀ b u, b ≠ e → h.get? b = some u → h'.get? b = some u) (heo : ∃ u, h'.get? e = some u)
    (new : ObjOk P w (upd H x o') h' x o') : HOk P w (upd H x o') h' := fun b u q => by
  have nown : ∀ c y, H c = some (.own y) → c ≠ x := fun c y r z => by subst z; rw [r] at mu; exact mu
  have ntup : ∀ c xs, H c = some (.tup xs) → c ≠ x := fun c xs r z => by subst z; rw [r] at mu; exact mu
  by_cases hb : b = x
  · subst hb; rw [upd_same] at q; cases q; exact new
  · rw [upd_ne hb] at q
    by_cases hbe : b = e
    · have q' : H b = some (.own x) := by
        rcases he with z | z
        · exact absurd (hbe.trans z) hb
        · rw [hbe]; exact z
      rw [q] at q'; cases q'
      obtain ⟨v, hv⟩ := heo
      exact ⟨v, by rw [hbe]; exact hv⟩
    · refine (ok b u q).stay (fun c v hc r => k c v ?_ r) (fun c r => by rw [upd_ne (nown c b r)]; exact r) fun c xs r => by rw [upd_ne (ntup c xs r)]; exact r
      rcases hc with rfl | hc
      · exact hbe
      · rintro rfl
        rcases he with z | z
        · exact nown c b hc z
        · rw [hc] at z; cases z; exact hb rfl
end
structure Un (fs ex : List Addr) (H H' : Hp) (h h' : Heap) : Prop where
  keep : ∀ b o, h.get? b = some o → H b = none → b ∉ fs → b ∉ ex → h'.get? b = some o
  slot : ∀ b o, h.get? b = some o → H b = none → b ∈ fs → b ∉ ex → ∃ sl, h'.get? b = some { o with slots := sl }
  free : ∀ b o, h.get? b = some o → H b = none → b ∉ ex → H' b = none
  there : ∀ b o, h.get? b = some o → b ∉ ex → ∃ o', h'.get? b = some o'
  tups : ∀ b xs, H b = some (.tup xs) → H' b = some (.tup xs)
  frzs : ∀ b o u, H b = some (.frz o u) → H' b = some (.frz o u)
  tbls : ∀ b ps, H b = some (.tbl ps) → ∃ more, H' b = some (.tbl (ps ++ more))
section
variable {fs fs' ex ex' : List Addr} {H H1 H2 : Hp} {h h1 h2 h' : Heap} {a x e : Addr} {o : HO}
theorem Un.any (u : Un fs ex H H1 h h1) {b : Addr} {ob : Obj} (q : h.get? b = some ob) (n : H b = none) (hx : b ∉ ex) : ∃ sl, h1.get? b = some { ob with slots := sl } := by
  by_cases hb : b ∈ fs
  · exact u.slot b ob q n hb hx
  · exact ⟨ob.slots, u.keep b ob q n hb hx⟩
theorem Un.trans (a : Un fs ex H H1 h h1) (b : Un fs ex H1 H2 h1 h2) : Un fs ex H H2 h h2 where
  keep := fun c ob q n hc hx => b.keep c ob (a.keep c ob q n hc hx) (a.free c ob q n hx) hc hx
  slot := fun c ob q n hc hx => by
    obtain ⟨sl, e1⟩ := a.slot c ob q n hc hx
    obtain ⟨sl', e2⟩ := b.slot c _ e1 (a.free c ob q n hx) hc hx
    exact ⟨sl', e2⟩
  free := fun c ob q n hx => by
    obtain ⟨o', e1⟩ := a.there c ob q hx
    exact b.free c o' e1 (a.free c ob q n hx) hx
  there := fun c ob q hx => by
    obtain ⟨o', e1⟩ := a.there c ob q hx
    exact b.there c o' e1 hx
  tups := fun c xs q => b.tups c xs (a.tups c xs q)
  frzs := fun c ob xs q => b.frzs c ob xs (a.frzs c ob xs q)
  tbls := fun c ps q => by
    obtain ⟨m1, e1⟩ := a.tbls c ps q
    obtain ⟨m2, e2⟩ := b.tbls c _ e1
    exact ⟨m1 ++ m2, by rw [e2, Array.append_assoc]⟩
theorem Un.kept (k : ∀ b u, h.get? b = some u → h'.get? b = some u) : Un fs ex H H h h' :=
  ⟨fun b ob q _ _ _ => k b ob q, fun b ob q _ _ _ => ⟨ob.slots, k b ob q⟩, fun _ _ _ n _ => n, fun b ob q _ => ⟨ob, k b ob q⟩, fun _ _ q => q, fun _ _ _ q => q, fun _ ps q => ⟨#[], by rw [q]; simp⟩⟩
theorem Un.refl : Un fs ex H H h h := Un.kept fun _ _ q => q
theorem Un.laid (k : ∀ b u, h.get? b = some u → h'.get? b = some u) (hp : h.objs.size ≤ a) (hn : H a = none) : Un fs ex H (upd H a o) h h' where
  keep := fun b u q _ _ _ => k b u q
  slot := fun b u q _ _ _ => ⟨u.slots, k b u q⟩
  free := fun b u q n _ => by rw [upd_ne (Nat.ne_of_lt (Nat.lt_of_lt_of_le (Heap.lt_size q) hp))]; exact n
  there := fun b u q _ => ⟨u, k b u q⟩
  tups := fun b xs q => by rw [upd_ne (ne_of_none q hn)]; exact q
  frzs := fun b u xs q => by rw [upd_ne (ne_of_none q hn)]; exact q
  tbls := fun b ps q => ⟨#[], by rw [upd_ne (ne_of_none q hn), q]; simp⟩
theorem Un.write (mu : Mut (H x)) (he : e = x ∨ H e = some (.own x)) (k : ∀ b u, b ≠ e → h.get? b = some u → h'.get? b = some u) (heo : ∃ u, h'.get? e = some u) : Un fs ex H (upd H x o) h h' := by
  have hx : ∀ b, H b = none → b ≠ x := fun b n z => by subst z; rw [n] at mu; exact mu
  have hb : ∀ b, H b = none → b ≠ e := fun b n z => by
    subst z
    rcases he with r | r
    · exact hx b n r
    · rw [n] at r; cases r
  have hm : ∀ b u, H b = some u → ¬ Mut (some u) → b ≠ x := fun b u q nm z => by subst z; rw [q] at mu; exact nm mu
  refine ⟨fun b u q n _ _ => k b u (hb b n) q, fun b u q n _ _ => ⟨u.slots, k b u (hb b n) q⟩, fun b u q n _ => by rw [upd_ne (hx b n)]; exact n, fun b u q _ => ?_,
    fun b xs q => by rw [upd_ne (hm b _ q fun z => z)]; exact q, fun b u xs q => by rw [upd_ne (hm b _ q fun z => z)]; exact q, fun b ps q => ⟨#[], by rw [upd_ne (hm b _ q fun z => z), q]; simp⟩⟩
  by_cases hbe : b = e
  · subst hbe; exact heo
  · exact ⟨u, k b u hbe q⟩
theorem Un.mono (u : Un fs ex H H1 h h1) (hs : ∀ b ∈ fs, b ∈ fs') (hx : ∀ b ∈ ex, b ∈ ex') : Un fs' ex' H H1 h h1 :=
  ⟨fun b ob q n hb he => u.keep b ob q n (fun z => hb (hs b z)) fun z => he (hx b z), fun _ _ q n _ he => u.any q n fun z => he (hx _ z), fun b ob q n he => u.free b ob q n fun z => he (hx b z), fun b ob q he => u.there b ob q fun z => he (hx b z), u.tups, u.frzs, u.tbls⟩
end
def trk (h : Heap) (H : Hp) : List Addr := (List.range h.objs.size).filter fun a => (H a).isSome
def hidT (h : Heap) (H : Hp) : Heap := PySem.W.hideAll h (trk h H)
theorem hidT_size (h : Heap) (H : Hp) : (hidT h H).objs.size = h.objs.size := PySem.W.hideAll_size _ _
theorem hidT_get {h : Heap} {H : Hp} {b : Addr} {o : Obj} (e : h.get? b = some o) (n : H b = none) : (hidT h H).get? b = some o :=
  PySem.W.hideAll_get _ e fun hm => by
    have q : (H b).isSome = true := (List.mem_filter.mp hm).2
    rw [n] at q; simp at q
theorem of_hidT {h : Heap} {H : Hp} {b : Addr} {o : Obj} (e : (hidT h H).get? b = some o) : h.get? b = some o ∧ H b = none := by
  have e' : h.get? b = some o := PySem.W.of_hideAll (trk h H) e
  refine ⟨e', ?_⟩
  cases q : H b with
  | none => rfl
  | some x =>
    have hm : b ∈ trk h H := List.mem_filter.mpr ⟨List.mem_range.mpr (Heap.lt_size e'), by simp [q]⟩
    have z : (hidT h H).get? b = none := PySem.W.hideAll_none (trk h H) hm
    rw [z] at e; cases e
def allNews (g h : Heap) (L : Addr) : List (Addr × Obj) := (List.range h.objs.size).filterMap fun a => if a = L ∨ (g.get? a).isSome = true then none else (h.get? a).map fun o => (a, o)
def rest (g h : Heap) (L d : Addr) : List (Addr × Obj) := (allNews g h L).filter fun p => decide (p.1 ≠ d)
end L2
namespace L2
open PySem PySem.Spec PyProof.Rows
structure Mod (K : PySem.W.Frag) (mg : Str → Option Value) (base : Heap) : Prop where
  kin : K.In base
  glob : base.Ns mainGlobals mg
  blt : ∃ mb, base.Ns builtinsNs mb ∧ ∀ x : Str, x ≠ "__name__" → mb x = bootBuiltins x
  nolimit : base.NoLimit
structure Cx where
  prog : Program
  w : World
  K : PySem.W.Frag
  mg : Str → Option Value
  base : Heap
  A : Around
  N : List Str
  s₀ : Shared
  H₀ : Hp
  env : Env
  outer : List Env
  stack : List Env
  ex : List Addr
  fn : Str → Bool
  calm : Bool
  pn : List (Addr × Obj)
  xe : Value → Shared → Prop
def frs (l : List Env) : List Addr := l.filterMap (·.frame)
abbrev Cx.fs (X : Cx) : List Addr := frs X.outer
def Vis (sc : Scope) (x : Str) : Prop := sc.names.lookup x = some .local ∨ sc.names.lookup x = some .cell ∨ sc.names.lookup x = some .free
def Loc (sc : Scope) (x : Str) : Prop := sc.names.lookup x = some .local ∨ sc.names.lookup x = some .cell
def Look (env : Env) (h : Heap) (m : Str → Option Value) (x : Str) (u : Value) : Prop :=
  (env.kindOf x = some .local ∧ m x = some u) ∨ ((env.kindOf x = some .cell ∨ env.kindOf x = some .free) ∧ ∃ c, env.cells.lookup x = some c ∧ h.IsCell c (some u))
structure Cx.Ok (X : Cx) : Prop where
  mod : Mod X.K X.mg X.base
  kind : X.env.scope.kind = .function
  glob : X.env.globals = mainGlobals
  blt : X.env.builtins = builtinsNs
  above : X.s₀.heap.objs.size ≤ X.env.locals
  inj : ∀ x y c, X.env.cells.lookup x = some c → X.env.cells.lookup y = some c → x = y
  has : ∀ x, (X.env.kindOf x = some .cell ∨ X.env.kindOf x = some .free) → ∃ c, X.env.cells.lookup x = some c
  cab : ∀ x c, X.fn x = true → X.env.cells.lookup x = some c → X.s₀.heap.objs.size ≤ c
  hd : X.calm = true → X.A.handled = none
  frames : X.A.frames = some X.stack
  stk : X.stack = X.outer ∨ (X.stack = X.env :: X.outer ∧ X.env.frame = some X.env.locals)
  exf : ∀ b ∈ X.ex, b ≠ X.env.locals ∧ ∀ x c, X.env.cells.lookup x = some c → c ≠ b
  bs : ∀ b o, X.base.get? b = some o → X.s₀.heap.get? b = some o ∧ X.H₀ b = none
  bsz : X.base.objs.size ≤ X.s₀.heap.objs.size
  noex : ∀ b o, X.base.get? b = some o → b ∉ X.ex
  exfs : ∀ b ∈ X.ex, b ∉ X.fs
  funs : X.s₀.heap.FunFrames X.base X.outer
  frf : ∀ b ∈ X.fs, X.H₀ b = none
structure Inv (X : Cx) (pins : List (Addr × Obj)) (σ : List (Option V)) (H : Hp) (s : Shared) : Prop where
  ok : X.Ok
  os : s.os = X.s₀.os
  bare : AllBare s.gens
  base : Un X.fs X.ex X.H₀ H X.s₀.heap s.heap
  loc : ∃ m, s.heap.Ns X.env.locals m ∧ ∀ (i : Nat) (x : Str) (v : V), X.N[i]? = some x → σ[i]? = some (some v) → Vis X.env.scope x → ∃ u, RelV v u ∧ Look X.env s.heap m x u
  cell : ∀ x c, X.env.cells.lookup x = some c → ∃ v, s.heap.IsCell c v
  free : H X.env.locals = none
  freeC : ∀ x c, X.env.cells.lookup x = some c → H c = none
  pin : ∀ p ∈ X.pn ++ pins, s.heap.get? p.1 = some p.2 ∧ H p.1 = none ∧ p.1 ≠ X.env.locals ∧ p.1 ∉ X.fs ∧ ∀ v, p.2.data ≠ .cell v
  hok : HOk X.prog X.w H s.heap
  len : σ.length = X.N.length
section
variable {X : Cx} {pins : List (Addr × Obj)} {σ : List (Option V)} {H H' : Hp} {s : Shared} {h' : Heap}
theorem Cx.Ok.nofr (ok : X.Ok) {b : Addr} {o : Obj} (e : X.base.get? b = some o) : b ∉ X.fs := fun hb => by
  have := (ok.funs.mem hb).1
  rw [e] at this; cases this
theorem Inv.bs (I : Inv X pins σ H s) : ∀ b o, X.base.get? b = some o → s.heap.get? b = some o ∧ H b = none := fun b o e =>
  ⟨I.base.keep b o (I.ok.bs b o e).1 (I.ok.bs b o e).2 (I.ok.nofr e) (I.ok.noex b o e), I.base.free b o (I.ok.bs b o e).1 (I.ok.bs b o e).2 (I.ok.noex b o e)⟩
theorem Inv.bk (I : Inv X pins σ H s) : ∀ b o, X.base.get? b = some o → s.heap.get? b = some o := fun b o e => (I.bs b o e).1
theorem Inv.mod (I : Inv X pins σ H s) : Mod X.K X.mg X.base := I.ok.mod
theorem Inv.kIn (I : Inv X pins σ H s) : X.K.In s.heap := I.ok.mod.kin.keeps I.bk
theorem Inv.nolimit (I : Inv X pins σ H s) : s.heap.NoLimit := I.ok.mod.nolimit.keeps I.bk
theorem Inv.fr (I : Inv X pins σ H s) : ∃ m, Fr X.base X.env.locals s.heap m :=
  let ⟨m, hn, _⟩ := I.loc
  ⟨m, hn, I.bk, Nat.le_trans I.ok.bsz I.ok.above⟩
theorem Inv.lt (I : Inv X pins σ H s) : X.env.locals < s.heap.objs.size := let ⟨_, hn, _⟩ := I.loc; hn.lt
theorem Inv.sz (I : Inv X pins σ H s) : X.s₀.heap.objs.size ≤ s.heap.objs.size := Nat.le_trans I.ok.above (Nat.le_of_lt I.lt)
theorem Inv.nofs (I : Inv X pins σ H s) {a : Addr} (h : s.heap.objs.size ≤ a) : a ∉ X.fs := fun hb => by
  obtain ⟨_, o, ho, _⟩ := I.ok.funs.mem hb
  exact absurd (Nat.lt_of_lt_of_le (Heap.lt_size ho) (Nat.le_trans I.sz h)) (Nat.lt_irrefl _)
theorem Inv.cne (I : Inv X pins σ H s) : ∀ x c, X.env.cells.lookup x = some c → c ≠ X.env.locals := fun x c e z => by
  obtain ⟨v, o, ho, hd⟩ := I.cell x c e
  obtain ⟨m, ⟨o', es, ep, ho', hd', _⟩, _⟩ := I.loc
  rw [z, ho'] at ho; cases ho; rw [hd'] at hd; cases hd
theorem Inv.funs (I : Inv X pins σ H s) : s.heap.FunFrames X.base X.outer := by
  have all : ∀ (l : List Env), (∀ b ∈ frs l, b ∈ X.fs) → X.s₀.heap.FunFrames X.base l → s.heap.FunFrames X.base l := by
    intro l
    induction l with
    | nil => intro _ _; trivial
    | cons env r ih =>
      intro hs hl
      obtain ⟨hk, ⟨L, o, hf, hn, ho, hd⟩, hr⟩ := hl
      have hL : L ∈ X.fs := hs L (by unfold frs; rw [List.filterMap_cons, hf]; exact List.mem_cons_self)
      obtain ⟨sl, e⟩ := I.base.slot L o ho (I.ok.frf L hL) hL fun z => I.ok.exfs L z hL
      exact ⟨hk, ⟨L, _, hf, hn, e, hd⟩, ih (fun b hb => hs b (by unfold frs; rw [List.filterMap_cons, hf]; exact List.mem_cons_of_mem _ hb)) hr⟩
  exact all X.outer (fun _ hb => hb) I.ok.funs
theorem Inv.stack (I : Inv X pins σ H s) : s.heap.FunFrames X.base X.stack := by
  rcases I.ok.stk with e | ⟨e, hf⟩
  · rw [e]; exact I.funs
  · rw [e]
    obtain ⟨m, hn, _⟩ := I.loc
    refine .cons (by rw [I.ok.kind]; decide) hf hn ?_ I.funs
    exact Heap.get?_none_of_le (Nat.le_trans I.ok.bsz I.ok.above)
theorem Inv.stkSub (I : Inv X pins σ H s) : ∀ b ∈ frs X.stack, b ∈ X.env.locals :: X.fs := fun b hb => by
  rcases I.ok.stk with e | ⟨e, hf⟩
  · rw [e] at hb; exact List.mem_cons_of_mem _ hb
  · rw [e] at hb
    unfold frs at hb
    rw [List.filterMap_cons, hf] at hb
    exact hb
theorem Inv.stkFree (I : Inv X pins σ H s) : ∀ b ∈ frs X.stack, H b = none := fun b hb => by
  rcases List.mem_cons.mp (I.stkSub b hb) with e | hb
  · rw [e]; exact I.free
  · obtain ⟨_, o, ho, _⟩ := I.ok.funs.mem hb
    exact I.base.free b o ho (I.ok.frf b hb) fun z => I.ok.exfs b z hb
theorem Inv.step {g' : Array GenState} {t' : Nat} {d' : Drawn} {ch : List Addr} (I : Inv X pins σ H s)
    (hch : ∀ b ∈ ch, (b ∈ X.ex ∨ X.s₀.heap.objs.size ≤ b) ∧ b ≠ X.env.locals ∧ (∀ x c, X.env.cells.lookup x = some c → c ≠ b) ∧ ∀ p ∈ X.pn ++ pins, p.1 ≠ b)
    (keep : ∀ b o, b ≠ X.env.locals → b ∉ X.fs → b ∉ ch → s.heap.get? b = some o → H b = none → h'.get? b = some o)
    (slot : ∀ b o, b ≠ X.env.locals → b ∈ X.fs → b ∉ ch → s.heap.get? b = some o → H b = none → ∃ sl, h'.get? b = some { o with slots := sl }) (free : ∀ b o, b ∉ ch → s.heap.get? b = some o → H b = none → H' b = none)
    (there : ∀ b o, b ∉ ch → s.heap.get? b = some o → ∃ o', h'.get? b = some o')
    (tups : ∀ b xs, H b = some (.tup xs) → H' b = some (.tup xs)) (frzs : ∀ b o u, H b = some (.frz o u) → H' b = some (.frz o u)) (tbls : ∀ b ps, H b = some (.tbl ps) → ∃ more, H' b = some (.tbl (ps ++ more)))
    (ns : ∀ m, s.heap.Ns X.env.locals m → h'.Ns X.env.locals m) (hok : HOk X.prog X.w H' h') (hg : AllBare g') :
    Inv X pins σ H' { s with heap := h', gens := g', drawn := d', toks := t' } := by
  have neL : ∀ b o, X.s₀.heap.get? b = some o → b ≠ X.env.locals := fun b o e => Nat.ne_of_lt (Nat.lt_of_lt_of_le (Heap.lt_size e) I.ok.above)
  have neC : ∀ b o, X.s₀.heap.get? b = some o → b ∉ X.ex → b ∉ ch := fun b o e hx hb => by
    rcases (hch b hb).1 with z | z
    · exact hx z
    · exact absurd (Nat.lt_of_lt_of_le (Heap.lt_size e) z) (Nat.lt_irrefl _)
  have cellK : ∀ x c, X.env.cells.lookup x = some c → ∀ v, s.heap.IsCell c v → h'.IsCell c v := fun x c e v ⟨o, ho, hd⟩ => by
    have nch : c ∉ ch := fun z => (hch c z).2.2.1 x c e rfl
    by_cases hc : c ∈ X.fs
    · obtain ⟨sl, q⟩ := slot c o (I.cne x c e) hc nch ho (I.freeC x c e)
      exact ⟨_, q, hd⟩
    · exact ⟨o, keep c o (I.cne x c e) hc nch ho (I.freeC x c e), hd⟩
  refine ⟨I.ok, I.os, hg, ⟨fun b o e n hb hx => ?_, fun b o e n hb hx => ?_, fun b o e n hx => ?_, fun b o e hx => ?_, fun b xs e => tups b xs (I.base.tups b xs e), fun b o xs e => frzs b o xs (I.base.frzs b o xs e), fun b ps e => ?_⟩, ?_, fun x c e => ?_, ?_, fun x c e => ?_, fun p hp => ?_, hok, I.len⟩
  · exact keep b o (neL b o e) hb (neC b o e hx) (I.base.keep b o e n hb hx) (I.base.free b o e n hx)
  · obtain ⟨sl, e1⟩ := I.base.slot b o e n hb hx
    obtain ⟨sl', e2⟩ := slot b _ (neL b o e) hb (neC b o e hx) e1 (I.base.free b o e n hx)
    exact ⟨sl', e2⟩
  · obtain ⟨o', e1⟩ := I.base.there b o e hx
    exact free b o' (neC b o e hx) e1 (I.base.free b o e n hx)
  · obtain ⟨o', e1⟩ := I.base.there b o e hx
    exact there b o' (neC b o e hx) e1
  · obtain ⟨m1, e1⟩ := I.base.tbls b ps e
    obtain ⟨m2, e2⟩ := tbls b _ e1
    exact ⟨m1 ++ m2, by rw [e2, Array.append_assoc]⟩
  · obtain ⟨m, hn, hl⟩ := I.loc
    refine ⟨m, ns m hn, fun i x v e1 e2 e3 => ?_⟩
    obtain ⟨u, r, l⟩ := hl i x v e1 e2 e3
    refine ⟨u, r, ?_⟩
    rcases l with l | ⟨k, c, e, z⟩
    · exact .inl l
    · exact .inr ⟨k, c, e, cellK x c e _ z⟩
  · obtain ⟨v, z⟩ := I.cell x c e
    exact ⟨v, cellK x c e v z⟩
  · obtain ⟨m, ⟨o, _, _, ho, _⟩, _⟩ := I.loc
    exact free _ o (fun z => (hch _ z).2.1 rfl) ho I.free
  · obtain ⟨v, o, ho, hd⟩ := I.cell x c e
    exact free c o (fun z => (hch c z).2.2.1 x c e rfl) ho (I.freeC x c e)
  · obtain ⟨e, n, ne, nf, d⟩ := I.pin p hp
    have nch : p.1 ∉ ch := fun z => (hch p.1 z).2.2.2 p hp rfl
    exact ⟨keep p.1 p.2 ne nf nch e n, free p.1 p.2 nch e n, ne, nf, d⟩
theorem Inv.un {t' : Nat} (I : Inv X pins σ H s) (u : Un X.fs [] H H' s.heap h') (hok : HOk X.prog X.w H' h') : Inv X pins σ H' { s with heap := h', toks := t' } := by
  obtain ⟨m, ⟨o, es, ep, ho, r⟩, _⟩ := id I.loc
  obtain ⟨sl, hL⟩ := u.any ho I.free (by simp)
  exact I.step (g' := s.gens) (d' := s.drawn) (ch := []) (fun _ z => nomatch z) (fun b o _ hb _ e n => u.keep b o e n hb (by simp)) (fun b o _ hb _ e n => u.slot b o e n hb (by simp)) (fun b o _ e n => u.free b o e n (by simp)) (fun b o _ e => u.there b o e (by simp)) u.tups u.frzs u.tbls (fun m' hm => by
    obtain ⟨o', es', ep', ho', r'⟩ := hm
    rw [ho] at ho'; cases ho'
    exact ⟨_, es', ep', hL, r'⟩) hok I.bare
theorem Inv.call {g' : Array GenState} {t' : Nat} {d' : Drawn} {ch : List Addr} (I : Inv X pins σ H s) (u : Un (frs X.stack) ch H H' s.heap h') (hok : HOk X.prog X.w H' h') (hg : AllBare g')
    (hch : ∀ b ∈ ch, (b ∈ X.ex ∨ X.s₀.heap.objs.size ≤ b) ∧ b ≠ X.env.locals ∧ (∀ x c, X.env.cells.lookup x = some c → c ≠ b) ∧ ∀ p ∈ X.pn ++ pins, p.1 ≠ b) :
    Inv X pins σ H' { s with heap := h', gens := g', drawn := d', toks := t' } := by
  obtain ⟨m, ⟨o, es, ep, ho, r⟩, _⟩ := id I.loc
  obtain ⟨sl, hL⟩ := u.any ho I.free fun z => (hch _ z).2.1 rfl
  exact I.step (ch := ch) hch (fun b o hL hb hc e n => u.keep b o e n (fun z => (List.mem_cons.mp (I.stkSub b z)).elim hL hb) hc) (fun b o _ _ hc e n => u.any e n hc) (fun b o hc e n => u.free b o e n hc) (fun b o hc e => u.there b o e hc) u.tups u.frzs u.tbls (fun m' hm => by
    obtain ⟨o', es', ep', ho', r'⟩ := hm
    rw [ho] at ho'; cases ho'
    exact ⟨_, es', ep', hL, r'⟩) hok hg
theorem Inv.turned {t' : Nat} {it : Addr} (I : Inv X pins σ H s) (k : ∀ b o, b ≠ it → s.heap.get? b = some o → h'.get? b = some o) (hn : H it = none) (hL : it ≠ X.env.locals)
    (h1 : it ∈ X.ex ∨ X.s₀.heap.objs.size ≤ it) (h2 : ∀ x c, X.env.cells.lookup x = some c → c ≠ it) (h3 : ∀ p ∈ X.pn ++ pins, p.1 ≠ it) : Inv X pins σ H { s with heap := h', toks := t' } := by
  have nit : ∀ b u, H b = some u → b ≠ it := fun b u e z => by rw [z, hn] at e; cases e
  refine I.step (g' := s.gens) (d' := s.drawn) (ch := [it]) (fun b hb => ?_) (fun b o _ _ hc e _ => k b o (fun z => hc (by simp [z])) e) (fun b o _ _ hc e _ => ⟨o.slots, k b o (fun z => hc (by simp [z])) e⟩) (fun _ _ _ _ n => n)
    (fun b o hc e => ⟨o, k b o (fun z => hc (by simp [z])) e⟩) (fun _ _ e => e) (fun _ _ _ e => e) (fun b ps e => ⟨#[], by rw [e]; simp⟩) (fun m hm => ?_) (fun b u e => ?_) I.bare
  · have e : b = it := by simpa using hb
    subst e
    exact ⟨h1, hL, h2, h3⟩
  · obtain ⟨o, es, ep, ho, r⟩ := hm
    exact ⟨o, es, ep, k _ o (Ne.symm hL) ho, r⟩
  · refine (I.hok b u e).stay (fun c v hc q => k c v ?_ q) (fun _ q => q) fun _ _ q => q
    rcases hc with z | z
    · rw [z]; exact nit b u e
    · exact nit c _ z
theorem Inv.tok (I : Inv X pins σ H s) (t : Nat) : Inv X pins σ H { s with toks := t } := I.un (h' := s.heap) (t' := t) Un.refl I.hok
theorem Inv.kept {t' : Nat} (I : Inv X pins σ H s) (k : ∀ b u, s.heap.get? b = some u → h'.get? b = some u) : Inv X pins σ H { s with heap := h', toks := t' } := I.un (Un.kept k) (I.hok.kept k)
theorem Inv.laid {a : Addr} {o : HO} {t' : Nat} (I : Inv X pins σ H s) (k : ∀ b u, s.heap.get? b = some u → h'.get? b = some u) (hp : s.heap.objs.size ≤ a) (new : ObjOk X.prog X.w (upd H a o) h' a o) :
    Inv X pins σ (upd H a o) { s with heap := h', toks := t' } := I.un (Un.laid k hp (I.hok.fresh hp)) (I.hok.laid k hp new)
theorem Inv.write {x e : Addr} {o : HO} {t' : Nat} (I : Inv X pins σ H s) (mu : Mut (H x)) (he : e = x ∨ H e = some (.own x)) (k : ∀ b u, b ≠ e → s.heap.get? b = some u → h'.get? b = some u) (heo : ∃ u, h'.get? e = some u)
    (new : ObjOk X.prog X.w (upd H x o) h' x o) : Inv X pins σ (upd H x o) { s with heap := h', toks := t' } := I.un (Un.write mu he k heo) (I.hok.write mu he k heo new)
theorem Inv.pins_of {pins' : List (Addr × Obj)} (I : Inv X pins σ H s) (h : ∀ p ∈ pins', s.heap.get? p.1 = some p.2 ∧ H p.1 = none ∧ p.1 ≠ X.env.locals ∧ p.1 ∉ X.fs ∧ ∀ v, p.2.data ≠ .cell v) : Inv X pins' σ H s :=
  ⟨I.ok, I.os, I.bare, I.base, I.loc, I.cell, I.free, I.freeC, fun p hp => (List.mem_append.mp hp).elim (fun z => I.pin p (List.mem_append_left _ z)) (h p), I.hok, I.len⟩
theorem nodup_ix {N : List Str} (hN : N.Nodup) {i j : Nat} {x : Str} (a : N[i]? = some x) (b : N[j]? = some x) : i = j := by
  obtain ⟨h1, e1⟩ := List.getElem?_eq_some_iff.mp a
  obtain ⟨h2, e2⟩ := List.getElem?_eq_some_iff.mp b
  exact (List.getElem_inj hN).mp (e1.trans e2.symm)
theorem store_ok2 {M : Model} {A : Around} {E : Value → Shared → Prop} {i : Nat} {x : Str} {v : V} {u : Value} {Q : Unit → Shared → Prop} (I : Inv X pins σ H s) (hN : X.N.Nodup) (hi : X.N[i]? = some x) (hx : Loc X.env.scope x) (r : RelV v u)
    (h : ∀ s', Inv X pins (σ.set i (some v)) H s' → (∃ a, Heap.SameBut a s.heap s'.heap ∧ (a = X.env.locals ∨ X.env.cells.lookup x = some a)) → Q () s') (hf : X.fn x = true ∨ X.env.scope.names.lookup x = some .local := by first | exact .inl rfl | exact .inr rfl | assumption) : wpAny M A (storeName X.env x u) Q E s := by
  obtain ⟨m, hn, hl⟩ := id I.loc
  have hcls : (X.env.scope.kind == .class || (X.env.scope.kind == .module && X.env.locals != X.env.globals)) = false := by rw [I.ok.kind]; rfl
  have hiσ : i < σ.length := by rw [I.len]; exact (List.getElem?_eq_some_iff.mp hi).1
  have cne := I.cne
  have tracked : ∀ {a : Addr} {h' : Heap}, (∃ o, s.heap.get? a = some o ∧ H a = none) → Heap.SameBut a s.heap h' → HOk X.prog X.w H h' := fun {a h'} ha hs b ob e => by
    obtain ⟨_, _, hfree⟩ := ha
    refine (I.hok b ob e).stay (fun c w' hc q => (hs.2 c ?_).trans q) (fun _ q => q) fun _ _ q => q
    rintro rfl
    rcases hc with rfl | hc
    · rw [hfree] at e; cases e
    · rw [hfree] at hc; cases hc
  rcases hx with hk | hk
  · refine wpAny_storeName_local hk hn (fun h' hn' hs => ?_) hcls
    obtain ⟨oL, _, _, hoL, _⟩ := id hn
    refine h _ ⟨I.ok, I.os, I.bare, ⟨fun b o e n hb hx => ?_, fun b o e n hb hx => ?_, I.base.free, fun b o e hx => ?_, I.base.tups, I.base.frzs, I.base.tbls⟩, ⟨_, hn', fun j y v' e1 e2 e3 => ?_⟩, fun y c e => ?_, I.free, I.freeC, fun p hp => ?_, tracked ⟨oL, hoL, I.free⟩ hs, by simpa using I.len⟩ ⟨_, hs, .inl rfl⟩
    · exact (hs.2 b (Nat.ne_of_lt (Nat.lt_of_lt_of_le (Heap.lt_size e) I.ok.above))).trans (I.base.keep b o e n hb hx)
    · obtain ⟨sl, e1⟩ := I.base.slot b o e n hb hx
      exact ⟨sl, (hs.2 b (Nat.ne_of_lt (Nat.lt_of_lt_of_le (Heap.lt_size e) I.ok.above))).trans e1⟩
    · obtain ⟨o', e1⟩ := I.base.there b o e hx
      exact ⟨o', (hs.2 b (Nat.ne_of_lt (Nat.lt_of_lt_of_le (Heap.lt_size e) I.ok.above))).trans e1⟩
    · by_cases hj : j = i
      · subst hj
        rw [hi] at e1; cases e1
        rw [List.getElem?_set_self hiσ] at e2
        cases e2
        exact ⟨u, r, .inl ⟨hk, by simp⟩⟩
      · rw [List.getElem?_set_ne (Ne.symm hj)] at e2
        obtain ⟨u', r', q⟩ := hl j y v' e1 e2 e3
        refine ⟨u', r', ?_⟩
        rcases q with ⟨k, e⟩ | ⟨k, c, e, z⟩
        · refine .inl ⟨k, ?_⟩
          have : y ≠ x := fun e => hj (nodup_ix hN e1 (e ▸ hi))
          simp [this, e]
        · exact .inr ⟨k, c, e, z.sameBut hs (cne y c e)⟩
    · obtain ⟨w', z⟩ := I.cell y c e
      exact ⟨w', z.sameBut hs (cne y c e)⟩
    · obtain ⟨e, n, ne, nf, d⟩ := I.pin p hp
      exact ⟨(hs.2 p.1 ne).trans e, n, ne, nf, d⟩
  · have hfn : X.fn x = true := by
      rcases hf with z | z
      · exact z
      · rw [z] at hk; cases hk
    obtain ⟨c, hc⟩ := I.ok.has x (.inl hk)
    obtain ⟨w', z⟩ := I.cell x c hc
    refine wpAny_storeName_cell I.ok.kind hk hc z (fun h' hc' hs => ?_)
    obtain ⟨oc, hoc, hocd⟩ := id z
    refine h { s with heap := h' } ⟨I.ok, I.os, I.bare, ⟨fun b o e n hb hx => ?_, fun b o e n hb hx => ?_, I.base.free, fun b o e hx => ?_, I.base.tups, I.base.frzs, I.base.tbls⟩, ⟨m, hn.sameBut hs (Ne.symm (cne x c hc)), fun j y v' e1 e2 e3 => ?_⟩, fun y c' e => ?_, I.free, I.freeC, fun p hp => ?_, tracked ⟨oc, hoc, I.freeC x c hc⟩ hs, by simpa using I.len⟩ ⟨c, hs, .inr hc⟩
    · exact (hs.2 b (Nat.ne_of_lt (Nat.lt_of_lt_of_le (Heap.lt_size e) (I.ok.cab x c hfn hc)))).trans (I.base.keep b o e n hb hx)
    · obtain ⟨sl, e1⟩ := I.base.slot b o e n hb hx
      exact ⟨sl, (hs.2 b (Nat.ne_of_lt (Nat.lt_of_lt_of_le (Heap.lt_size e) (I.ok.cab x c hfn hc)))).trans e1⟩
    · obtain ⟨o', e1⟩ := I.base.there b o e hx
      exact ⟨o', (hs.2 b (Nat.ne_of_lt (Nat.lt_of_lt_of_le (Heap.lt_size e) (I.ok.cab x c hfn hc)))).trans e1⟩
    · by_cases hj : j = i
      · subst hj
        rw [hi] at e1; cases e1
        rw [List.getElem?_set_self hiσ] at e2
        cases e2
        exact ⟨u, r, .inr ⟨.inl hk, c, hc, hc'⟩⟩
      · rw [List.getElem?_set_ne (Ne.symm hj)] at e2
        obtain ⟨u', r', q⟩ := hl j y v' e1 e2 e3
        refine ⟨u', r', ?_⟩
        rcases q with q | ⟨k, c', e, z'⟩
        · exact .inl q
        · refine .inr ⟨k, c', e, z'.sameBut hs ?_⟩
          rintro rfl
          exact hj (nodup_ix hN e1 (I.ok.inj _ _ _ e hc ▸ hi))
    · by_cases hcc : c' = c
      · subst hcc; exact ⟨_, hc'⟩
      · obtain ⟨w2, z2⟩ := I.cell y c' e
        exact ⟨w2, z2.sameBut hs hcc⟩
    · obtain ⟨e, n, ne, nf, d⟩ := I.pin p hp
      refine ⟨(hs.2 p.1 ?_).trans e, n, ne, nf, d⟩
      intro q
      rw [q, hoc] at e
      have q' : oc = p.2 := Option.some.inj e
      exact d w' (by rw [← q']; exact hocd)
theorem store_ok {M : Model} {A : Around} {E : Value → Shared → Prop} {i : Nat} {x : Str} {v : V} {u : Value} {Q : Unit → Shared → Prop} (I : Inv X pins σ H s) (hN : X.N.Nodup) (hi : X.N[i]? = some x) (hx : Loc X.env.scope x) (r : RelV v u)
    (h : ∀ s', Inv X pins (σ.set i (some v)) H s' → Q () s') (hf : X.fn x = true ∨ X.env.scope.names.lookup x = some .local := by first | exact .inl rfl | exact .inr rfl | assumption) : wpAny M A (storeName X.env x u) Q E s :=
  store_ok2 I hN hi hx r (fun s' I' _ => h s' I') hf
theorem Inv.call' {s' : Shared} {ch : List Addr} (I : Inv X pins σ H s) (ho : s'.os = s.os) (u : Un (frs X.stack) ch H H' s.heap s'.heap) (hok : HOk X.prog X.w H' s'.heap) (hg : AllBare s'.gens)
    (hch : ∀ b ∈ ch, (b ∈ X.ex ∨ X.s₀.heap.objs.size ≤ b) ∧ b ≠ X.env.locals ∧ (∀ x c, X.env.cells.lookup x = some c → c ≠ b) ∧ ∀ p ∈ X.pn ++ pins, p.1 ≠ b) : Inv X pins σ H' s' := by
  obtain ⟨h', g', d', t', o'⟩ := s'
  have e : o' = s.os := ho
  subst e
  exact I.call (g' := g') (t' := t') (d' := d') u hok hg hch
end
abbrev XK := Value → Option Addr → Hp → Prop
abbrev St := List (Option V)
abbrev VK := V → Hp → Prop
abbrev TE := St → Hp → VK → Prop
abbrev TT := St → Hp → (Bool → Hp → Prop) → Prop
abbrev TA := St → Hp → (List V → Hp → Prop) → Prop
structure Ends where
  nx : St → Hp → Prop
  rt : VK
  bk : St → Hp → Prop := fun _ _ => False
  ct : St → Hp → Prop := fun _ _ => False
abbrev TS := Ends → St → Hp → Prop
def EP (X : Cx) (pins : List (Addr × Obj)) (σ : St) (Q : VK) (u : Value) (s' : Shared) : Prop := ∃ v H', Inv X pins σ H' s' ∧ RelV v u ∧ Q v H'
def TP (X : Cx) (pins : List (Addr × Obj)) (σ : St) (Q : Bool → Hp → Prop) (b : Bool) (s' : Shared) : Prop := ∃ H', Inv X pins σ H' s' ∧ Q b H'
def AP (X : Cx) (pins : List (Addr × Obj)) (σ : St) (Q : List V → Hp → Prop) (us : List Value) (s' : Shared) : Prop := ∃ vs H', Inv X pins σ H' s' ∧ Vals vs us ∧ Q vs H'
def SP (X : Cx) (pins : List (Addr × Obj)) (D : Ends) (f : Flow) (s' : Shared) : Prop :=
  match f with
  | .next => ∃ σ' H', Inv X pins σ' H' s' ∧ D.nx σ' H'
  | .brk => ∃ σ' H', Inv X pins σ' H' s' ∧ D.bk σ' H'
  | .cont => ∃ σ' H', Inv X pins σ' H' s' ∧ D.ct σ' H'
  | .ret u => ∃ v σ' H', Inv X pins σ' H' s' ∧ RelV v u ∧ D.rt v H'
def PE (X : Cx) (e : Expr) (t : TE) : Prop :=
  ∀ (pins : List (Addr × Obj)) (s : Shared) (σ : St) (H : Hp) (Q : VK), Inv X pins σ H s → t σ H Q → wpAny (model X.prog X.w) X.A (eval e X.env) (EP X pins σ Q) X.xe s
def PT (X : Cx) (e : Expr) (t : TT) : Prop :=
  ∀ (pins : List (Addr × Obj)) (s : Shared) (σ : St) (H : Hp) (Q : Bool → Hp → Prop), Inv X pins σ H s → t σ H Q → wpAny (model X.prog X.w) X.A (isTrue e X.env (eval e X.env)) (TP X pins σ Q) X.xe s
def PW (X : Cx) (e : Expr) (t : TT) : Prop :=
  ∀ (whole : Sem Value) (pins : List (Addr × Obj)) (s : Shared) (σ : St) (H : Hp) (Q : Bool → Hp → Prop), Inv X pins σ H s → t σ H Q → wpAny (model X.prog X.w) X.A (isTrue e X.env whole) (TP X pins σ Q) X.xe s
theorem PW.pt {X : Cx} {e : Expr} {t : TT} (h : PW X e t) : PT X e t := h _
def PA (X : Cx) (es : List Expr) (t : TA) : Prop :=
  ∀ (pos : Pos) (pins : List (Addr × Obj)) (s : Shared) (σ : St) (H : Hp) (Q : List V → Hp → Prop), Inv X pins σ H s → t σ H Q → wpAny (model X.prog X.w) X.A (spliced (backTo pos (starEach es X.env))) (AP X pins σ Q) X.xe s
def PS (X : Cx) (st : Stmt) (t : TS) : Prop :=
  ∀ (pins : List (Addr × Obj)) (s : Shared) (σ : St) (H : Hp) (D : Ends), Inv X pins σ H s → t D σ H → wpAny (model X.prog X.w) X.A (exec st X.env) (SP X pins D) X.xe s
def PSs (X : Cx) (st : List Stmt) (t : TS) : Prop :=
  ∀ (pins : List (Addr × Obj)) (s : Shared) (σ : St) (H : Hp) (D : Ends), Inv X pins σ H s → t D σ H → wpAny (model X.prog X.w) X.A (execs st X.env) (SP X pins D) X.xe s
theorem thn {α : Type} {t : Sem α} {Q Q' : α → Shared → Prop} {M : Model} {A : Around} {E : Value → Shared → Prop} {s : Shared} (h : wpAny M A t Q E s) (hQ : ∀ a s, Q a s → Q' a s) : wpAny M A t Q' E s := wpAny_mono h hQ fun _ _ x => x
end L2
namespace L2
open PySem PySem.Spec PyProof.Rows
section
variable {X : Cx}
def tVar (i : Nat) : TE := fun σ H Q => ∃ v, σ[i]? = some (some v) ∧ Q v H
def tC (v : V) : TE := fun _ H Q => Q v H
theorem pe_var {i : Nat} {x : Str} {pos : Pos} (hN : X.N[i]? = some x) (hv : Vis X.env.scope x) (hd : (x == ("__debug__" : Str)) = false := by decide) (hcd : (x == ("__classdict__" : Str)) = false := by decide) : PE X (.Name x pos) (tVar i) := by
  intro pins s σ H Q I h
  obtain ⟨v, e, h⟩ := h
  obtain ⟨m, hn, hl⟩ := I.loc
  obtain ⟨u, r, l⟩ := hl i x v hN e hv
  have fin : EP X pins σ Q u s := ⟨v, H, I, r, h⟩
  rcases l with ⟨hk, hm⟩ | ⟨hk, c, hc, hcell⟩
  · exact wpAny_Name (wpAny_loadName_local I.ok.kind hk hn hm fin) hd
  · rcases hk with hk | hk
    · exact wpAny_Name (wpAny_loadName_cell I.ok.kind hk hc hcell fin) hd
    · exact wpAny_Name (wpAny_loadName_free I.ok.kind hk hc hcell fin hcd) hd
theorem pe_int {i j pos} : PE X (.Constant (.int i) j pos) (tC (.int i)) := fun _ _ _ H _ I h => wpAny_Constant_int ⟨.int i, H, I.tok _, ⟨_, rfl⟩, h⟩
theorem pe_bl {b j pos} : PE X (.Constant (.bool b) j pos) (tC (.bl b)) := fun _ _ _ H _ I h => Constant_bool ⟨.bl b, H, I, rfl, h⟩
theorem pe_str {x j pos} : PE X (.Constant (.str x) j pos) (tC (.str x)) := fun _ _ _ H _ I h => Calls.Constant_str ⟨.str x, H, I.tok _, ⟨_, rfl⟩, h⟩
def Gl (X : Cx) (x : Str) : Prop := X.env.kindOf x = some .globalImplicit
theorem ld_glob {E : Value → Shared → Prop} {pins : List (Addr × Obj)} {s : Shared} {σ : St} {H : Hp} {x : Str} {u : Value} {pos : Pos} {Q : Value → Shared → Prop} (I : Inv X pins σ H s) (hg : Gl X x) (hm : X.mg x = some u) (h : Q u s)
    (hd : (x == ("__debug__" : Str)) = false := by decide) : wpAny (model X.prog X.w) X.A (eval (.Name x pos) X.env) Q E s :=
  Calls.Name_function_global I.ok.kind hg (Calls.loadGlobal_global (by rw [I.ok.glob]; exact I.mod.glob.keeps I.bk) hm h) hd
theorem ld_blt {E : Value → Shared → Prop} {pins : List (Addr × Obj)} {s : Shared} {σ : St} {H : Hp} {x : Str} {u : Value} {pos : Pos} {Q : Value → Shared → Prop} (I : Inv X pins σ H s) (hg : Gl X x) (hm : X.mg x = none) (hv : bootBuiltins x = some u) (h : Q u s)
    (hn : x ≠ "__name__" := by decide) (hd : (x == ("__debug__" : Str)) = false := by decide) : wpAny (model X.prog X.w) X.A (eval (.Name x pos) X.env) Q E s := by
  obtain ⟨mb, h1, h2⟩ := I.mod.blt
  exact Calls.Name_function_global I.ok.kind hg (Calls.loadGlobal_builtin (by rw [I.ok.glob]; exact I.mod.glob.keeps I.bk) hm (by rw [I.ok.blt]; exact h1.keeps I.bk) ((h2 x hn).trans hv) h) hd
theorem pe_glob {x : Str} {v : V} {u : Value} {pos : Pos} (hg : Gl X x) (hm : X.mg x = some u) (r : RelV v u) (hd : (x == ("__debug__" : Str)) = false := by decide) : PE X (.Name x pos) (tC v) :=
  fun _ _ _ H _ I h => ld_glob I hg hm ⟨v, H, I, r, h⟩ hd
theorem pe_bltn {x : Str} {v : V} {u : Value} {pos : Pos} (hg : Gl X x) (hm : X.mg x = none) (hv : bootBuiltins x = some u) (r : RelV v u) (hn : x ≠ "__name__" := by decide) (hd : (x == ("__debug__" : Str)) = false := by decide) : PE X (.Name x pos) (tC v) :=
  fun _ _ _ H _ I h => ld_blt I hg hm hv ⟨v, H, I, r, h⟩ hn hd
variable {a b : Expr} {ta tb : TE} {pos : Pos}
def tB (t : TE) : TT := fun σ H Q => t σ H fun x H1 => ∃ c, x = .bl c ∧ Q c H1
theorem pt_val {e : Expr} {t : TE} (h : PE X e t) (he : ∀ whole, isTrue e X.env whole = (do let v ← whole; standAt e.pos; holding [v] (truthy v)) := by intro _; rfl) : PT X e (tB t) := by
  intro pins s σ H Q I hw
  refine isTrue_plain (thn (h pins s σ H _ I hw) fun v s1 ⟨x, H1, I1, r1, q1⟩ => ?_) (he _)
  obtain ⟨d, rfl, q⟩ := q1
  cases r1
  exact wpAny_truthy_bool ⟨H1, I1, q⟩
variable {tA tB' : TT} {rest : List Expr}
def tAnd (t u : TT) : TT := fun σ H Q => t σ H fun c H1 => if c = true then u σ H1 Q else Q false H1
def tOr (t u : TT) : TT := fun σ H Q => t σ H fun c H1 => if c = true then Q true H1 else u σ H1 Q
def tNot (t : TT) : TT := fun σ H Q => t σ H fun c H1 => Q (!c) H1
theorem pw_and1 (ha : PT X a tA) : PW X (.BoolOp .And [a] pos) tA := by
  intro wh pins s σ H Q I h
  refine isTrue_and (thn (ha pins s σ H Q I h) fun c s1 e => ?_)
  cases c with
  | true => exact isTrue_and_nil e
  | false => exact e
theorem pw_or1 (ha : PT X a tA) : PW X (.BoolOp .Or [a] pos) tA := by
  intro wh pins s σ H Q I h
  refine isTrue_or (thn (ha pins s σ H Q I h) fun c s1 e => ?_)
  cases c with
  | false => exact isTrue_or_nil e
  | true => exact e
theorem pw_and (ha : PT X a tA) (hb : PW X (.BoolOp .And (b :: rest) pos) tB') : PW X (.BoolOp .And (a :: b :: rest) pos) (tAnd tA tB') := by
  intro wh pins s σ H Q I h
  refine isTrue_and (thn (ha pins s σ H _ I h) fun c s1 ⟨H1, I1, q1⟩ => ?_)
  cases c with
  | true => exact hb wh pins s1 σ H1 Q I1 q1
  | false => exact ⟨H1, I1, q1⟩
theorem pw_or (ha : PT X a tA) (hb : PW X (.BoolOp .Or (b :: rest) pos) tB') : PW X (.BoolOp .Or (a :: b :: rest) pos) (tOr tA tB') := by
  intro wh pins s σ H Q I h
  refine isTrue_or (thn (ha pins s σ H _ I h) fun c s1 ⟨H1, I1, q1⟩ => ?_)
  cases c with
  | true => exact ⟨H1, I1, q1⟩
  | false => exact hb wh pins s1 σ H1 Q I1 q1
theorem pt_not (ha : PT X a tA) : PT X (.UnaryOp .Not a pos) (tNot tA) := by
  intro pins s σ H Q I h
  exact isTrue_not (ha pins s σ H (fun c H1 => Q (!c) H1) I h)
def tAndV (ta tb : TE) : TE := fun σ H Q => ta σ H fun x H1 => ∃ c, x = .bl c ∧ if c = true then tb σ H1 Q else Q (.bl false) H1
def tOrV (ta tb : TE) : TE := fun σ H Q => ta σ H fun x H1 => ∃ c, x = .bl c ∧ if c = true then Q (.bl true) H1 else tb σ H1 Q
def tNotV (ta : TE) : TE := fun σ H Q => ta σ H fun x H1 => ∃ c, x = .bl c ∧ Q (.bl (!c)) H1
theorem pe_one {op} {t : TE} (h : PE X a t) : PE X (.BoolOp op [a] pos) t := fun pins s σ H Q I hw => BoolOp_one (h pins s σ H Q I hw)
theorem pe_and (ha : PE X a ta) (hb : PE X (.BoolOp .And (b :: rest) pos) tb) : PE X (.BoolOp .And (a :: b :: rest) pos) (tAndV ta tb) := by
  intro pins s σ H Q I h
  refine BoolOp_and (thn (ha pins s σ H _ I h) fun v s1 ⟨x, H1, I1, r1, q1⟩ => ?_)
  obtain ⟨c, rfl, q1⟩ := q1
  cases r1
  refine wpAny_truthy_bool ?_
  cases c with
  | true => exact hb pins s1 σ H1 Q I1 q1
  | false => exact ⟨.bl false, H1, I1, rfl, q1⟩
theorem pe_not (ha : PE X a ta) : PE X (.UnaryOp .Not a pos) (tNotV ta) := by
  intro pins s σ H Q I h
  refine UnaryOp_ (thn (ha pins s σ H _ I h) fun v s1 ⟨x, H1, I1, r1, q1⟩ => ?_)
  obtain ⟨c, rfl, q1⟩ := q1
  cases r1
  exact not_of (wpAny_truthy_bool ⟨.bl (!c), H1, I1, rfl, q1⟩)
def tIf (t : TT) (ta tb : TE) : TE := fun σ H Q => t σ H fun c H1 => if c = true then ta σ H1 Q else tb σ H1 Q
end
end L2
namespace L2
open PySem PySem.Spec PyProof.Rows
def SqL (K : PySem.W.Frag) (H : Hp) (a : Addr) (xs : List V) : Prop :=
  Rd H a (.lst xs) ∨
    ∃ (o : Obj) (its : Array Value) (n : Nat), K.lookup a = some o ∧ o.cls = .type "list" ∧ o.dict = none ∧ o.data = .seq its n ∧ its.size ≤ sizeLine ∧ Vals xs its.toList
def SqT (K : PySem.W.Frag) (H : Hp) (a : Addr) (xs : List V) : Prop :=
  Rd H a (.tup xs) ∨
    ∃ (o : Obj) (its : Array Value) (n : Nat), K.lookup a = some o ∧ o.cls = .type "tuple" ∧ o.data = .seq its n ∧ its.size ≤ sizeLine ∧ Vals xs its.toList
def absV : Value → Option V
  | .none => some .non
  | .bool b => some (.bl b)
  | .int i _ => some (.int i)
  | .str x _ => some (.str x)
  | .bytes b _ => some (.byt b)
  | .float b _ => some (.flt b)
  | .ref a => some (.ref a)
  | .type n => some (.ty n)
  | _ => none
theorem RelV.abs {x : V} {u : Value} (r : RelV x u) : absV u = some x := by
  cases x with
  | non => cases r; rfl
  | bl _ => cases r; rfl
  | int _ => obtain ⟨t, rfl⟩ := r; rfl
  | str _ => obtain ⟨t, rfl⟩ := r; rfl
  | byt _ => obtain ⟨t, rfl⟩ := r; rfl
  | flt _ => obtain ⟨t, rfl⟩ := r; rfl
  | ref _ => cases r; rfl
  | ty _ => cases r; rfl
theorem RelV.inj {x y : V} {u : Value} (r : RelV x u) (q : RelV y u) : x = y := Option.some.inj (r.abs.symm.trans q.abs)
theorem Vals.inj : ∀ {xs ys : List V} {us : List Value}, Vals xs us → Vals ys us → xs = ys
  | _, _, _, .nil, .nil => rfl
  | _, _, _, .cons r t, .cons r' t' => by rw [r.inj r', Vals.inj t t']
section
variable {X : Cx} {pins : List (Addr × Obj)} {σ : St} {H : Hp} {s : Shared} {a : Addr} {xs ys : List V}
theorem SqL.of {K : PySem.W.Frag} (h : H a = some (.lst xs)) : SqL K H a xs := .inl (.inl h)
theorem SqT.of {K : PySem.W.Frag} (h : H a = some (.tup xs)) : SqT K H a xs := .inl (.inl h)
theorem Inv.list (I : Inv X pins σ H s) (h : SqL X.K H a xs) : ∃ its : List Value, Vals xs its ∧ PlainL s.heap a its.toArray ∧ xs.length ≤ sizeLine := by
  rcases h with h | ⟨o, its, n, hk, hc, hd, hs, hz, r⟩
  · obtain ⟨z, its, n, r, e⟩ := h.ok I.hok
    exact ⟨its, r, ⟨_, n, e, rfl, rfl, rfl⟩, z⟩
  · refine ⟨its.toList, r, ⟨o, n, I.kIn a o hk, hc, hd, by simpa using hs⟩, ?_⟩
    have e := r.length
    simp only [Array.length_toList] at e
    omega
theorem Inv.tuple (I : Inv X pins σ H s) (h : SqT X.K H a xs) : ∃ its : List Value, Vals xs its ∧ IsTup s.heap a its.toArray ∧ xs.length ≤ sizeLine := by
  rcases h with h | ⟨o, its, n, hk, hc, hs, hz, r⟩
  · obtain ⟨z, its, r, p⟩ := h.ok I.hok
    exact ⟨its, r, p, z⟩
  · refine ⟨its.toList, r, ⟨o, I.kIn a o hk, hc, n, by simpa using hs⟩, ?_⟩
    have e := r.length
    simp only [Array.length_toList] at e
    omega
theorem Inv.list_inj (I : Inv X pins σ H s) (h : SqL X.K H a xs) (h' : SqL X.K H a ys) : xs = ys := by
  obtain ⟨its, r, ⟨o, n, e, _, _, d⟩, _⟩ := I.list h
  obtain ⟨its', r', ⟨o', n', e', _, _, d'⟩, _⟩ := I.list h'
  rw [e] at e'; cases e'
  rw [d] at d'
  injection d' with d1 _
  have : its = its' := by simpa using congrArg Array.toList d1
  subst this
  exact r.inj r'
theorem Inv.tuple_inj (I : Inv X pins σ H s) (h : SqT X.K H a xs) (h' : SqT X.K H a ys) : xs = ys := by
  obtain ⟨its, r, ⟨o, e, _, n, d⟩, _⟩ := I.tuple h
  obtain ⟨its', r', ⟨o', e', _, n', d'⟩, _⟩ := I.tuple h'
  rw [e] at e'; cases e'
  rw [d] at d'
  injection d' with d1 _
  have : its = its' := by simpa using congrArg Array.toList d1
  subst this
  exact r.inj r'
end
abbrev Cx.wish (X : Cx) (E : Value → Shared → Prop) : Cx := { X with xe := E }
abbrev Cx.nox (X : Cx) : Cx := X.wish fun _ _ => False
theorem Cx.Ok.wish {X : Cx} (ok : X.Ok) (E : Value → Shared → Prop) : (X.wish E).Ok :=
  ⟨ok.mod, ok.kind, ok.glob, ok.blt, ok.above, ok.inj, ok.has, ok.cab, ok.hd, ok.frames, ok.stk, ok.exf, ok.bs, ok.bsz, ok.noex, ok.exfs, ok.funs, ok.frf⟩
theorem Cx.Ok.unwish {X : Cx} {E : Value → Shared → Prop} (ok : (X.wish E).Ok) : X.Ok :=
  ⟨ok.mod, ok.kind, ok.glob, ok.blt, ok.above, ok.inj, ok.has, ok.cab, ok.hd, ok.frames, ok.stk, ok.exf, ok.bs, ok.bsz, ok.noex, ok.exfs, ok.funs, ok.frf⟩
section
variable {X : Cx} {pins : List (Addr × Obj)} {σ : St} {H : Hp} {s : Shared} {E : Value → Shared → Prop}
theorem Inv.wish (I : Inv X pins σ H s) (E : Value → Shared → Prop) : Inv (X.wish E) pins σ H s := ⟨I.ok.wish E, I.os, I.bare, I.base, I.loc, I.cell, I.free, I.freeC, I.pin, I.hok, I.len⟩
theorem Inv.unwish (I : Inv (X.wish E) pins σ H s) : Inv X pins σ H s := ⟨I.ok.unwish, I.os, I.bare, I.base, I.loc, I.cell, I.free, I.freeC, I.pin, I.hok, I.len⟩
theorem SP.unwish {D : Ends} {f : Flow} {s' : Shared} (h : SP (X.wish E) pins D f s') : SP X pins D f s' := by
  cases f with
  | next => obtain ⟨σ', H', I, q⟩ := h; exact ⟨σ', H', I.unwish, q⟩
  | brk => obtain ⟨σ', H', I, q⟩ := h; exact ⟨σ', H', I.unwish, q⟩
  | cont => obtain ⟨σ', H', I, q⟩ := h; exact ⟨σ', H', I.unwish, q⟩
  | ret u => obtain ⟨v, σ', H', I, r, q⟩ := h; exact ⟨v, σ', H', I.unwish, r, q⟩
theorem PE.nox {e : Expr} {t : TE} (h : PE X.nox e t) : PE X e t := fun pins s σ H Q I hw =>
  wpAny_mono (h pins s σ H Q (I.wish _) hw) (fun _ _ ⟨v, H', I', r, q⟩ => ⟨v, H', I'.unwish, r, q⟩) fun _ _ z => False.elim z
theorem PT.nox {e : Expr} {t : TT} (h : PT X.nox e t) : PT X e t := fun pins s σ H Q I hw =>
  wpAny_mono (h pins s σ H Q (I.wish _) hw) (fun _ _ ⟨H', I', q⟩ => ⟨H', I'.unwish, q⟩) fun _ _ z => False.elim z
theorem PSs.nox {st : List Stmt} {t : TS} (h : PSs X.nox st t) : PSs X st t := fun pins s σ H D I hw =>
  wpAny_mono (h pins s σ H D (I.wish _) hw) (fun _ _ q => q.unwish) fun _ _ z => False.elim z
end
section
variable {X : Cx} {st : Stmt} {rest : List Stmt} {t u : TS} {e : Expr} {te : TE} {pos : Pos}
def tNext : TS := fun D σ H => D.nx σ H
def tSeq (t u : TS) : TS := fun D σ H => t { D with nx := u D } σ H
theorem pss_nil : PSs X [] tNext := fun _ _ σ H _ I h => wpAny_execs_nil ⟨σ, H, I, h⟩
theorem pss_cons (h1 : PS X st t) (h2 : PSs X rest u) : PSs X (st :: rest) (tSeq t u) := by
  intro pins s σ H D I h
  refine wpAny_execs_cons (thn (h1 pins s σ H { D with nx := u D } I h) fun f s1 q => ?_)
  cases f with
  | next =>
    obtain ⟨σ', H', I', q⟩ := q
    exact h2 pins s1 σ' H' D I' q
  | ret v => exact q
  | brk => exact q
  | cont => exact q
theorem pss_one (h1 : PS X st t) : PSs X [st] t := by
  intro pins s σ H D I h
  refine wpAny_execs_cons (thn (h1 pins s σ H D I h) fun f s1 q => ?_)
  cases f with
  | next => exact wpAny_execs_nil q
  | ret v => exact q
  | brk => exact q
  | cont => exact q
theorem Inv.quiet {pins : List (Addr × Obj)} {σ : St} {H : Hp} {s : Shared} (I : Inv X pins σ H s) : interactive X.env = false := by simp [interactive, I.ok.kind]
def tDrop (te : TE) : TS := fun D σ H => te σ H fun _ H1 => D.nx σ H1
theorem ps_expr (he : PE X e te) (hs : swapsWith e none pos.line X.env = pure false := by rfl) : PS X (.Expr e pos) (tDrop te) := by
  intro pins s σ H D I h
  exact wpAny_Expr_any (thn (he pins s σ H _ I h) fun v s1 ⟨x, H1, I1, r1, q1⟩ => ⟨σ, H1, I1, q1⟩) I.quiet hs
def tRet (te : TE) : TS := fun D σ H => te σ H D.rt
theorem ps_ret (he : PE X e te) : PS X (.Return (some e) pos) (tRet te) := by
  intro pins s σ H D I h
  exact wpAny_Return_some (thn (he pins s σ H _ I h) fun v s1 ⟨x, H1, I1, r1, q1⟩ => ⟨x, σ, H1, I1, r1, q1⟩)
def tRetN : TS := fun D _ H => D.rt .non H
def tIfS (c : TT) (t u : TS) : TS := fun D σ H => c σ H fun b H1 => if b = true then t D σ H1 else u D σ H1
theorem ps_if {c : Expr} {a b : List Stmt} {tc : TT} (hc : PT X c tc) (ha : PSs X a t) (hb : PSs X b u) : PS X (.If c a b pos) (tIfS tc t u) := by
  intro pins s σ H D I h
  refine wpAny_If (thn (hc pins s σ H _ I h) fun d s1 ⟨H1, I1, q1⟩ => ?_)
  cases d with
  | true => exact ha pins s1 σ H1 D I1 q1
  | false => exact hb pins s1 σ H1 D I1 q1
end
abbrev TG := V → St → Hp → (St → Hp → Prop) → Prop
abbrev TGs := List V → St → Hp → (St → Hp → Prop) → Prop
def PG (X : Cx) (target : Expr) (t : TG) : Prop :=
  ∀ (pins : List (Addr × Obj)) (s : Shared) (σ : St) (H : Hp) (v : V) (u : Value) (Q : St → Hp → Prop), Inv X pins σ H s → RelV v u → t v σ H Q →
    wpAny (model X.prog X.w) X.A (assign target X.env u) (fun _ s' => ∃ σ' H', Inv X pins σ' H' s' ∧ Q σ' H') X.xe s
def PGs (X : Cx) (ts : List Expr) (t : TGs) : Prop :=
  ∀ (pins : List (Addr × Obj)) (s : Shared) (σ : St) (H : Hp) (vs : List V) (us : List Value) (Q : St → Hp → Prop), Inv X pins σ H s → Vals vs us → t vs σ H Q →
    wpAny (model X.prog X.w) X.A (assignInOrder ((assignEach ts X.env).map (·.2)) us) (fun _ s' => ∃ σ' H', Inv X pins σ' H' s' ∧ Q σ' H') X.xe s
abbrev TSet := V → V → V → Hp → (Hp → Prop) → Prop
def PSet (X : Cx) (t : TSet) : Prop :=
  ∀ (pins : List (Addr × Obj)) (s : Shared) (σ : St) (H : Hp) (o i v : V) (ov iv u : Value) (Q : Hp → Prop), Inv X pins σ H s → RelV o ov → RelV i iv → RelV v u → t o i v H Q →
    wpAny (model X.prog X.w) X.A (setItem ov iv u) (fun _ s' => ∃ H', Inv X pins σ H' s' ∧ Q H') X.xe s
abbrev TIp := V → V → Hp → VK → Prop
def PIp (X : Cx) (op : Operator) (t : TIp) : Prop :=
  ∀ (pins : List (Addr × Obj)) (s : Shared) (σ : St) (H : Hp) (x y : V) (v u : Value) (Q : VK), Inv X pins σ H s → RelV x v → RelV y u → t x y H Q →
    wpAny (model X.prog X.w) X.A (inplaceOp op v u) (EP X pins σ Q) X.xe s
section
variable {X : Cx} {pos : Pos}
def gName (i : Nat) : TG := fun v σ H Q => Q (σ.set i (some v)) H
theorem pg_name {i : Nat} {x : Str} (hN : X.N.Nodup) (hi : X.N[i]? = some x) (hx : Loc X.env.scope x) (hf : X.fn x = true ∨ X.env.scope.names.lookup x = some .local := by first | exact .inl rfl | exact .inr rfl | assumption) : PG X (.Name x pos) (gName i) := by
  intro pins s σ H v u Q I r h
  exact wpAny_assign_Name (store_ok I hN hi hx r (fun s' I' => ⟨_, H, I', h⟩) hf)
def gNil : TGs := fun vs σ H Q => vs = [] ∧ Q σ H
def gCons (t : TG) (u : TGs) : TGs := fun vs σ H Q => ∃ v r, vs = v :: r ∧ t v σ H fun σ' H' => u r σ' H' Q
theorem pgs_nil : PGs X [] gNil := by
  intro pins s σ H vs us Q I r h
  obtain ⟨e, h⟩ := h
  subst e
  cases r
  exact assignInOrder_nil ⟨σ, H, I, h⟩
theorem pgs_cons {e : Expr} {es : List Expr} {t : TG} {u : TGs} (h1 : PG X e t) (h2 : PGs X es u)
    (hs : (assignEach (e :: es) X.env).map (·.2) = assign e X.env :: (assignEach es X.env).map (·.2) := by rfl) : PGs X (e :: es) (gCons t u) := by
  intro pins s σ H vs us Q I r h
  obtain ⟨v, vr, e1, h⟩ := h
  subst e1
  cases r with
  | cons r rr =>
    rw [hs]
    refine assignInOrder_cons (thn (h1 pins s σ H _ _ _ I r h) fun _ s1 ⟨σ1, H1, I1, q1⟩ => ?_)
    exact h2 pins s1 σ1 H1 _ _ Q I1 rr q1
def gTup (K : PySem.W.Frag) (n : Nat) (t : TGs) : TG := fun v σ H Q => ∃ a xs, v = .ref a ∧ SqT K H a xs ∧ xs.length = n ∧ t xs σ H Q
theorem pg_tup {es : List Expr} {k : Nat} {t : TGs} {n : Nat} (hc : X.calm = true) (h : PGs X es t)
    (hn : (assignEach es X.env).length = n := by rfl) (hst : (assignEach es X.env).findIdx? (·.1) = none := by rfl) : PG X (.Tuple es k pos) (gTup X.K n t) := by
  intro pins s σ H v u Q I r hw
  obtain ⟨a, xs, e1, hq, hl, hw⟩ := hw
  subst e1
  cases r
  obtain ⟨its, rv, ht, hz⟩ := I.tuple hq
  refine assign_Tuple_tuple (I.ok.hd hc) ht (by simp [hn, ← hl, rv.length]) hst fun h' hx => ?_
  have I1 : Inv X pins σ H { s with heap := h' } := I.kept (t' := s.toks) fun b o e => hx b o (Nat.ne_of_lt (Heap.lt_size e)) e
  exact h pins _ σ H xs _ Q I1 (by simpa using rv) hw
def gSub (to ti : TE) (t : TSet) : TG := fun v σ H Q => to σ H fun o H1 => ti σ H1 fun i H2 => t o i v H2 fun H3 => Q σ H3
theorem pg_sub {o i : Expr} {to ti : TE} {t : TSet} (ho : PE X o to) (hi : PE X i ti) (hs : PSet X t)
    (ha : ∀ v, assign (.Subscript o i pos) X.env v = (do
      let ov ← holding [v] (eval o X.env)
      let iv ← holding [v, ov] (eval i X.env)
      standAt pos
      holding [v, ov, iv] (setItem ov iv v)
      release [v, ov, iv] []) := by intro _; rfl) : PG X (.Subscript o i pos) (gSub to ti t) := by
  intro pins s σ H v u Q I r h
  rw [ha]
  refine wpAny_bind (wpAny_holding (thn (ho pins s σ H _ I h) fun ov s1 ⟨x, H1, I1, r1, q1⟩ => ?_))
  refine wpAny_bind (wpAny_holding (thn (hi pins s1 σ H1 _ I1 q1) fun iv s2 ⟨y, H2, I2, r2, q2⟩ => ?_))
  refine wpAny_bind (wpAny_standAt (wpAny_bind (wpAny_holding (thn (hs pins s2 σ H2 x y v ov iv u _ I2 r1 r2 r q2) fun _ s3 ⟨H3, I3, q3⟩ => ?_))))
  exact wpAny_release ⟨σ, H3, I3, q3⟩
def tAsg (te : TE) (g : TG) : TS := fun D σ H => te σ H fun x H1 => g x σ H1 D.nx
theorem ps_asg {tg e : Expr} {te : TE} {g : TG} (he : PE X e te) (hg : PG X tg g) (hs : swapsWithSole [tg] e pos.line X.env = pure false := by rfl) (hw : swappedStores [tg] e X.env = pure none := by rfl)
    (h1 : (assignEach [tg] X.env).map (·.2) = [assign tg X.env] := by rfl) : PS X (.Assign [tg] e pos) (tAsg te g) := by
  intro pins s σ H D I h
  refine wpAny_Assign_stores (thn (he pins s σ H _ I h) fun v s1 ⟨x, H1, I1, r1, q1⟩ => ?_) hs hw
  rw [h1]
  exact thn (hg pins s1 σ H1 x v _ I1 r1 q1) fun _ s2 q => q
theorem ps_set {i : Nat} {x : Str} {e : Expr} {te : TE} {pos' : Pos} (hN : X.N.Nodup) (hi : X.N[i]? = some x) (hx : Loc X.env.scope x) (he : PE X e te) (hs : swapsWith e (some (.Name x pos')) pos.line X.env = pure false := by rfl) (hf : X.fn x = true ∨ X.env.scope.names.lookup x = some .local := by first | exact .inl rfl | exact .inr rfl | assumption) :
    PS X (.Assign [.Name x pos'] e pos) (tAsg te (gName i)) := by
  intro pins s σ H D I h
  refine wpAny_Assign_Name (thn (he pins s σ H _ I h) fun v s1 ⟨y, H1, I1, r1, q1⟩ => ?_) hs
  exact store_ok I1 hN hi hx r1 (fun s2 I2 => ⟨_, H1, I2, q1⟩) hf
def tAug (i : Nat) (te : TE) (ti : TIp) : TS := fun D σ H => ∃ x, σ[i]? = some (some x) ∧ te σ H fun y H1 => ti x y H1 fun z H2 => D.nx (σ.set i (some z)) H2
theorem ps_aug {i : Nat} {x : Str} {e : Expr} {te : TE} {op : Operator} {ti : TIp} {pos' : Pos} (hN : X.N.Nodup) (hi : X.N[i]? = some x) (hx : Loc X.env.scope x) (he : PE X e te) (ho : PIp X op ti) (hf : X.fn x = true ∨ X.env.scope.names.lookup x = some .local := by first | exact .inl rfl | exact .inr rfl | assumption) :
    PS X (.AugAssign (.Name x pos') op e pos) (tAug i te ti) := by
  intro pins s σ H D I h
  obtain ⟨v, e1, h⟩ := h
  obtain ⟨m, hn, hl⟩ := I.loc
  have vis : Vis X.env.scope x := by rcases hx with k | k; exact .inl k; exact .inr (.inl k)
  obtain ⟨u, r, l⟩ := hl i x v hi e1 vis
  refine wpAny_AugAssign_Name ?_
  have go : wpAny (model X.prog X.w) X.A (eval e X.env) (fun w s₂ => wpAny (model X.prog X.w) X.A (inplaceOp op u w) (fun r s₃ => wpAny (model X.prog X.w) X.A (storeName X.env x r) (fun _ => SP X pins D .next) X.xe s₃) X.xe s₂) X.xe s := by
    refine thn (he pins s σ H _ I h) fun w s1 ⟨y, H1, I1, r1, q1⟩ => ?_
    refine thn (ho pins s1 σ H1 v y u w _ I1 r r1 q1) fun z s2 ⟨zv, H2, I2, r2, q2⟩ => ?_
    exact store_ok I2 hN hi hx r2 (fun s3 I3 => ⟨_, H2, I3, q2⟩) hf
  rcases l with ⟨hk, hm⟩ | ⟨hk, c, hc, hcell⟩
  · exact wpAny_loadName_local I.ok.kind hk hn hm go
  · rcases hk with hk | hk
    · exact wpAny_loadName_cell I.ok.kind hk hc hcell go
    · rcases hx with k | k
      · have : X.env.scope.names.lookup x = some .free := hk
        rw [k] at this; cases this
      · have : X.env.scope.names.lookup x = some .free := hk
        rw [k] at this; cases this
def tAugS (to ti te : TE) (tget : V → V → Hp → VK → Prop) (tip : TIp) (tset : TSet) : TS := fun D σ H => to σ H fun o H1 => ti σ H1 fun i H2 => tget o i H2 fun x H3 => te σ H3 fun y H4 => tip x y H4 fun z H5 => tset o i z H5 fun H6 => D.nx σ H6
def PGet (X : Cx) (t : V → V → Hp → VK → Prop) : Prop :=
  ∀ (pins : List (Addr × Obj)) (s : Shared) (σ : St) (H : Hp) (o i : V) (ov iv : Value) (Q : VK), Inv X pins σ H s → RelV o ov → RelV i iv → t o i H Q →
    wpAny (model X.prog X.w) X.A (getItem ov iv) (EP X pins σ Q) X.xe s
theorem ps_augS {o i e : Expr} {to ti te : TE} {tget : V → V → Hp → VK → Prop} {tip : TIp} {tset : TSet} {op : Operator} {tpos : Pos} (ho : PE X o to) (hi : PE X i ti) (hg : PGet X tget) (he : PE X e te) (hp : PIp X op tip) (hs : PSet X tset)
    (ha : ∀ ov iv new, augStore i ov iv new = (do holding [new, ov, iv] (setItem ov iv new); release [new, ov, iv] []; pure .next) := by intros; rfl) : PS X (.AugAssign (.Subscript o i tpos) op e pos) (tAugS to ti te tget tip tset) := by
  intro pins s σ H D I h
  refine wpAny_AugAssign_SubscriptAny (thn (ho pins s σ H _ I h) fun ov s1 ⟨x1, H1, I1, r1, q1⟩ => ?_) ha
  refine thn (hi pins s1 σ H1 _ I1 q1) fun iv s2 ⟨x2, H2, I2, r2, q2⟩ => ?_
  refine thn (hg pins s2 σ H2 x1 x2 ov iv _ I2 r1 r2 q2) fun old s3 ⟨x3, H3, I3, r3, q3⟩ => ?_
  refine thn (he pins s3 σ H3 _ I3 q3) fun v s4 ⟨x4, H4, I4, r4, q4⟩ => ?_
  refine thn (hp pins s4 σ H4 x3 x4 old v _ I4 r3 r4 q4) fun new s5 ⟨x5, H5, I5, r5, q5⟩ => ?_
  exact thn (hs pins s5 σ H5 x1 x2 x5 ov iv new _ I5 r1 r2 r5 q5) fun _ s6 ⟨H6, I6, q6⟩ => ⟨σ, H6, I6, q6⟩
def ipI (f : Int → Int → Int) : TIp := fun x y H Q => ∃ i j, x = .int i ∧ y = .int j ∧ Q (.int (f i j)) H
end
section
variable {X : Cx} {pos : Pos}
def tWhile (c : TT) (tb : TS) : TS := fun D σ H => ∃ W : Nat → St → Hp → Prop, (∃ m, W m σ H) ∧ ∀ m σ H, W m σ H →
  c σ H fun b H1 => if b = true then ∃ N : St → Hp → Prop, (∀ σ' H', N σ' H' → ∃ m', m' < m ∧ W m' σ' H') ∧ tb { D with nx := N, ct := N, bk := D.nx } σ H1 else D.nx σ H1
theorem ps_while {c : Expr} {body : List Stmt} {tc : TT} {tb : TS} (hp : PassesOwn (model X.prog X.w) X.A X.env X.xe) (hc : PT X c tc) (hb : PSs X body tb) : PS X (.While c body [] pos) (tWhile tc tb) := by
  intro pins s σ H D I h
  obtain ⟨W, ⟨m0, w0⟩, turn⟩ := h
  refine wpAny_While (codeAny_whileLoop (fun n s' => ∃ σ' H', Inv X pins σ' H' s' ∧ W n σ' H') ?_ m0 ⟨σ, H, I, w0⟩)
  rintro n s1 ⟨σ1, H1, I1, w1⟩
  refine wpAny_passesOwn hp (thn (hc pins s1 σ1 H1 _ I1 (turn n σ1 H1 w1)) fun b s2 ⟨H2, I2, q2⟩ => ?_)
  cases b with
  | true =>
    obtain ⟨N, hN, q2⟩ := q2
    rw [if_pos rfl]
    refine wpAny_passesOwn hp (thn (hb pins s2 σ1 H2 _ I2 q2) fun f s3 q3 => ?_)
    cases f with
    | next =>
      obtain ⟨σ3, H3, I3, n3⟩ := q3
      obtain ⟨m', hm, w3⟩ := hN σ3 H3 n3
      exact ⟨m', hm, σ3, H3, I3, w3⟩
    | cont =>
      obtain ⟨σ3, H3, I3, n3⟩ := q3
      obtain ⟨m', hm, w3⟩ := hN σ3 H3 n3
      exact ⟨m', hm, σ3, H3, I3, w3⟩
    | brk => exact q3
    | ret v => exact q3
  | false =>
    rw [if_neg Bool.false_ne_true]
    exact wpAny_execs_nil ⟨σ1, H2, I2, q2⟩
end
structure It where
  go : Nat → Hp → Prop
  yld : Nat → Hp → V → Hp → Prop
  stop : Nat → Hp → Prop
def FpOk (X : Cx) (pins : List (Addr × Obj)) (H : Hp) (b : Addr) : Prop :=
  H b = none ∧ b ≠ X.env.locals ∧ b ∉ X.fs ∧ (b ∈ X.ex ∨ X.s₀.heap.objs.size ≤ b) ∧ (∀ x c, X.env.cells.lookup x = some c → c ≠ b) ∧ ∀ p ∈ X.pn ++ pins, p.1 ≠ b
theorem Inv.fpOk {X : Cx} {pins : List (Addr × Obj)} {σ : St} {H H' : Hp} {s : Shared} {b : Addr} (I : Inv X pins σ H s) (hb : s.heap.objs.size ≤ b) (hn : H' b = none) : FpOk X pins H' b := by
  refine ⟨hn, Nat.ne_of_gt (Nat.lt_of_lt_of_le I.lt hb), I.nofs hb, .inr (Nat.le_trans I.sz hb), fun x c e z => ?_, fun p hp z => ?_⟩
  · obtain ⟨v, q⟩ := I.cell x c e
    exact absurd (Nat.lt_of_lt_of_le q.lt (by rw [z]; exact hb)) (Nat.lt_irrefl _)
  · exact absurd (Nat.lt_of_lt_of_le (Heap.lt_size (I.pin p hp).1) (by rw [z]; exact hb)) (Nat.lt_irrefl _)
structure Turn (P : Program) (w : World) (K : PySem.W.Frag) (tg : Expr) (J : It) (fp : List Addr) (it : Addr) (tn : Nat → Heap → Prop) : Prop where
  mem : it ∈ fp
  obj : ∀ i h, tn i h → ∀ b ∈ fp, ∃ o, h.get? b = some o ∧ ∀ v, o.data ≠ .cell v
  keep : ∀ i h h', tn i h → (∀ b ∈ fp, ∀ o, h.get? b = some o → h'.get? b = some o) → tn i h'
  item : ∀ (X : Cx), X.prog = P → X.w = w → X.K = K → X.calm = true → ∀ (i : Nat) (pins : List (Addr × Obj)) (s : Shared) (σ : St) (H : Hp) (E : Value → Shared → Prop), Inv X pins σ H s → (∀ b ∈ fp, FpOk X pins H b) → tn i s.heap → J.go i H →
    wpAny (model P w) X.A (pyNext (.ref it)) (fun r s1 => ∃ u, r = some u ∧
      wpAny (model P w) X.A (letOwnedTupleGo tg (.ref it) u) (fun _ s2 => ∃ x H', Inv X pins σ H' s2 ∧ RelV x u ∧ J.yld i H x H' ∧ tn (i + 1) s2.heap ∧ ∀ b ∈ fp, H' b = none) E s1) E s
  done : ∀ (X : Cx), X.prog = P → X.w = w → X.K = K → X.calm = true → ∀ (i : Nat) (pins : List (Addr × Obj)) (s : Shared) (σ : St) (H : Hp) (E : Value → Shared → Prop), Inv X pins σ H s → (∀ b ∈ fp, FpOk X pins H b) → tn i s.heap → J.stop i H →
    wpAny (model P w) X.A (pyNext (.ref it)) (fun r s1 => r = none ∧ Inv X pins σ H s1) E s
  self : ∀ (A : Around) (i : Nat) (s : Shared) (Q : Value → Shared → Prop) (E : Value → Shared → Prop), tn i s.heap → Q (.ref it) s → wpAny (model P w) A (pyIter (.ref it)) Q E s
abbrev TI := St → Hp → (It → Hp → Prop) → Prop
def PIE (X : Cx) (pins : List (Addr × Obj)) (σ : St) (tg : Expr) (R : It → Hp → Prop) (itv : Value) (s2 : Shared) : Prop :=
  ∃ (it : Addr) (fp : List Addr) (tn : Nat → Heap → Prop) (J : It) (H' : Hp), itv = .ref it ∧ Inv X pins σ H' s2 ∧ Turn X.prog X.w X.K tg J fp it tn ∧ tn 0 s2.heap ∧ (∀ b ∈ fp, FpOk X pins H' b) ∧ R J H'
def PI (X : Cx) (tg iter : Expr) (wi : TI) : Prop :=
  ∀ (pins : List (Addr × Obj)) (s : Shared) (σ : St) (H : Hp) (R : It → Hp → Prop), Inv X pins σ H s → wi σ H R →
    wpAny (model X.prog X.w) X.A (eval iter X.env) (fun v s1 => wpAny (model X.prog X.w) X.A (pyIter v) (PIE X pins σ tg R) X.xe s1) X.xe s
theorem go_of {M : Model} {A : Around} {E : Value → Shared → Prop} {s : Shared} {tg : Expr} {it : Addr} {u : Value} {o : Obj} {n : String} {vs : Array Value} {Q : Unit → Shared → Prop} (ho : s.heap.get? it = some o) (hc : o.cls = .type n) (hd : o.data = .fields vs)
    (hn : ["enumerate", "zip", "dict_itemiterator", "dict_reverseitemiterator", "odict_iterator", "itertools.zip_longest", "itertools.pairwise"].contains n = false) (hQ : Q () s) : wpAny M A (letOwnedTupleGo tg (.ref it) u) Q E s := by
  unfold letOwnedTupleGo
  cases tg <;> first
    | exact wpAny_pure hQ
    | (cases u <;> first
        | exact wpAny_pure hQ
        | (refine wpAny_bind (wpAny_load ho ?_)
           rw [hc, hd]
           show wpAny M A (if (["enumerate", "zip", "dict_itemiterator", "dict_reverseitemiterator", "odict_iterator", "itertools.zip_longest", "itertools.pairwise"].contains n && vs[0]? == some (rawInt _)) = true then _ else _) Q E s
           rw [if_neg (by intro h; rw [hn, Bool.false_and] at h; cases h)]
           exact wpAny_pure hQ))
def Itl (K : PySem.W.Frag) (a : Addr) : It :=
  ⟨fun i H => ∃ xs x, SqL K H a xs ∧ xs[i]? = some x, fun i H x H' => H' = H ∧ ∀ xs, SqL K H a xs → xs[i]? = some x, fun i H => ∃ xs, SqL K H a xs ∧ xs.length ≤ i⟩
def Itt (K : PySem.W.Frag) (a : Addr) : It :=
  ⟨fun i H => ∃ xs x, SqT K H a xs ∧ xs[i]? = some x, fun i H x H' => H' = H ∧ ∀ xs, SqT K H a xs → xs[i]? = some x, fun i H => ∃ xs, SqT K H a xs ∧ xs.length ≤ i⟩
def Itr (lo : Int) (n : Nat) : It := ⟨fun i _ => i < n, fun i H x H' => H' = H ∧ x = .int (lo + i), fun i _ => n ≤ i⟩
theorem turn_list {P : Program} {w : World} {K : PySem.W.Frag} {tg : Expr} (a it : Addr) : Turn P w K tg (Itl K a) [it] it (fun i h => h.IsListIter it a i) where
  mem := by simp
  obj := fun i h st b hb => by
    have e : b = it := by simpa using hb
    subst e
    obtain ⟨o, e, c, d⟩ := st
    exact ⟨o, e, fun v z => by rw [d] at z; cases z⟩
  keep := fun i h h' st k => st.at fun o e => k it (by simp) o e
  item := by
    intro X hP hw hK hc i pins s σ H E I hf st hg
    subst hP hw hK
    obtain ⟨xs, x, hq, hx⟩ := hg
    obtain ⟨its, rv, p, hz⟩ := I.list hq
    obtain ⟨u, hu, ru⟩ := rv.get hx
    obtain ⟨f0, f1, f2, f3, f4, f5⟩ := hf it (by simp)
    refine wpAny_pyNext_list_item st p.isList (x := u) (by simpa using hu) fun h' st' sb => ?_
    have I1 : Inv X pins σ H { s with heap := h' } := I.turned (t' := s.toks) (fun b o hb e => (sb.2 b hb).trans e) f0 f1 f3 f4 f5
    obtain ⟨o, e, c, d⟩ := id st'
    exact ⟨u, rfl, go_of (s := { s with heap := h' }) e c d (by decide) ⟨x, H, I1, ru, ⟨rfl, fun ys hy => by rw [I.list_inj hy hq]; exact hx⟩, st', fun b hb => (hf b hb).1⟩⟩
  done := by
    intro X hP hw hK hc i pins s σ H E I hf st hg
    subst hP hw hK
    obtain ⟨xs, hq, hx⟩ := hg
    obtain ⟨its, rv, p, hz⟩ := I.list hq
    obtain ⟨f0, f1, f2, f3, f4, f5⟩ := hf it (by simp)
    have hl := rv.length
    exact wpAny_pyNext_list_end (I.ok.hd hc) st p.isList (by simp; omega) fun h' eb => ⟨rfl, I.turned (t' := s.toks) (fun b o hb e => eb b o hb e) f0 f1 f3 f4 f5⟩
  self := fun _ _ _ _ _ st h => wpAny_pyIter_listiter st h
theorem turn_tuple {P : Program} {w : World} {K : PySem.W.Frag} {tg : Expr} (a it : Addr) : Turn P w K tg (Itt K a) [it] it (fun i h => h.IsTupleIter it a i) where
  mem := by simp
  obj := fun i h st b hb => by
    have e : b = it := by simpa using hb
    subst e
    obtain ⟨o, e, c, d⟩ := st
    exact ⟨o, e, fun v z => by rw [d] at z; cases z⟩
  keep := fun i h h' st k => st.at fun o e => k it (by simp) o e
  item := by
    intro X hP hw hK hc i pins s σ H E I hf st hg
    subst hP hw hK
    obtain ⟨xs, x, hq, hx⟩ := hg
    obtain ⟨its, rv, p, hz⟩ := I.tuple hq
    obtain ⟨u, hu, ru⟩ := rv.get hx
    obtain ⟨f0, f1, f2, f3, f4, f5⟩ := hf it (by simp)
    refine wpAny_pyNext_tuple_item st (show s.heap.IsTuple a its.toArray from p) (x := u) (by simpa using hu) fun h' st' sb => ?_
    have I1 : Inv X pins σ H { s with heap := h' } := I.turned (t' := s.toks) (fun b o hb e => (sb.2 b hb).trans e) f0 f1 f3 f4 f5
    obtain ⟨o, e, c, d⟩ := id st'
    exact ⟨u, rfl, go_of (s := { s with heap := h' }) e c d (by decide) ⟨x, H, I1, ru, ⟨rfl, fun ys hy => by rw [I.tuple_inj hy hq]; exact hx⟩, st', fun b hb => (hf b hb).1⟩⟩
  done := by
    intro X hP hw hK hc i pins s σ H E I hf st hg
    subst hP hw hK
    obtain ⟨xs, hq, hx⟩ := hg
    obtain ⟨its, rv, p, hz⟩ := I.tuple hq
    obtain ⟨f0, f1, f2, f3, f4, f5⟩ := hf it (by simp)
    have hl := rv.length
    exact wpAny_pyNext_tuple_end (I.ok.hd hc) st (show s.heap.IsTuple a its.toArray from p) (by simp; omega) fun h' eb => ⟨rfl, I.turned (t' := s.toks) (fun b o hb e => eb b o hb e) f0 f1 f3 f4 f5⟩
  self := fun _ _ _ _ _ st h => wpAny_pyIter_tupleiter st h
theorem turn_range {P : Program} {w : World} {K : PySem.W.Frag} {tg : Expr} (it : Addr) (lo : Int) (n : Nat) : Turn P w K tg (Itr lo n) [it] it (fun i h => IsRangeIter h it (lo + (i : Nat) * 1) ((n : Int) - (i : Nat)) 1) where
  mem := by simp
  obj := fun i h st b hb => by
    have e : b = it := by simpa using hb
    subst e
    exact ⟨_, st, fun v z => by
      have z' : Data.fields _ = Data.cell v := z
      cases z'⟩
  keep := fun i h h' st k => k it (by simp) _ st
  item := by
    intro X hP hw hK hc i pins s σ H E I hf st hg
    subst hP hw hK
    obtain ⟨f0, f1, f2, f3, f4, f5⟩ := hf it (by simp)
    have W := Walks.range (prog := X.prog) (w := X.w) (I.ok.hd hc) it lo 1 n
    refine W.item i s _ _ hg st fun v h' tk hv st' kk => ?_
    obtain ⟨t, rfl⟩ := hv
    have I1 : Inv X pins σ H { s with heap := h', toks := tk } := I.turned (fun b o hb e => kk b o (by simpa using hb) e) f0 f1 f3 f4 f5
    refine ⟨_, rfl, go_of (s := { s with heap := h', toks := tk }) (n := "range_iterator") st' rfl rfl (by decide) ⟨.int (lo + i), H, I1, ⟨t, ?_⟩, ⟨rfl, rfl⟩, st', fun b hb => (hf b hb).1⟩⟩
    rw [Int.mul_one]
  done := by
    intro X hP hw hK hc i pins s σ H E I hf st hg
    subst hP hw hK
    obtain ⟨f0, f1, f2, f3, f4, f5⟩ := hf it (by simp)
    exact wpAny_pyNext_range_end (I.ok.hd hc) st (by have : n ≤ i := hg; omega) fun h' eb => ⟨rfl, I.turned (t' := s.toks) (fun b o hb e => eb b o hb e) f0 f1 f3 f4 f5⟩
  self := fun _ _ _ _ _ st h => wpAny_pyIter_rangeiter st h
end L2
namespace L2
open PySem PySem.Spec PyProof.Rows
section
variable {X : Cx} {tg : Expr}
def iList (K : PySem.W.Frag) (tl : TE) : TI := fun σ H R => tl σ H fun x H1 => ∃ a, x = .ref a ∧ (∃ xs, SqL K H1 a xs) ∧ R (Itl K a) H1
def iTup (K : PySem.W.Frag) (tl : TE) : TI := fun σ H R => tl σ H fun x H1 => ∃ a, x = .ref a ∧ (∃ xs, SqT K H1 a xs) ∧ R (Itt K a) H1
theorem pi_list {l : Expr} {tl : TE} (hl : PE X l tl) : PI X tg l (iList X.K tl) := by
  intro pins s σ H R I h
  refine thn (hl pins s σ H _ I h) fun v s1 ⟨x, H1, I1, r1, q1⟩ => ?_
  obtain ⟨a, e, ⟨xs, hq⟩, q⟩ := q1
  subst e
  cases r1
  obtain ⟨its, rv, p, hz⟩ := I1.list hq
  refine wpAny_pyIter_list p.isList ?_
  refine ⟨s1.heap.objs.size, [s1.heap.objs.size], _, _, H1, rfl, I1.kept (t' := s1.toks) fun b o e => Heap.get?_push_of_some _ e, turn_list a _, ⟨_, Heap.get?_push_size _ rfl, rfl, rfl⟩, fun b hb => ?_, q⟩
  have e : b = s1.heap.objs.size := by simpa using hb
  subst e
  exact I1.fpOk (Nat.le_refl _) (I1.hok.fresh (Nat.le_refl _))
theorem pi_tup {l : Expr} {tl : TE} (hl : PE X l tl) : PI X tg l (iTup X.K tl) := by
  intro pins s σ H R I h
  refine thn (hl pins s σ H _ I h) fun v s1 ⟨x, H1, I1, r1, q1⟩ => ?_
  obtain ⟨a, e, ⟨xs, hq⟩, q⟩ := q1
  subst e
  cases r1
  obtain ⟨its, rv, p, hz⟩ := I1.tuple hq
  refine wpAny_pyIter_tuple (show s1.heap.IsTuple a its.toArray from p) ?_
  refine ⟨s1.heap.objs.size, [s1.heap.objs.size], _, _, H1, rfl, I1.kept (t' := s1.toks) fun b o e => Heap.get?_push_of_some _ e, turn_tuple a _, ⟨_, Heap.get?_push_size _ rfl, rfl, rfl⟩, fun b hb => ?_, q⟩
  have e : b = s1.heap.objs.size := by simpa using hb
  subst e
  exact I1.fpOk (Nat.le_refl _) (I1.hok.fresh (Nat.le_refl _))
theorem range_it {pins : List (Addr × Obj)} {σ : St} {H : Hp} {s : Shared} {R : It → Hp → Prop} {E : Value → Shared → Prop} {lo hi : Int} {t u v : Tok} {tk : Nat} (I : Inv X pins σ H s) (h1 : -(2 ^ 62) ≤ lo) (h2 : lo < 2 ^ 62) (h3 : -(2 ^ 62) ≤ hi) (h4 : hi < 2 ^ 62)
    (q : R (Itr lo (hi - lo).toNat) H) : wpAny (model X.prog X.w) X.A (pyIter (.ref s.heap.objs.size)) (PIE X pins σ tg R) E { s with heap := s.heap.push { cls := .type "range", data := .fields #[.int lo t, .int hi u, .int 1 v] }, toks := tk } := by
  refine wpAny_pyIter_range (IsRange.new ..) (small_one h1 h2 h3 h4) ?_
  have I1 : Inv X pins σ H { s with heap := s.heap.push { cls := .type "range", data := .fields #[.int lo t, .int hi u, .int 1 v] }, toks := tk } := I.kept fun b o e => Heap.get?_push_of_some _ e
  refine ⟨(s.heap.push { cls := .type "range", data := .fields #[.int lo t, .int hi u, .int 1 v] }).objs.size, [(s.heap.push { cls := .type "range", data := .fields #[.int lo t, .int hi u, .int 1 v] }).objs.size], _, _, H, rfl,
    I1.kept (t' := tk) fun b o e => Heap.get?_push_of_some _ e, turn_range _ lo (hi - lo).toNat, ?_, fun b hb => ?_, q⟩
  · have e1 : lo + ((0 : Nat) : Int) * 1 = lo := by simp
    have e2 : (((hi - lo).toNat : Nat) : Int) - ((0 : Nat) : Int) = Builtin.Range.rangeSize lo hi 1 := by rw [rangeSize_one]; split <;> omega
    show IsRangeIter _ _ (lo + ((0 : Nat) : Int) * 1) ((((hi - lo).toNat : Nat) : Int) - ((0 : Nat) : Int)) 1
    rw [e1, e2]
    exact Heap.get?_push_size _ rfl
  · have e : b = (s.heap.push { cls := .type "range", data := .fields #[.int lo t, .int hi u, .int 1 v] }).objs.size := by simpa using hb
    subst e
    exact I1.fpOk (Nat.le_refl _) (I1.hok.fresh (Nat.le_refl _))
def iRng1 (ta : TA) : TI := fun σ H R => ta σ H fun vs H1 => ∃ j : Int, vs = [.int j] ∧ -(2 ^ 62) ≤ j ∧ j < 2 ^ 62 ∧ R (Itr 0 j.toNat) H1
def iRng2 (ta : TA) : TI := fun σ H R => ta σ H fun vs H1 => ∃ i j : Int, vs = [.int i, .int j] ∧ (-(2 ^ 62) ≤ i ∧ i < 2 ^ 62 ∧ -(2 ^ 62) ≤ j ∧ j < 2 ^ 62) ∧ R (Itr i (j - i).toNat) H1
theorem pi_range1 {a : Expr} {ta : TA} {p pos : Pos} (hg : Gl X "range") (hm : X.mg "range" = none) (ha : PA X [a] ta) (hs : starEach [a] X.env = [(false, eval a X.env)] := by rfl) : PI X tg (.Call (.Name "range" p) [a] [] pos) (iRng1 ta) := by
  intro pins s σ H R I h
  refine Call_ (ld_blt I hg hm boot_range (PyProof.Rows.callWith_type1 (thn (ha pos pins s σ H _ I h) fun us s1 ⟨vs, H1, I1, r1, q1⟩ => ?_) hs rfl))
  obtain ⟨j, e, q1, q2, q⟩ := q1
  subst e
  cases r1 with
  | cons r rr =>
    cases rr
    obtain ⟨t, rfl⟩ := r
    exact call_range_1 (range_it I1 (by omega) (by omega) q1 q2 (by simpa using q))
theorem pi_range2 {a b : Expr} {ta : TA} {p pos : Pos} (hg : Gl X "range") (hm : X.mg "range" = none) (ha : PA X [a, b] ta) (hs : starEach [a, b] X.env = [(false, eval a X.env), (false, eval b X.env)] := by rfl) (hs2 : starEach [b] X.env = [(false, eval b X.env)] := by rfl) :
    PI X tg (.Call (.Name "range" p) [a, b] [] pos) (iRng2 ta) := by
  intro pins s σ H R I h
  refine Call_ (ld_blt I hg hm boot_range (PyProof.Rows.callWith_type1 (thn (ha pos pins s σ H _ I h) fun us s1 ⟨vs, H1, I1, r1, q1⟩ => ?_) (by rw [hs, hs2]) (by rw [hs2]; rfl)))
  obtain ⟨i, j, e, ⟨q1, q2, q3, q4⟩, q⟩ := q1
  subst e
  cases r1 with
  | cons r rr =>
    cases rr with
    | cons r' rr =>
      cases rr
      obtain ⟨t, rfl⟩ := r
      obtain ⟨t', rfl⟩ := r'
      exact call_range_2 (range_it I1 q1 q2 q3 q4 q)
def tFor (wi : TI) (g : TG) (tb : TS) : TS := fun D σ H => wi σ H fun J H1 => ∃ W : Nat → Nat → St → Hp → Prop, (∃ m, W 0 m σ H1) ∧ ∀ i m σ H, W i m σ H →
  (J.stop i H ∧ D.nx σ H) ∨ (J.go i H ∧ ∃ N : St → Hp → Prop, (∀ σ' H', N σ' H' → ∃ m', m' < m ∧ W (i + 1) m' σ' H') ∧ ∀ x H', J.yld i H x H' → g x σ H' fun σ2 H2 => tb { D with nx := N, ct := N, bk := D.nx } σ2 H2)
def pinsAt (fp : List Addr) (h : Heap) : List (Addr × Obj) := fp.filterMap fun b => (h.get? b).map fun o => (b, o)
theorem mem_pinsAt {fp : List Addr} {h : Heap} {b : Addr} {o : Obj} (hb : b ∈ fp) (e : h.get? b = some o) : (b, o) ∈ pinsAt fp h := List.mem_filterMap.mpr ⟨b, hb, by rw [e]; rfl⟩
theorem of_pinsAt {fp : List Addr} {h : Heap} {p : Addr × Obj} (hp : p ∈ pinsAt fp h) : p.1 ∈ fp ∧ h.get? p.1 = some p.2 := by
  obtain ⟨b, hb, e⟩ := List.mem_filterMap.mp hp
  cases q : h.get? b with
  | none => rw [q] at e; cases e
  | some o =>
    rw [q] at e
    have e' : (b, o) = p := Option.some.inj e
    subst e'
    exact ⟨hb, q⟩
theorem Inv.pinned {pins : List (Addr × Obj)} {σ : St} {H : Hp} {s : Shared} {fp : List Addr} (I : Inv X pins σ H s) (hf : ∀ b ∈ fp, FpOk X pins H b) (ho : ∀ b ∈ fp, ∃ o, s.heap.get? b = some o ∧ ∀ v, o.data ≠ .cell v) : Inv X (pins ++ pinsAt fp s.heap) σ H s :=
  I.pins_of fun p hp => (List.mem_append.mp hp).elim (fun z => I.pin p (List.mem_append_right _ z)) fun z => by
    obtain ⟨hb, e⟩ := of_pinsAt z
    obtain ⟨f0, f1, f2, _⟩ := hf p.1 hb
    obtain ⟨o, e', d⟩ := ho p.1 hb
    rw [e] at e'; cases e'
    exact ⟨e, f0, f1, f2, d⟩
theorem Inv.unpinned {pins pl : List (Addr × Obj)} {σ : St} {H : Hp} {s : Shared} (I : Inv X (pins ++ pl) σ H s) : Inv X pins σ H s := I.pins_of fun p hp => I.pin p (List.mem_append_right _ (List.mem_append_left _ hp))
theorem ps_for {iter : Expr} {body : List Stmt} {wi : TI} {g : TG} {tb : TS} {pos : Pos} (hp : PassesOwn (model X.prog X.w) X.A X.env X.xe) (hc : X.calm = true) (hi : PI X tg iter wi) (hg : PG X tg g) (hb : PSs X body tb)
    (hs : ∀ x, foldedSetIterable iter X.env x = pure x := by intro _; rfl) : PS X (.For tg iter body [] pos) (tFor wi g tb) := by
  intro pins s σ H D I h
  refine wpAny_For (thn (hi pins s σ H _ I h) fun v s1 h1 => thn h1 fun itv s2 h2 => ?_) hs
  obtain ⟨it, fp, tn, J, H2, e, I2, T, st2, f2, W, ⟨m0, w0⟩, turn⟩ := h2
  subst e
  -- what stays true of the iterator's objects through the loop
  have stat : ∀ {H' : Hp}, (∀ b ∈ fp, H' b = none) → ∀ b ∈ fp, FpOk X pins H' b := fun hn b hb => ⟨hn b hb, (f2 b hb).2⟩
  refine codeAny_forLoop_any (fun n s' => ∃ i σ' H', Inv X pins σ' H' s' ∧ tn i s'.heap ∧ (∀ b ∈ fp, H' b = none) ∧ W i n σ' H') ?_ m0 ⟨0, σ, H2, I2, st2, fun b hb => (f2 b hb).1, w0⟩
  rintro n s3 ⟨i, σ3, H3, I3, st3, fr3, w3⟩
  rcases turn i n σ3 H3 w3 with ⟨stop, qn⟩ | ⟨go, N, hN, step⟩
  · refine wpAny_passesOwn hp (thn (T.done X rfl rfl rfl hc i pins s3 σ3 H3 X.xe I3 (stat fr3) st3 stop) fun r s4 ⟨hr, I4⟩ => ?_)
    subst hr
    exact wpAny_execs_nil ⟨σ3, H3, I4, qn⟩
  · refine wpAny_passesOwn hp (thn (T.item X rfl rfl rfl hc i pins s3 σ3 H3 X.xe I3 (stat fr3) st3 go) fun r s4 ⟨u, hr, h4⟩ => ?_)
    subst hr
    refine wpAny_passesOwn hp (thn h4 fun _ s5 ⟨x, H5, I5, r5, y5, st5, fr5⟩ => ?_)
    have I5' := I5.pinned (stat fr5) (T.obj _ _ st5)
    refine wpAny_passesOwn hp (thn (hg _ s5 σ3 H5 x u _ I5' r5 (step x H5 y5)) fun _ s6 ⟨σ6, H6, I6, q6⟩ => ?_)
    refine wpAny_passesOwn hp (thn (hb _ s6 σ6 H6 _ I6 q6) fun f s7 q7 => ?_)
    have again : ∀ {σ7 : St} {H7 : Hp}, Inv X (pins ++ pinsAt fp s5.heap) σ7 H7 s7 → N σ7 H7 → ∃ m, m < n ∧ ∃ i σ' H', Inv X pins σ' H' s7 ∧ tn i s7.heap ∧ (∀ b ∈ fp, H' b = none) ∧ W i m σ' H' := fun {σ7 H7} I7 n7 => by
      obtain ⟨m', hm, w7⟩ := hN σ7 H7 n7
      refine ⟨m', hm, i + 1, σ7, H7, I7.unpinned, T.keep _ _ _ st5 fun b hb o e => (I7.pin (b, o) (List.mem_append_right _ (List.mem_append_right _ (mem_pinsAt hb e)))).1, fun b hb => ?_, w7⟩
      obtain ⟨o, e, d⟩ := T.obj _ _ st5 b hb
      exact (I7.pin (b, o) (List.mem_append_right _ (List.mem_append_right _ (mem_pinsAt hb e)))).2.1
    cases f with
    | next => obtain ⟨σ7, H7, I7, n7⟩ := q7; exact again I7 n7
    | cont => obtain ⟨σ7, H7, I7, n7⟩ := q7; exact again I7 n7
    | brk => obtain ⟨σ7, H7, I7, q7⟩ := q7; exact ⟨σ7, H7, I7.unpinned, q7⟩
    | ret v => obtain ⟨x7, σ7, H7, I7, r7, q7⟩ := q7; exact ⟨x7, σ7, H7, I7.unpinned, r7, q7⟩
end
theorem for_list {K : PySem.W.Frag} {a : Addr} {xs : List V} {g : TG} {tb : TS} {D : Ends} {σ : St} {H : Hp} (Pv : Nat → St → Hp → Prop) (h0 : Pv 0 σ H) (hl : ∀ i σ H, i ≤ xs.length → Pv i σ H → SqL K H a xs)
    (hs : ∀ i x σ H, xs[i]? = some x → Pv i σ H → g x σ H fun σ2 H2 => tb { D with nx := Pv (i + 1), ct := Pv (i + 1), bk := D.nx } σ2 H2) (hd : ∀ σ H, Pv xs.length σ H → D.nx σ H) :
    ∃ W : Nat → Nat → St → Hp → Prop, (∃ m, W 0 m σ H) ∧ ∀ i m σ H, W i m σ H →
      ((Itl K a).stop i H ∧ D.nx σ H) ∨ ((Itl K a).go i H ∧ ∃ N : St → Hp → Prop, (∀ σ' H', N σ' H' → ∃ m', m' < m ∧ W (i + 1) m' σ' H') ∧ ∀ x H', (Itl K a).yld i H x H' → g x σ H' fun σ2 H2 => tb { D with nx := N, ct := N, bk := D.nx } σ2 H2) := by
  refine ⟨fun i m σ H => m = xs.length - i ∧ i ≤ xs.length ∧ Pv i σ H, ⟨xs.length, by simp, Nat.zero_le _, h0⟩, ?_⟩
  rintro i m σ H ⟨rfl, hi, p⟩
  have q := hl i σ H hi p
  by_cases hlt : i < xs.length
  · refine .inr ⟨⟨xs, xs[i], q, by simp [hlt]⟩, Pv (i + 1), fun σ' H' p' => ⟨xs.length - (i + 1), by omega, rfl, hlt, p'⟩, fun x H' y => ?_⟩
    obtain ⟨e, y⟩ := y
    subst e
    exact hs i x σ _ (y xs q) p
  · have e : i = xs.length := by omega
    subst e
    exact .inl ⟨⟨xs, q, Nat.le_refl _⟩, hd σ H p⟩
theorem for_range {lo : Int} {n : Nat} {g : TG} {tb : TS} {D : Ends} {σ : St} {H : Hp} (Pv : Nat → St → Hp → Prop) (h0 : Pv 0 σ H)
    (hs : ∀ i σ H, i < n → Pv i σ H → g (.int (lo + i)) σ H fun σ2 H2 => tb { D with nx := Pv (i + 1), ct := Pv (i + 1), bk := D.nx } σ2 H2) (hd : ∀ σ H, Pv n σ H → D.nx σ H) :
    ∃ W : Nat → Nat → St → Hp → Prop, (∃ m, W 0 m σ H) ∧ ∀ i m σ H, W i m σ H →
      ((Itr lo n).stop i H ∧ D.nx σ H) ∨ ((Itr lo n).go i H ∧ ∃ N : St → Hp → Prop, (∀ σ' H', N σ' H' → ∃ m', m' < m ∧ W (i + 1) m' σ' H') ∧ ∀ x H', (Itr lo n).yld i H x H' → g x σ H' fun σ2 H2 => tb { D with nx := N, ct := N, bk := D.nx } σ2 H2) := by
  refine ⟨fun i m σ H => m = n - i ∧ i ≤ n ∧ Pv i σ H, ⟨n, by simp, Nat.zero_le _, h0⟩, ?_⟩
  rintro i m σ H ⟨rfl, hi, p⟩
  by_cases hlt : i < n
  · refine .inr ⟨hlt, Pv (i + 1), fun σ' H' p' => ⟨n - (i + 1), by omega, rfl, hlt, p'⟩, fun x H' y => ?_⟩
    obtain ⟨e, y⟩ := y
    subst e y
    exact hs i σ _ hlt p
  · have e : i = n := by omega
    subst e
    exact .inl ⟨Nat.le_refl _, hd σ H p⟩
end L2
namespace L2
open PySem PySem.Spec PyProof.Rows
abbrev R2 := V → V → Hp → VK → Prop
def OpR (X : Cx) (f : Value → Value → Sem Value) (r : R2) : Prop :=
  ∀ (pins : List (Addr × Obj)) (s : Shared) (σ : St) (H : Hp) (x y : V) (v u : Value) (Q : VK), Inv X pins σ H s → RelV x v → RelV y u → r x y H Q →
    wpAny (model X.prog X.w) X.A (f v u) (EP X pins σ Q) X.xe s
def UnR (X : Cx) (f : Value → Sem Value) (r : V → Hp → VK → Prop) : Prop :=
  ∀ (pins : List (Addr × Obj)) (s : Shared) (σ : St) (H : Hp) (x : V) (v : Value) (Q : VK), Inv X pins σ H s → RelV x v → r x H Q →
    wpAny (model X.prog X.w) X.A (f v) (EP X pins σ Q) X.xe s
def CallR (X : Cx) (f : Value) (r : List V → Hp → VK → Prop) : Prop :=
  ∀ (pins : List (Addr × Obj)) (s : Shared) (σ : St) (H : Hp) (xs : List V) (us : List Value) (Q : VK), Inv X pins σ H s → Vals xs us → r xs H Q →
    wpAny (model X.prog X.w) X.A (call f us) (EP X pins σ Q) X.xe s
def TruR (X : Cx) (r : V → Hp → (Bool → Hp → Prop) → Prop) : Prop :=
  ∀ (pins : List (Addr × Obj)) (s : Shared) (σ : St) (H : Hp) (x : V) (v : Value) (Q : Bool → Hp → Prop), Inv X pins σ H s → RelV x v → r x H Q →
    wpAny (model X.prog X.w) X.A (truthy v) (TP X pins σ Q) X.xe s
def tOp (r : R2) (ta tb : TE) : TE := fun σ H Q => ta σ H fun x H1 => tb σ H1 fun y H2 => r x y H2 Q
def tUn (r : V → Hp → VK → Prop) (ta : TE) : TE := fun σ H Q => ta σ H fun x H1 => r x H1 Q
def rI (C : Int → Int → Prop) (g : Int → Int → V) : R2 := fun x y H Q => ∃ i j, x = .int i ∧ y = .int j ∧ C i j ∧ Q (g i j) H
def rI0 (g : Int → Int → V) : R2 := fun x y H Q => ∃ i j, x = .int i ∧ y = .int j ∧ Q (g i j) H
def rU (g : Int → V) : V → Hp → VK → Prop := fun x H Q => ∃ i, x = .int i ∧ Q (g i) H
section
variable {X : Cx} {a b c : Expr} {ta tb tc : TE} {pos : Pos}
theorem binT (ha : PE X a ta) (hb : PE X b tb) {pins : List (Addr × Obj)} {s : Shared} {σ : St} {H : Hp} {R : V → V → Hp → Prop} (I : Inv X pins σ H s)
    (h : ta σ H fun x H1 => tb σ H1 fun y H2 => R x y H2) {Q : Value → Shared → Prop} {f : Value → Value → Sem Value}
    (hf : ∀ v u s2 x y H2, Inv X pins σ H2 s2 → RelV x v → RelV y u → R x y H2 → wpAny (model X.prog X.w) X.A (f v u) Q X.xe s2) :
    wpAny (model X.prog X.w) X.A (eval a X.env) (fun v s₁ => wpAny (model X.prog X.w) X.A (eval b X.env) (fun u s₂ => wpAny (model X.prog X.w) X.A (f v u) Q X.xe s₂) X.xe s₁) X.xe s := by
  refine thn (ha pins s σ H _ I h) fun v s1 ⟨x, H1, I1, r1, q1⟩ => ?_
  refine thn (hb pins s1 σ H1 _ I1 q1) fun u s2 ⟨y, H2, I2, r2, q2⟩ => ?_
  exact hf v u s2 x y H2 I2 r1 r2 q2
theorem pe_op {op : Operator} {r : R2} (ho : OpR X (binaryOp op) r) (ha : PE X a ta) (hb : PE X b tb) : PE X (.BinOp a op b pos) (tOp r ta tb) := by
  intro pins s σ H Q I h
  exact wpAny_BinOp (binT ha hb I h fun v u s2 x y H2 I2 rx ry q => ho pins s2 σ H2 x y v u Q I2 rx ry q)
theorem pe_un {op : UnaryOp} {r : V → Hp → VK → Prop} (ho : UnR X (unaryOp op) r) (ha : PE X a ta) : PE X (.UnaryOp op a pos) (tUn r ta) := by
  intro pins s σ H Q I h
  exact UnaryOp_ (thn (ha pins s σ H _ I h) fun v s1 ⟨x, H1, I1, r1, q1⟩ => ho pins s1 σ H1 x v Q I1 r1 q1)
theorem opI {f : Value → Value → Sem Value} {C : Int → Int → Prop} {g : Int → Int → Int}
    (rule : ∀ (i j : Int) (t u : Tok) (s : Shared) (Q : Value → Shared → Prop) (E : Value → Shared → Prop), C i j → Q (.int (g i j) s.toks) { s with toks := s.toks + 1 } → wpAny (model X.prog X.w) X.A (f (.int i t) (.int j u)) Q E s) :
    OpR X f (rI C fun i j => .int (g i j)) := by
  intro pins s σ H x y v u Q I rx ry h
  obtain ⟨i, j, rfl, rfl, hc, q⟩ := h
  obtain ⟨t, rfl⟩ := rx
  obtain ⟨t', rfl⟩ := ry
  exact rule i j t t' s _ _ hc ⟨.int (g i j), H, I.tok _, ⟨_, rfl⟩, q⟩
theorem opI0 {f : Value → Value → Sem Value} {g : Int → Int → Int}
    (rule : ∀ (i j : Int) (t u : Tok) (s : Shared) (Q : Value → Shared → Prop) (E : Value → Shared → Prop), Q (.int (g i j) s.toks) { s with toks := s.toks + 1 } → wpAny (model X.prog X.w) X.A (f (.int i t) (.int j u)) Q E s) :
    OpR X f (rI0 fun i j => .int (g i j)) := by
  intro pins s σ H x y v u Q I rx ry h
  obtain ⟨i, j, rfl, rfl, q⟩ := h
  obtain ⟨t, rfl⟩ := rx
  obtain ⟨t', rfl⟩ := ry
  exact rule i j t t' s _ _ ⟨.int (g i j), H, I.tok _, ⟨_, rfl⟩, q⟩
theorem opB0 {f : Value → Value → Sem Value} {g : Int → Int → Bool}
    (rule : ∀ (i j : Int) (t u : Tok) (s : Shared) (Q : Value → Shared → Prop) (E : Value → Shared → Prop), Q (.bool (g i j)) s → wpAny (model X.prog X.w) X.A (f (.int i t) (.int j u)) Q E s) :
    OpR X f (rI0 fun i j => .bl (g i j)) := by
  intro pins s σ H x y v u Q I rx ry h
  obtain ⟨i, j, rfl, rfl, q⟩ := h
  obtain ⟨t, rfl⟩ := rx
  obtain ⟨t', rfl⟩ := ry
  exact rule i j t t' s _ _ ⟨.bl (g i j), H, I, rfl, q⟩
def CDiv (i j : Int) : Prop := 0 < j ∧ j < 1073741824
def CPow (i j : Int) : Prop := 0 ≤ j ∧ j ≤ 1000000 ∧ i.natAbs < 2 ^ 64
def CMul (i j : Int) : Prop := (-(2 ^ 64) < i ∧ i < 2 ^ 64) ∨ (-(2 ^ 64) < j ∧ j < 2 ^ 64)
theorem CMul.ok {i j : Int} (h : CMul i j) : IntMulOk i j := by
  rcases h with ⟨h1, h2⟩ | ⟨h1, h2⟩
  · exact .of_left (intBits_le_64 h1 h2)
  · exact .of_right (intBits_le_64 h1 h2)
theorem op_add : OpR X (binaryOp .Add) (rI0 fun i j => .int (i + j)) := opI0 fun _ _ _ _ _ _ _ q => add_int q
theorem op_sub : OpR X (binaryOp .Sub) (rI0 fun i j => .int (i - j)) := opI0 fun _ _ _ _ _ _ _ q => sub_int q
theorem op_mul : OpR X (binaryOp .Mult) (rI CMul fun i j => .int (i * j)) := opI fun _ _ _ _ _ _ _ hc q => mul_int q hc.ok
theorem op_fdiv : OpR X (binaryOp .FloorDiv) (rI CDiv fun i j => .int (i / j)) := opI fun i j _ _ _ _ _ hc q => by
  have h1 : (0 : Int) < j := hc.1
  have h2 : j < 1073741824 := hc.2
  exact floordiv_int (by omega) (by rw [Int.fdiv_eq_ediv_of_nonneg i (by omega)]; exact q) (.inl (PyProof.noPylong_small (by omega)))
theorem op_mod : OpR X (binaryOp .Mod) (rI (fun _ j => 0 < j) fun i j => .int (i % j)) := opI fun i j _ _ _ _ _ hc q => by
  have h1 : (0 : Int) < j := hc
  exact mod_int' (by omega) (by rw [Int.fmod_eq_emod_of_nonneg i (by omega)]; exact q)
theorem op_pow : OpR X (binaryOp .Pow) (rI CPow fun i j => .int (i ^ j.toNat)) := opI fun _ _ _ _ _ _ _ hc q => pow_int_small hc.1 hc.2.1 hc.2.2 q
theorem op_shl : OpR X (binaryOp .LShift) (rI CPow fun i j => .int (i * 2 ^ j.toNat)) := opI fun _ _ _ _ _ _ _ hc q => lshift_int_small hc.1 hc.2.1 hc.2.2 q
theorem op_and : OpR X (binaryOp .BitAnd) (rI0 fun i j => .int (Builtin.bitAnd i j)) := opI0 fun _ _ _ _ _ _ _ q => and_int q
theorem unI {f : Value → Sem Value} {g : Int → Int}
    (rule : ∀ (i : Int) (t : Tok) (s : Shared) (Q : Value → Shared → Prop) (E : Value → Shared → Prop), Q (.int (g i) s.toks) { s with toks := s.toks + 1 } → wpAny (model X.prog X.w) X.A (f (.int i t)) Q E s) :
    UnR X f (rU fun i => .int (g i)) := by
  intro pins s σ H x v Q I rx h
  obtain ⟨i, rfl, q⟩ := h
  obtain ⟨t, rfl⟩ := rx
  exact rule i t s _ _ ⟨.int (g i), H, I.tok _, ⟨_, rfl⟩, q⟩
theorem un_neg : UnR X (unaryOp .USub) (rU fun i => .int (-i)) := unI fun _ _ _ _ _ q => neg_int q
end
def scal : V → V → Bool
  | .non, .non => true | .non, .int _ => true | .int _, .non => true | .non, .bl _ => true | .bl _, .non => true | .non, .str _ => true | .str _, .non => true
  | .int _, .int _ => true | .bl _, .bl _ => true | .str _, .str _ => true | .byt _, .byt _ => true
  | .int _, .str _ => true | .str _, .int _ => true | .bl _, .str _ => true | .str _, .bl _ => true
  | _, _ => false
def rEq : R2 := fun x y H Q => scal x y = true ∧ Q (.bl (decide (x = y))) H
def rNe : R2 := fun x y H Q => scal x y = true ∧ Q (.bl (!decide (x = y))) H
theorem dec_int {i j : Int} : decide (V.int i = V.int j) = (i == j) := by
  rw [Bool.eq_iff_iff]
  simp
theorem dec_bl {i j : Bool} : decide (V.bl i = V.bl j) = (i == j) := by
  rw [Bool.eq_iff_iff]
  simp
theorem dec_str {i j : Str} : decide (V.str i = V.str j) = (i == j) := by
  rw [Bool.eq_iff_iff]
  simp
theorem dec_byt {i j : Array UInt8} : decide (V.byt i = V.byt j) = (i.toList == j.toList) := by
  rw [Bool.eq_iff_iff]
  cases i
  cases j
  simp
section
variable {X : Cx} {a b c : Expr} {ta tb tc : TE} {pos : Pos}
theorem fin_bl {pins : List (Addr × Obj)} {σ : St} {H : Hp} {s : Shared} {Q : VK} {k k' : Bool} (I : Inv X pins σ H s) (q : Q (.bl k) H) (e : k = k') : EP X pins σ Q (.bool k') s := by
  subst e
  exact ⟨.bl k, H, I, rfl, q⟩
theorem op_eq : OpR X (compareOp .Eq) rEq := by
  intro pins s σ H x y v u Q I rx ry h
  obtain ⟨hs, q⟩ := h
  cases x with
  | non =>
    cases rx
    cases y with
    | non => cases ry; exact PySem.EqNone.eq_none_none (fin_bl I q (by simp))
    | bl j => cases ry; exact PySem.EqNone.eq_none_bool (fin_bl I q (by simp))
    | int j => obtain ⟨t', rfl⟩ := ry; exact PySem.EqNone.eq_none_int (fin_bl I q (by simp))
    | str j => obtain ⟨t', rfl⟩ := ry; exact PySem.EqNone.eq_none_str (fin_bl I q (by simp))
    | _ => exact absurd (show false = true from hs) Bool.false_ne_true
  | bl i =>
    cases rx
    cases y with
    | non => cases ry; exact PySem.EqNone.eq_bool_none (fin_bl I q (by simp))
    | bl j => cases ry; exact eq_bool (fin_bl I q dec_bl)
    | str j => obtain ⟨t', rfl⟩ := ry; exact PySem.EqMixed.eq_bool_str (fin_bl I q (by simp))
    | _ => exact absurd (show false = true from hs) Bool.false_ne_true
  | int i =>
    obtain ⟨t, rfl⟩ := rx
    cases y with
    | non => cases ry; exact PySem.EqNone.eq_int_none (fin_bl I q (by simp))
    | int j => obtain ⟨t', rfl⟩ := ry; exact eq_int (fin_bl I q dec_int)
    | str j => obtain ⟨t', rfl⟩ := ry; exact PySem.EqMixed.eq_int_str (fin_bl I q (by simp))
    | _ => exact absurd (show false = true from hs) Bool.false_ne_true
  | str i =>
    obtain ⟨t, rfl⟩ := rx
    cases y with
    | non => cases ry; exact PySem.EqNone.eq_str_none (fin_bl I q (by simp))
    | bl j => cases ry; exact PySem.EqMixed.eq_str_bool (fin_bl I q (by simp))
    | int j => obtain ⟨t', rfl⟩ := ry; exact PySem.EqMixed.eq_str_int (fin_bl I q (by simp))
    | str j => obtain ⟨t', rfl⟩ := ry; exact eq_str (fin_bl I q dec_str)
    | _ => exact absurd (show false = true from hs) Bool.false_ne_true
  | byt i =>
    obtain ⟨t, rfl⟩ := rx
    cases y with
    | byt j => obtain ⟨t', rfl⟩ := ry; exact PySem.W.eq_bytes (fin_bl I q dec_byt)
    | _ => exact absurd (show false = true from hs) Bool.false_ne_true
  | _ => cases y <;> exact absurd (show false = true from hs) Bool.false_ne_true
theorem op_ne : OpR X (compareOp .NotEq) rNe := by
  intro pins s σ H x y v u Q I rx ry h
  obtain ⟨hs, q⟩ := h
  cases x with
  | non =>
    cases rx
    cases y with
    | non => cases ry; exact PySem.EqNone.ne_none_none (fin_bl I q (by simp))
    | bl j => cases ry; exact PySem.EqNone.ne_none_bool (fin_bl I q (by simp))
    | int j => obtain ⟨t', rfl⟩ := ry; exact PySem.EqNone.ne_none_int (fin_bl I q (by simp))
    | str j => obtain ⟨t', rfl⟩ := ry; exact PySem.EqNone.ne_none_str (fin_bl I q (by simp))
    | _ => exact absurd (show false = true from hs) Bool.false_ne_true
  | bl i =>
    cases rx
    cases y with
    | non => cases ry; exact PySem.EqNone.ne_bool_none (fin_bl I q (by simp))
    | bl j => cases ry; exact ne_bool (fin_bl I q (congrArg not dec_bl))
    | str j => obtain ⟨t', rfl⟩ := ry; exact PySem.EqMixed.ne_bool_str (fin_bl I q (by simp))
    | _ => exact absurd (show false = true from hs) Bool.false_ne_true
  | int i =>
    obtain ⟨t, rfl⟩ := rx
    cases y with
    | non => cases ry; exact PySem.EqNone.ne_int_none (fin_bl I q (by simp))
    | int j => obtain ⟨t', rfl⟩ := ry; exact ne_int (fin_bl I q (congrArg not dec_int))
    | str j => obtain ⟨t', rfl⟩ := ry; exact PySem.EqMixed.ne_int_str (fin_bl I q (by simp))
    | _ => exact absurd (show false = true from hs) Bool.false_ne_true
  | str i =>
    obtain ⟨t, rfl⟩ := rx
    cases y with
    | non => cases ry; exact PySem.EqNone.ne_str_none (fin_bl I q (by simp))
    | bl j => cases ry; exact PySem.EqMixed.ne_str_bool (fin_bl I q (by simp))
    | int j => obtain ⟨t', rfl⟩ := ry; exact PySem.EqMixed.ne_str_int (fin_bl I q (by simp))
    | str j => obtain ⟨t', rfl⟩ := ry; exact ne_str (fin_bl I q (congrArg not dec_str))
    | _ => exact absurd (show false = true from hs) Bool.false_ne_true
  | byt i =>
    obtain ⟨t, rfl⟩ := rx
    cases y with
    | byt j => obtain ⟨t', rfl⟩ := ry; exact PySem.W.ne_bytes (fin_bl I q (congrArg not dec_byt))
    | _ => exact absurd (show false = true from hs) Bool.false_ne_true
  | _ => cases y <;> exact absurd (show false = true from hs) Bool.false_ne_true
theorem op_lt : OpR X (compareOp .Lt) (rI0 fun i j => .bl (decide (i < j))) := opB0 fun _ _ _ _ _ _ _ q => lt_int q
theorem op_le : OpR X (compareOp .LtE) (rI0 fun i j => .bl (decide (i ≤ j))) := opB0 fun _ _ _ _ _ _ _ q => le_int q
theorem op_ge : OpR X (compareOp .GtE) (rI0 fun i j => .bl (decide (j ≤ i))) := opB0 fun _ _ _ _ _ _ _ q => ge_int q
theorem op_lt_str : OpR X (compareOp .Lt) (fun x y H Q => ∃ i j, x = .str i ∧ y = .str j ∧ Q (.bl (decide (i.cps.toList < j.cps.toList))) H) := by
  intro pins s σ H x y v u Q I rx ry h
  obtain ⟨i, j, rfl, rfl, q⟩ := h
  obtain ⟨t, rfl⟩ := rx
  obtain ⟨t', rfl⟩ := ry
  exact lt_str (fin_bl I q rfl)
theorem op_in_str : OpR X (compareOp .In) (fun x y H Q => ∃ i j, x = .str i ∧ y = .str j ∧ Q (.bl (!(Builtin.Str.occurrences j i 0 j.length 1).isEmpty)) H) := by
  intro pins s σ H x y v u Q I rx ry h
  obtain ⟨i, j, rfl, rfl, q⟩ := h
  obtain ⟨t, rfl⟩ := rx
  obtain ⟨t', rfl⟩ := ry
  exact in_str (fin_bl I q rfl)
theorem OpR.or {f : Value → Value → Sem Value} {r r' : R2} (h : OpR X f r) (h' : OpR X f r') : OpR X f (fun x y H Q => r x y H Q ∨ r' x y H Q) := by
  intro pins s σ H x y v u Q I rx ry q
  rcases q with q | q
  · exact h pins s σ H x y v u Q I rx ry q
  · exact h' pins s σ H x y v u Q I rx ry q
theorem nomark (b : Expr) {op : CmpOp} (h : op ≠ .In := by decide) (h2 : op ≠ .NotIn := by decide) : behindInMarks op b = false := by
  have e1 : (op == CmpOp.In) = false := by cases op <;> first | rfl | exact absurd rfl h
  have e2 : (op == CmpOp.NotIn) = false := by cases op <;> first | rfl | exact absurd rfl h2
  cases b <;> simp [behindInMarks, e1, e2]
theorem pe_cmpR {op : CmpOp} {r : R2} (ho : OpR X (compareOp op) r) (ha : PE X a ta) (hb : PE X b tb) (hm : behindInMarks op b = false) : PE X (.Compare a [op] [b] pos) (tOp r ta tb) := by
  intro pins s σ H Q I h
  exact wpAny_Compare1 (binT ha hb I h fun v u s2 x y H2 I2 rx ry q => ho pins s2 σ H2 x y v u Q I2 rx ry q) hm
def tTest (t : TE) : TT := fun σ H Q => t σ H fun x H' => ∃ k, x = .bl k ∧ Q k H'
theorem pt_cmpR {op : CmpOp} {r : R2} (ho : OpR X (compareOp op) r) (ha : PE X a ta) (hb : PE X b tb) (hm : behindInMarks op b = false) : PT X (.Compare a [op] [b] pos) (tTest (tOp r ta tb)) := by
  intro pins s σ H Q I h
  refine wpAny_isTrue_Compare1 (thn (ha pins s σ H _ I h) fun v s1 ⟨x, H1, I1, r1, q1⟩ => thn (hb pins s1 σ H1 _ I1 q1) fun u s2 ⟨y, H2, I2, r2, q2⟩ =>
    thn (ho pins s2 σ H2 x y v u _ I2 r1 r2 q2) fun c s3 ⟨z, H3, I3, r3, k, e, q3⟩ => ?_) hm
  subst e
  cases r3
  exact wpAny_truthy_bool ⟨H3, I3, q3⟩
def tChain (r r' : R2) (ta tb tc : TE) : TE := fun σ H Q => ta σ H fun x H1 => tb σ H1 fun y H2 => r x y H2 fun z H3 => ∃ k, z = .bl k ∧
  (if k = true then tc σ H3 fun w' H4 => r' y w' H4 Q else Q (.bl false) H3)
theorem pe_chain {op op' : CmpOp} {r r' : R2} (ho : OpR X (compareOp op) r) (ho' : OpR X (compareOp op') r') (ha : PE X a ta) (hb : PE X b tb) (hc : PE X c tc)
    (hm : lastMarks [op, op'] [b, c] = false := by with_unfolding_all rfl) : PE X (.Compare a [op, op'] [b, c] pos) (tChain r r' ta tb tc) := by
  intro pins s σ H Q I h
  refine Compare_chain (thn (ha pins s σ H _ I h) fun v s1 ⟨x, H1, I1, r1, q1⟩ => chain_link (thn (hb pins s1 σ H1 _ I1 q1) fun u s2 ⟨y, H2, I2, r2, q2⟩ =>
    thn (ho pins s2 σ H2 x y v u _ I2 r1 r2 q2) fun d s3 ⟨z, H3, I3, r3, k, e, q3⟩ => ?_)) hm
  subst e
  cases r3
  refine wpAny_truthy_bool ?_
  cases k with
  | false => exact ite_ff ⟨.bl false, H3, I3, rfl, q3⟩
  | true => exact ite_tt (chain_last (thn (hc pins s3 σ H3 _ I3 q3) fun w' s4 ⟨z', H4, I4, r4, q4⟩ => ho' pins s4 σ H4 y z' u w' Q I4 r2 r4 q4))
theorem pt_chain {op op' : CmpOp} {r r' : R2} (ho : OpR X (compareOp op) r) (ho' : OpR X (compareOp op') r') (ha : PE X a ta) (hb : PE X b tb) (hc : PE X c tc)
    (hm : lastMarks [op, op'] [b, c] = false := by with_unfolding_all rfl) : PT X (.Compare a [op, op'] [b, c] pos) (tTest (tChain r r' ta tb tc)) := by
  intro pins s σ H Q I h
  refine isTrue_chain (thn (ha pins s σ H _ I h) fun v s1 ⟨x, H1, I1, r1, q1⟩ => test_link (thn (hb pins s1 σ H1 _ I1 q1) fun u s2 ⟨y, H2, I2, r2, q2⟩ =>
    thn (ho pins s2 σ H2 x y v u _ I2 r1 r2 q2) fun d s3 ⟨z, H3, I3, r3, k, e, q3⟩ => ?_)) hm
  subst e
  cases r3
  refine wpAny_truthy_bool ?_
  cases k with
  | false =>
    obtain ⟨k', e', q'⟩ := q3
    cases e'
    exact ite_ff ⟨H3, I3, q'⟩
  | true =>
    refine ite_tt (test_last (thn (hc pins s3 σ H3 _ I3 q3) fun w' s4 ⟨z', H4, I4, r4, q4⟩ => thn (ho' pins s4 σ H4 y z' u w' _ I4 r2 r4 q4) fun d' s5 ⟨z2, H5, I5, r5, k2, e2, q5⟩ => ?_))
    subst e2
    cases r5
    exact wpAny_truthy_bool ⟨H5, I5, q5⟩
def TruV (K : PySem.W.Frag) (x : V) (H : Hp) (k : Bool) : Prop :=
  match x with
  | .non => k = false
  | .bl b => k = b
  | .int i => k = (i != 0)
  | .str y => y.length ≤ sizeLine ∧ k = ((y.length : Int) != 0)
  | .byt y => y.size ≤ sizeLine ∧ k = ((y.size : Int) != 0)
  | .ref p => (∃ xs, SqL K H p xs ∧ k = !xs.isEmpty) ∨ (∃ xs, SqT K H p xs ∧ k = !xs.isEmpty) ∨ ∃ kvs, H p = some (.dK kvs) ∧ k = !kvs.isEmpty
  | _ => False
theorem isEmpty_kv {κ : Type} {kvs : List (κ × V)} {vs : List (κ × Value)} (r : KV kvs vs) : (!vs.isEmpty) = !kvs.isEmpty := by
  cases r <;> rfl
theorem isEmpty_of {xs : List V} {its : List Value} (r : Vals xs its) : (!its.toArray.isEmpty) = !xs.isEmpty := by
  cases r <;> simp
theorem line63 : (sizeLine : Nat) < 2 ^ 63 := by rw [sizeLine_eq]; decide
theorem tru_ok : TruR X (fun x H Q => ∃ k, TruV X.K x H k ∧ Q k H) := by
  intro pins s σ H x v Q I rx h
  obtain ⟨k, e, q⟩ := h
  have hl := line63
  have hs : sizeLine = 16777216 := sizeLine_eq
  cases x with
  | non =>
    cases rx
    have e' : k = false := e
    subst e'
    exact truthy_none ⟨H, I, q⟩
  | bl b =>
    cases rx
    have e' : k = b := e
    subst e'
    exact wpAny_truthy_bool ⟨H, I, q⟩
  | int i =>
    obtain ⟨t, rfl⟩ := rx
    have e' : k = (i != 0) := e
    subst e'
    exact PySem.P.truthy_int ⟨H, I, q⟩
  | str y =>
    obtain ⟨t, rfl⟩ := rx
    obtain ⟨hy, e'⟩ : y.length ≤ sizeLine ∧ k = ((y.length : Int) != 0) := e
    subst e'
    exact PySem.P.truthy_str (by omega) ⟨H, I.tok _, q⟩
  | byt y =>
    obtain ⟨t, rfl⟩ := rx
    obtain ⟨hy, e'⟩ : y.size ≤ sizeLine ∧ k = ((y.size : Int) != 0) := e
    subst e'
    exact PySem.W.truthy_bytes (by omega) ⟨H, I.tok _, q⟩
  | ref p =>
    cases rx
    have e' : (∃ xs, SqL X.K H p xs ∧ k = !xs.isEmpty) ∨ (∃ xs, SqT X.K H p xs ∧ k = !xs.isEmpty) ∨ ∃ kvs, H p = some (.dK kvs) ∧ k = !kvs.isEmpty := e
    rcases e' with ⟨xs, hx, e'⟩ | ⟨xs, hx, e'⟩ | ⟨kvs, hx, e'⟩
    · subst e'
      obtain ⟨its, r, pl, hz⟩ := I.list hx
      have hlen := r.length
      exact wpAny_truthy_list pl.isList (by simp only [List.size_toArray]; omega) ⟨H, I.tok _, by rw [isEmpty_of r]; exact q⟩
    · subst e'
      obtain ⟨its, r, pl, hz⟩ := I.tuple hx
      have hlen := r.length
      exact truthy_tuple pl (by simp only [List.size_toArray]; omega) ⟨H, I.tok _, by rw [isEmpty_of r]; exact q⟩
    · subst e'
      obtain ⟨hz, hS, vs, r, m⟩ : kvs.length ≤ sizeLine ∧ (p == sysModules) = false ∧ ∃ vs, KV kvs vs ∧ s.heap.DictOf (mixKind X.prog X.w) p vs := I.hok p _ hx
      have hlen : kvs.length = vs.length := Paired.length r
      exact wpAny_truthy_dict hS m (by omega) ⟨H, I.tok _, by rw [isEmpty_kv r]; exact q⟩
  | _ => exact (show False from e).elim
theorem pt_truth (ha : PE X a ta) (he : ∀ whole, isTrue a X.env whole = (do let v ← whole; standAt a.pos; holding [v] (truthy v))) :
    PT X a (fun σ H Q => ta σ H fun x H' => ∃ k, TruV X.K x H' k ∧ Q k H') := by
  intro pins s σ H Q I h
  exact isTrue_plain (thn (ha pins s σ H _ I h) fun v s1 ⟨x, H1, I1, r1, q1⟩ => tru_ok pins s1 σ H1 x v Q I1 r1 q1) (he _)
theorem op_add_str : OpR X (binaryOp .Add) (fun x y H Q => ∃ i j, x = .str i ∧ y = .str j ∧ i.length + j.length ≤ sizeLine ∧ Q (.str (i ++ j)) H) := by
  intro pins s σ H x y v u Q I rx ry h
  obtain ⟨i, j, rfl, rfl, hz, q⟩ := h
  obtain ⟨t, rfl⟩ := rx
  obtain ⟨t', rfl⟩ := ry
  exact add_str (fun t' tk => ⟨.str (i ++ j), H, I.tok _, ⟨_, rfl⟩, q⟩) hz
theorem vals1 {x : V} {us : List Value} (r : Vals [x] us) : ∃ u, us = [u] ∧ RelV x u := by
  cases r with
  | cons r1 r2 => cases r2; exact ⟨_, rfl, r1⟩
theorem vals2 {x y : V} {us : List Value} (r : Vals [x, y] us) : ∃ u w', us = [u, w'] ∧ RelV x u ∧ RelV y w' := by
  cases r with
  | cons r1 r2 =>
    cases r2 with
    | cons r3 r4 => cases r4; exact ⟨_, _, rfl, r1, r3⟩
theorem call_max2 (hc : X.calm = true) : CallR X (.builtin "max") (fun xs H Q => ∃ i j, xs = [.int i, .int j] ∧ Q (.int (if j > i then j else i)) H) := by
  intro pins s σ H xs us Q I r h
  obtain ⟨i, j, rfl, q⟩ := h
  obtain ⟨u, w', rfl, ⟨t, rfl⟩, ⟨t', rfl⟩⟩ := vals2 r
  refine max_two_ints (I.ok.hd hc) fun h' tk k => ⟨_, H, I.kept k, ?_, q⟩
  by_cases hj : j > i
  · rw [if_pos hj, if_pos hj]; exact ⟨_, rfl⟩
  · rw [if_neg hj, if_neg hj]; exact ⟨_, rfl⟩
def LenV (K : PySem.W.Frag) (x : V) (H : Hp) (n : Nat) : Prop :=
  match x with
  | .str y => y.length ≤ sizeLine ∧ n = y.length
  | .byt y => y.size ≤ sizeLine ∧ n = y.size
  | .ref p => (∃ xs, SqL K H p xs ∧ n = xs.length) ∨ ∃ xs, SqT K H p xs ∧ n = xs.length
  | _ => False
theorem call_len : CallR X (.builtin "len") (fun xs H Q => ∃ x n, xs = [x] ∧ LenV X.K x H n ∧ Q (.int n) H) := by
  intro pins s σ H xs us Q I r h
  obtain ⟨x, n, rfl, e, q⟩ := h
  obtain ⟨u, rfl, rx⟩ := vals1 r
  have hl := line63
  have hs : sizeLine = 16777216 := sizeLine_eq
  cases x with
  | str y =>
    obtain ⟨t, rfl⟩ := rx
    obtain ⟨hy, e'⟩ : y.length ≤ sizeLine ∧ n = y.length := e
    subst e'
    exact len_str (by omega) ⟨.int _, H, I.tok _, ⟨_, rfl⟩, q⟩
  | byt y =>
    obtain ⟨t, rfl⟩ := rx
    obtain ⟨hy, e'⟩ : y.size ≤ sizeLine ∧ n = y.size := e
    subst e'
    exact PySem.W.len_bytes (by omega) ⟨.int _, H, I.tok _, ⟨_, rfl⟩, q⟩
  | ref p =>
    cases rx
    have e' : (∃ xs, SqL X.K H p xs ∧ n = xs.length) ∨ ∃ xs, SqT X.K H p xs ∧ n = xs.length := e
    rcases e' with ⟨xs, hx, e'⟩ | ⟨xs, hx, e'⟩
    · subst e'
      obtain ⟨its, r', pl, hz⟩ := I.list hx
      have hlen := r'.length
      exact Calls.call_len_list pl.isList (by simp only [List.size_toArray]; omega) ⟨.int xs.length, H, I.tok _, ⟨_, by simp only [List.size_toArray]; rw [hlen]⟩, q⟩
    · subst e'
      obtain ⟨its, r', pl, hz⟩ := I.tuple hx
      have hlen := r'.length
      exact len_tuple pl (by simp only [List.size_toArray]; omega) ⟨.int xs.length, H, I.tok _, ⟨_, by simp only [List.size_toArray]; rw [hlen]⟩, q⟩
  | _ => exact (show False from e).elim
end
end L2
namespace L2
open PySem PySem.Spec PyProof.Rows
structure ObjM (h : Heap) (x dx C : Addr) (mA : Str → Option Value) : Prop where
  obj : h.get? x = some (PySem.W.instObj C dx)
  ns : h.Ns1 dx mA
  ne : dx ≠ x
theorem lookIn_ns {h : Heap} {dx : Addr} {mA : Str → Option Value} (n : h.Ns1 dx mA) : ∃ od, h.get? dx = some od ∧ ∀ name, PySem.W.lookIn name od = some (mA name) := by
  obtain ⟨o, es, ep, ho, hd, hk, _, hm⟩ := n
  refine ⟨o, ho, fun name => ?_⟩
  have e := hm name
  unfold nsFind findBy at e
  rw [← Array.find?_toList] at e
  unfold PySem.W.lookIn
  rw [hd]
  dsimp only
  split
  · rename_i y q
    rw [q] at e
    exact congrArg some e
  · rename_i q
    rw [q] at e
    have a : es.toList.any (·.refKey) = false := by
      rw [List.any_eq_false]
      intro y hy
      obtain ⟨z, t, hkey⟩ := hk y (Array.mem_toList_iff.mp hy)
      simp [DictEntry.refKey, hkey]
    have a' : ¬ es.toList.any (·.refKey) = true := by rw [a]; exact Bool.false_ne_true
    rw [if_neg a']
    exact congrArg some e
theorem ObjM.look {h : Heap} {x dx C : Addr} {mA : Str → Option Value} (I : ObjM h x dx C mA) : ∃ od, PySem.W.InstAt h x (PySem.W.instObj C dx) C (some od) ∧ ∀ name, PySem.W.lookIn name od = some (mA name) :=
  let ⟨od, ho, hl⟩ := lookIn_ns I.ns
  ⟨od, ⟨I.obj, rfl, rfl, ho⟩, hl⟩
section
variable {prog : Program} {w : World} {A : Around} {E : Value → Shared → Prop} {s : Shared} {K : PySem.W.Frag} {x dx C f : Addr} {mA : Str → Option Value} {name : Str} {v : Value}
theorem get_map {expr : Bool} {Q : Value → Shared → Prop} (X : K.In s.heap) (I : ObjM s.heap x dx C mA) (hg : PySem.W.plainGet K C name = true) (hh : PySem.W.hasDictIn K C = true)
    (ha : PySem.W.findIn K (.ref C) name = some none) (hv : mA name = some v) (hv' : PySem.W.handedIn v = true) (h : Q v { s with toks := s.toks + 1 }) :
    wpAny (model prog w) A (getAttr (.ref x) name expr) Q E s := by
  obtain ⟨od, J, hl⟩ := I.look
  exact PySem.W.get_value X J (PySem.W.plainGet_of hg).1 (PySem.W.findObj_own hh ha rfl (by rw [hl, hv])) hv' h
theorem get_meth {pl : Sem Bool} {Q : Value × List Value → Shared → Prop} (X : K.In s.heap) (I : ObjM s.heap x dx C mA) (hg : PySem.W.plainGet K C name = true)
    (hf : PySem.W.findIn K (.ref C) name = some (some (.ref f))) (ht : PySem.W.isFn K (.ref f) = true) (hv : mA name = none) (h : Q (.ref f, [.ref x]) s) :
    wpAny (model prog w) A (getMethod (.ref x) name pl) Q E s := by
  obtain ⟨od, J, hl⟩ := I.look
  exact PySem.W.method_fn X J (PySem.W.plainGet_of hg).1 (PySem.W.plainGet_of hg).2 hf (beq_iff_eq.mp ht) (by show (PySem.W.lookIn name od).map (·.isSome) = some false; rw [hl, hv]; rfl) h
theorem set_map {ns : List Str} {Q : Unit → Shared → Prop} (X : K.In s.heap) (I : ObjM s.heap x dx C mA)
    (hs : PySem.W.findIn K (.ref C) "__setattr__" = some (some (.builtin "object.__setattr__"))) (hp : PySem.W.plainOver K C = true) (ht : PySem.W.takerIn K C name = some none) (hh : PySem.W.hasDictIn K C = true)
    (hw : PySem.Within mA ns) (hsz : ns.length ≤ sizeLine)
    (h : ∀ h', ObjM h' x dx C (fun y => if y = name then some v else mA y) → Heap.SameBut dx s.heap h' → Q () { s with heap := h', toks := s.toks + 2 }) :
    wpAny (model prog w) A (setAttr (.ref x) name v) Q E s := by
  obtain ⟨od, J, hl⟩ := I.look
  refine PySem.W.set_plain X J hs (PySem.W.osa_open (s := { s with toks := s.toks + 1 }) (r := none) X J hp ht fun b => ?_)
  obtain ⟨cd, hc, hd'⟩ := PySem.W.any_some hh
  have hx : s.heap.get? x = some ⟨.ref C, some dx, .plain, #[]⟩ := I.obj
  refine wpAny_bind (wpAny_pure (wpAny_bind (wpAny_bind (wpAny_loadPart hx (wpAny_bind (PySem.W.Looks.here (s := { s with toks := s.toks + 1 }) (PySem.W.looks_clsIn X hc) ?_))))))
  rw [hd']
  refine wpAny_pure (a := some dx) (wpAny_bind (wpAny_pure (wpAny_bind ?_)))
  refine wpAny_nsSet1 (s := { s with toks := s.toks + 1 }) I.ns fun h' hn2 hs2 => ?_
  obtain ⟨oD, esD, epD, hoD, hdD, hcD⟩ := hn2.count (PySem.Within.cons name v hw)
  refine wpAny_bind (wpAny_lookBehind hoD (by rw [hdD]; exact pastItsLine_dict (Nat.le_trans hcD (by rw [List.length_cons]; omega))) ?_)
  exact wpAny_pure (h _ ⟨(hs2.2 _ (Ne.symm I.ne)).trans I.obj, hn2, I.ne⟩ hs2)
theorem make_map {R : Result → Shared → Prop} {vs : List Value} {kw : List (Str × Value)} (X : K.In s.heap) (hm : PySem.W.makesIn K C = true)
    (hi : PySem.W.findIn K (.ref C) "__init__" = some (some (.ref f))) (hf : PySem.W.typeIn K (.ref f) = some (.type "function"))
    (h : codeAny (model prog w) (A.under (.builtin "type.__call__" ⟨.ref C :: vs, kw⟩)) (.call (.ref f) ⟨.ref (s.heap.objs.size + 1) :: vs, kw⟩) (PySem.W.InitBack (s.heap.objs.size + 1) R)
      { s with heap := (s.heap.push PySem.W.emptyDict).push (PySem.W.instObj C s.heap.objs.size) }) :
    codeAny (model prog w) A (.call (.ref C) ⟨vs, kw⟩) R s := by
  obtain ⟨hh, g, d, t, os⟩ := s
  exact PySem.W.make_core (PySem.W.makes_of X hm) (PySem.W.looks_findIn X hi) (fun self => PySem.W.bind_fn X self hf) (.inl rfl) h
end
def putF (f : Str) (v : V) : List (Str × V) → List (Str × V)
  | [] => [(f, v)]
  | (g, x) :: r => if g = f then (g, v) :: r else (g, x) :: putF f v r
theorem lookup_putF (f g : Str) (v : V) : ∀ fs : List (Str × V), (putF f v fs).lookup g = if g = f then some v else fs.lookup g
  | [] => by
    show List.lookup g [(f, v)] = _
    by_cases h : g = f
    · have hb : (g == f) = true := beq_iff_eq.mpr h
      simp only [List.lookup, hb, if_pos h]
    · have hb : (g == f) = false := beq_eq_false_iff_ne.mpr h
      simp only [List.lookup, hb, if_neg h]
  | (k, x) :: r => by
    have ih := lookup_putF f g v r
    rw [show putF f v ((k, x) :: r) = (if k = f then (k, v) :: r else (k, x) :: putF f v r) from rfl]
    by_cases hk : k = f
    · rw [if_pos hk]
      by_cases h : g = k
      · have hb : (g == k) = true := beq_iff_eq.mpr h
        simp only [List.lookup, hb, if_pos (h.trans hk)]
      · have hb : (g == k) = false := beq_eq_false_iff_ne.mpr h
        simp only [List.lookup, hb, if_neg (fun e : g = f => h (e.trans hk.symm))]
    · rw [if_neg hk]
      by_cases h : g = k
      · have hb : (g == k) = true := beq_iff_eq.mpr h
        simp only [List.lookup, hb, if_neg (fun e : g = f => hk (h.symm.trans e))]
      · have hb : (g == k) = false := beq_eq_false_iff_ne.mpr h
        simp only [List.lookup, hb]
        exact ih
theorem keys_putF (f : Str) (v : V) : ∀ fs : List (Str × V), f ∈ (putF f v fs).map (·.1) ∧ ∀ g, g ∈ fs.map (·.1) → g ∈ (putF f v fs).map (·.1)
  | [] => ⟨by simp [putF], fun g h => by simp at h⟩
  | (k, x) :: r => by
    obtain ⟨i1, i2⟩ := keys_putF f v r
    rw [show putF f v ((k, x) :: r) = (if k = f then (k, v) :: r else (k, x) :: putF f v r) from rfl]
    by_cases hk : k = f
    · rw [if_pos hk]
      subst hk
      exact ⟨by simp, fun g h => by simpa using h⟩
    · rw [if_neg hk]
      refine ⟨?_, fun g h => ?_⟩
      · rw [List.map_cons]
        exact List.mem_cons_of_mem _ i1
      · rw [List.map_cons] at h ⊢
        rcases List.mem_cons.mp h with e | e
        · exact List.mem_cons.mpr (.inl e)
        · exact List.mem_cons_of_mem _ (i2 g e)
theorem length_putF (f : Str) (v : V) : ∀ fs : List (Str × V), (putF f v fs).length ≤ fs.length + 1
  | [] => by simp [putF]
  | (k, x) :: r => by
    have ih := length_putF f v r
    rw [show putF f v ((k, x) :: r) = (if k = f then (k, v) :: r else (k, x) :: putF f v r) from rfl]
    by_cases hk : k = f
    · rw [if_pos hk, List.length_cons, List.length_cons]; omega
    · rw [if_neg hk, List.length_cons, List.length_cons]; omega
theorem RelO.some_of {v : V} {o : Option Value} (r : RelO (some v) o) : ∃ u, o = some u ∧ RelV v u := by
  cases o with
  | none => exact (show False from r).elim
  | some u => exact ⟨u, rfl, r⟩
theorem RelO.none_of {o : Option Value} (r : RelO none o) : o = none := by
  cases o with
  | none => rfl
  | some u => exact (show False from r).elim
theorem handed_of {v : V} {u : Value} (r : RelV v u) : PySem.W.handedIn u = true := by
  cases v with
  | non => cases (show u = Value.none from r); rfl
  | bl b => cases (show u = Value.bool b from r); rfl
  | int i => obtain ⟨t, e⟩ := (show ∃ t, u = Value.int i t from r); cases e; rfl
  | str x => obtain ⟨t, e⟩ := (show ∃ t, u = Value.str x t from r); cases e; rfl
  | byt b => obtain ⟨t, e⟩ := (show ∃ t, u = Value.bytes b t from r); cases e; rfl
  | flt b => obtain ⟨t, e⟩ := (show ∃ t, u = Value.float b t from r); cases e; rfl
  | ref a => cases (show u = Value.ref a from r); rfl
  | ty n => cases (show u = Value.type n from r); rfl
section
variable {P : Program} {w : World} {H H' : Hp} {h h' : Heap} {a C dx : Addr} {fs fs' : List (Str × V)}
theorem ins_get (hok : HOk P w H h) (e : H a = some (.ins C dx fs)) : ∃ mA, ObjM h a dx C mA ∧ (∀ f, RelO (fs.lookup f) (mA f)) ∧ PySem.Within mA (fs.map (·.1)) ∧ fs.length ≤ 1000 ∧ H dx = some (.own a) := by
  obtain ⟨d, z, ne, ob, mA, n, r, q⟩ := (show ObjOk P w H h a (.ins C dx fs) from hok a _ e)
  exact ⟨mA, ⟨ob, n, ne⟩, r, q, z, d⟩
end
structure Cls (K : PySem.W.Frag) (C : Addr) : Prop where
  pg : PySem.W.plainGet K C Str.empty = true
  hd : PySem.W.hasDictIn K C = true
  po : PySem.W.plainOver K C = true
  sa : PySem.W.findIn K (.ref C) "__setattr__" = some (some (.builtin "object.__setattr__"))
theorem Cls.get {K : PySem.W.Frag} {C : Addr} (c : Cls K C) (f : Str) : PySem.W.plainGet K C f = true := c.pg
def NoAttr (K : PySem.W.Frag) (C : Addr) (f : Str) : Prop := PySem.W.findIn K (.ref C) f = some none
theorem NoAttr.taker {K : PySem.W.Frag} {C : Addr} {f : Str} (n : NoAttr K C f) : PySem.W.takerIn K C f = some none := by
  unfold PySem.W.takerIn
  rw [show PySem.W.findIn K (.ref C) f = some none from n]
  rfl
structure Con (K : PySem.W.Frag) (C : Addr) (f : Str) (v : V) (u : Value) : Prop where
  at_ : PySem.W.findIn K (.ref C) f = some (some u)
  rel : RelV v u
  get : PySem.W.specialIn K u "__get__" = some none
  cp : PySem.W.copiedNames.contains f = false
structure Meth (K : PySem.W.Frag) (C : Addr) (m : Str) (f : Addr) : Prop where
  at_ : PySem.W.findIn K (.ref C) m = some (some (.ref f))
  fn : PySem.W.isFn K (.ref f) = true
  kp : PySem.W.keepIn K (.ref f) = true
section
variable {X : Cx} {pins : List (Addr × Obj)} {σ : St} {H : Hp} {s : Shared} {a C dx : Addr} {fs : List (Str × V)} {f : Str} {v : V} {A : Around} {E : Value → Shared → Prop}
theorem getattr_ok {b : Bool} {Q : Value → Shared → Prop} (I : Inv X pins σ H s) (e : H a = some (.ins C dx fs)) (c : Cls X.K C) (n : NoAttr X.K C f) (l : fs.lookup f = some v)
    (h : ∀ u s', Inv X pins σ H s' → RelV v u → Q u s') : wpAny (model X.prog X.w) A (getAttr (.ref a) f b) Q E s := by
  obtain ⟨mA, O, r, _, _, _⟩ := ins_get I.hok e
  obtain ⟨u, hu, ru⟩ := RelO.some_of (v := v) (o := mA f) (by rw [← l]; exact r f)
  exact get_map I.kIn O (c.get f) c.hd n hu (handed_of ru) (h u _ (I.tok _) ru)
theorem getmeth_ok {m : Str} {g : Addr} {pl : Sem Bool} {Q : Value × List Value → Shared → Prop} (I : Inv X pins σ H s) (e : H a = some (.ins C dx fs)) (c : Cls X.K C) (k : Meth X.K C m g) (l : fs.lookup m = none)
    (h : Q (.ref g, [.ref a]) s) : wpAny (model X.prog X.w) A (getMethod (.ref a) m pl) Q E s := by
  obtain ⟨mA, O, r, _, _, _⟩ := ins_get I.hok e
  have hn : mA m = none := RelO.none_of (by rw [← l]; exact r m)
  exact get_meth I.kIn O (c.get m) k.at_ k.fn hn h
theorem setattr_ok {y : V} {u : Value} {Q : Unit → Shared → Prop} (I : Inv X pins σ H s) (e : H a = some (.ins C dx fs)) (c : Cls X.K C) (n : NoAttr X.K C f) (hl : fs.length < 1000) (ry : RelV y u)
    (h : ∀ s', Inv X pins σ (upd H a (.ins C dx (putF f y fs))) s' → Q () s') : wpAny (model X.prog X.w) A (setAttr (.ref a) f u) Q E s := by
  obtain ⟨mA, O, r, wi, _, ho⟩ := ins_get I.hok e
  have hz : (fs.map (·.1)).length ≤ sizeLine := by rw [List.length_map, sizeLine_eq]; omega
  refine set_map I.kIn O c.sa c.po n.taker c.hd wi hz fun h' O' sb => h _ ?_
  have hd : ∃ o, h'.get? dx = some o := let ⟨o, _, _, e', _⟩ := O'.ns; ⟨o, e'⟩
  refine I.write (x := a) (e := dx) (by rw [e]; exact True.intro) (.inr ho) (fun b q hb z => (sb.2 b hb).trans z) hd ?_
  refine ⟨by rw [upd_ne O.ne]; exact ho, ?_, O.ne, O'.obj, _, O'.ns, fun g => ?_, fun g hg => ?_⟩
  · have := length_putF f y fs; omega
  · show RelO ((putF f y fs).lookup g) (if g = f then some u else mA g)
    rw [lookup_putF]
    by_cases q : g = f
    · rw [if_pos q, if_pos q]; exact ry
    · rw [if_neg q, if_neg q]; exact r g
  · by_cases q : g = f
    · rw [q]; exact (keys_putF f y fs).1
    · refine (keys_putF f y fs).2 g (wi g fun z => hg ?_)
      show (if g = f then some u else mA g) = none
      rw [if_neg q]; exact z
theorem Inv.made (I : Inv X pins σ H s) : Inv X pins σ (upd (upd H s.heap.objs.size (.own (s.heap.objs.size + 1))) (s.heap.objs.size + 1) (.ins C s.heap.objs.size []))
    { s with heap := (s.heap.push PySem.W.emptyDict).push (PySem.W.instObj C s.heap.objs.size) } := by
  have e1 : (s.heap.push PySem.W.emptyDict).get? s.heap.objs.size = some PySem.W.emptyDict := Heap.get?_push_size s.heap rfl
  have e2 : ((s.heap.push PySem.W.emptyDict).push (PySem.W.instObj C s.heap.objs.size)).get? (s.heap.objs.size + 1) = some (PySem.W.instObj C s.heap.objs.size) := by
    have := Heap.get?_push_size (s.heap.push PySem.W.emptyDict) (o := PySem.W.instObj C s.heap.objs.size) rfl
    rwa [Heap.size_push] at this
  have e3 : (s.heap.push PySem.W.emptyDict).Ns s.heap.objs.size (fun _ => none) := ⟨PySem.W.emptyDict, #[], _, e1, rfl, (fun e he => absurd he (by simp)), fun _ => rfl⟩
  have I1 := I.laid (a := s.heap.objs.size) (o := .own (s.heap.objs.size + 1)) (h' := s.heap.push PySem.W.emptyDict) (t' := s.toks) (fun b u q => Heap.get?_push_of_some _ q) (Nat.le_refl _) ⟨_, e1⟩
  refine I1.laid (a := s.heap.objs.size + 1) (o := .ins C s.heap.objs.size []) (t' := s.toks) (fun b u q => Heap.get?_push_of_some _ q) (Nat.le_of_eq (Heap.size_push _ _)) ?_
  have ne : s.heap.objs.size ≠ s.heap.objs.size + 1 := Nat.ne_of_lt (Nat.lt_succ_self _)
  refine ⟨by rw [upd_ne ne, upd_same], Nat.zero_le _, ne, e2, fun _ => none, (Heap.Ns1.of_empty e3).at fun o q => Heap.get?_push_of_some _ q, fun _ => True.intro, fun y hy => absurd rfl hy⟩
theorem attr_of {prog : Program} {w : World} {env : Env} {e : Expr} {f : Str} {pos : Pos} {s : Shared} {Q : Value → Shared → Prop} (hb : attributeBase e f env (eval e env) = eval e env)
    (h : wpAny (model prog w) A (eval e env) (fun o s₁ => wpAny (model prog w) A (getAttr o f true) Q E s₁) E s) : wpAny (model prog w) A (eval (.Attribute e f pos) env) Q E s :=
  Attribute_any_ h (by rw [arm_eval_Attribute, hb])
end
def tFld (K : PySem.W.Frag) (ta : TE) (f : Str) : TE := fun σ H Q => ta σ H fun x H1 => ∃ a C dx fs v, x = .ref a ∧ H1 a = some (.ins C dx fs) ∧ Cls K C ∧ NoAttr K C f ∧ fs.lookup f = some v ∧ Q v H1
def sFld (K : PySem.W.Frag) (ta tv : TE) (f : Str) : TS := fun D σ H => tv σ H fun y H1 => ta σ H1 fun x H2 => ∃ a C dx fs, x = .ref a ∧ H2 a = some (.ins C dx fs) ∧ Cls K C ∧ NoAttr K C f ∧ fs.length < 1000 ∧
  D.nx σ (upd H2 a (.ins C dx (putF f y fs)))
section
variable {X : Cx} {o e value : Expr} {f : Str} {pos pos' tpos : Pos} {ta tv : TE}
theorem pe_fld (he : PE X e ta) (hb : attributeBase e f X.env (eval e X.env) = eval e X.env) : PE X (.Attribute e f pos) (tFld X.K ta f) := by
  intro pins s σ H Q I h
  refine attr_of hb (thn (he pins s σ H _ I h) fun u s1 ⟨x, H1, I1, rx, a, C, dx, fs, v, ex, ea, c, n, l, q⟩ => ?_)
  subst ex
  obtain rfl : u = Value.ref a := rx
  exact getattr_ok I1 ea c n l fun u' s2 I2 ru => ⟨v, H1, I2, ru, q⟩
theorem ps_fld (ha : PE X o ta) (hv : PE X value tv) (hs : swapsWith value (some (.Attribute o f pos')) pos.line X.env = pure false) : PS X (.Assign [.Attribute o f pos'] value pos) (sFld X.K ta tv f) := by
  intro pins s σ H D I h
  refine plainObj_wpAny_Assign_Attribute (thn (hv pins s σ H _ I h) fun u s1 ⟨y, H1, I1, ry, q⟩ => thn (ha pins s1 σ H1 _ I1 q) fun ov s2 ⟨x, H2, I2, rx, a, C, dx, fs, ex, ea, c, n, l, q2⟩ => ?_) hs
  subst ex
  obtain rfl : ov = Value.ref a := rx
  exact setattr_ok I2 ea c n l ry fun s3 I3 => ⟨σ, _, I3, q2⟩
end
section
variable {X : Cx} {pins : List (Addr × Obj)} {σ : St} {H : Hp} {s : Shared} {A : Around} {E : Value → Shared → Prop} {Q : Value → Shared → Prop} {c : Value} {b : Bool}
inductive TyOf (K : PySem.W.Frag) (H : Hp) : V → Value → Prop where
  | non : TyOf K H .non (.type "NoneType")
  | bl (x : Bool) : TyOf K H (.bl x) (.type "bool")
  | int (i : Int) : TyOf K H (.int i) (.type "int")
  | str (x : Str) : TyOf K H (.str x) (.type "str")
  | flt (x : UInt64) : TyOf K H (.flt x) (.type "float")
  | lst {a : Addr} {xs : List V} (e : H a = some (.lst xs)) : TyOf K H (.ref a) (.type "list")
  | frz {a : Addr} {o : Obj} {xs : List V} (e : H a = some (.frz o (.lst xs))) : TyOf K H (.ref a) (.type "list")
  | tup {a : Addr} {xs : List V} (e : H a = some (.tup xs)) : TyOf K H (.ref a) (.type "tuple")
  | dK {a : Addr} {kvs : List (Key × V)} (e : H a = some (.dK kvs)) : TyOf K H (.ref a) (.type "dict")
  | dT {a : Addr} {kvs : List (List Key × V)} (e : H a = some (.dT kvs)) : TyOf K H (.ref a) (.type "dict")
  | ins {a C dx : Addr} {fs : List (Str × V)} (e : H a = some (.ins C dx fs)) (cl : Cls K C) (ha : PySem.W.findIn K (.ref C) "__class__" = some (some (.builtin "object.__class__")))
      (hn : PySem.W.specialIn K (.builtin "object.__class__") "__get__" = some (some (.builtin "getset_descriptor.__get__"))) (htk : PySem.W.takesIn K (.builtin "object.__class__") = some true)
      (hm : PySem.W.mroIn K C (.type "object") = some true) : TyOf K H (.ref a) (.ref C)
theorem isinst_ok {x : V} {u t : Value} (I : Inv X pins σ H s) (rx : RelV x u) (ty : TyOf X.K H x t) (e : PySem.W.kitOne X.K t c = some b) (h : ∀ tk, Q (.bool b) { s with toks := tk }) :
    wpAny (model X.prog X.w) A (call (.builtin "isinstance") [u, c]) Q E s := by
  cases ty with
  | non => cases (show u = Value.none from rx); exact PySem.W.kia_one PySem.W.kitx_none I.kIn True.intro e (fun z => nomatch z) h
  | bl y => cases (show u = Value.bool y from rx); exact PySem.W.kia_one PySem.W.kitx_bool I.kIn True.intro e (fun z => nomatch z) h
  | int i => obtain ⟨t, q⟩ := (show ∃ t, u = Value.int i t from rx); cases q; exact PySem.W.kia_one PySem.W.kitx_int I.kIn True.intro e (fun z => nomatch z) h
  | str y => obtain ⟨t, q⟩ := (show ∃ t, u = Value.str y t from rx); cases q; exact PySem.W.kia_one PySem.W.kitx_str I.kIn True.intro e (fun z => nomatch z) h
  | flt y => obtain ⟨t, q⟩ := (show ∃ t, u = Value.float y t from rx); cases q; exact PySem.W.kia_one PySem.W.kitx_float I.kIn True.intro e (fun z => nomatch z) h
  | @lst a xs ea =>
    cases (show u = Value.ref a from rx)
    obtain ⟨_, _, n, _, h1⟩ := (show ObjOk X.prog X.w H s.heap a (.lst xs) from I.hok a _ ea)
    exact PySem.W.kia_one PySem.W.kitx_list I.kIn ⟨_, h1, rfl⟩ e (fun z => nomatch z) h
  | @frz a ob xs ea =>
    cases (show u = Value.ref a from rx)
    obtain ⟨_, _, _, n, _, h1⟩ := (show ObjOk X.prog X.w H s.heap a (.frz ob (.lst xs)) from I.hok a _ ea)
    exact PySem.W.kia_one PySem.W.kitx_list I.kIn ⟨_, h1, rfl⟩ e (fun z => nomatch z) h
  | @tup a xs ea =>
    cases (show u = Value.ref a from rx)
    obtain ⟨_, _, _, p⟩ := (show ObjOk X.prog X.w H s.heap a (.tup xs) from I.hok a _ ea)
    obtain ⟨o, h1, h2, _⟩ := p
    exact PySem.W.kia_one PySem.W.kitx_tuple I.kIn ⟨o, h1, h2⟩ e (fun z => nomatch z) h
  | @dK a kvs ea =>
    cases (show u = Value.ref a from rx)
    obtain ⟨_, _, vs, _, p⟩ := (show ObjOk X.prog X.w H s.heap a (.dK kvs) from I.hok a _ ea)
    obtain ⟨o, es, ep, h1, h2, _⟩ := p
    exact PySem.W.kia_one PySem.W.kitx_dict I.kIn ⟨o, h1, h2.1⟩ e (fun z => nomatch z) h
  | @dT a kvs ea =>
    cases (show u = Value.ref a from rx)
    obtain ⟨_, _, xs, _, o, es, ep, h1, h2, _⟩ := (show ObjOk X.prog X.w H s.heap a (.dT kvs) from I.hok a _ ea)
    exact PySem.W.kia_one PySem.W.kitx_dict I.kIn ⟨o, h1, h2.1⟩ e (fun z => nomatch z) h
  | @ins a C dx fs ea cl ha hn htk hm =>
    cases (show u = Value.ref a from rx)
    obtain ⟨mA, O, _⟩ := ins_get I.hok ea
    obtain ⟨od, J, _⟩ := O.look
    exact PySem.W.kia_one (PySem.W.kitx_own (cl.get _) cl.hd ha hn htk hm) I.kIn J e (fun z => nomatch z) h
end
end L2
namespace L2
open PySem PySem.Spec PyProof.Rows
structure Room (k : Nat) (A : Around) : Prop where
  hd : A.handled = none
  dp : A.depth + 3 * k + 5 < recursionLimit
  un : A.units + 16 * k + 200 < cLine
theorem Room.mono {j k : Nat} {A : Around} (r : Room k A) (h : j ≤ k) : Room j A := ⟨r.hd, by have := r.dp; omega, by have := r.un; omega⟩
theorem Room.deeper {k : Nat} {A : Around} (r : Room (k + 1) A) (env : Env) : Room k (A.deeper env) :=
  ⟨r.hd, by have := r.dp; show A.depth + 1 + 3 * k + 5 < _; omega, by have := r.un; show A.units + 3 + 16 * k + 200 < _; omega⟩
theorem Room.in1 {k : Nat} {A : Around} (r : Room (k + 1) A) : Room k A.in1 :=
  ⟨r.hd, by have := r.dp; show A.depth + 3 * k + 5 < _; omega, by have := r.un; show A.units + 1 + 16 * k + 200 < _; omega⟩
theorem make_depth {A : Around} {C : Addr} {us : List Value} {kw : List (Str × Value)} : (A.under (.builtin "type.__call__" ⟨.ref C :: us, kw⟩)).depth = A.depth + 1 := by
  first | rfl | simp [Around.under, Code.weight, Code.isCreation, Code.isGuard, Code.isCaller, Code.frames, Code.isFrame, guardIds]
theorem make_units {A : Around} {C : Addr} {us : List Value} {kw : List (Str × Value)} : (A.under (.builtin "type.__call__" ⟨.ref C :: us, kw⟩)).units = A.units + 1 := by
  first | rfl | simp [Around.under, Code.cUnits, Code.frames, Code.isFrame]
theorem Room.make {k : Nat} {A : Around} (r : Room (k + 1) A) (C : Addr) (us : List Value) (kw : List (Str × Value)) : Room k (A.under (.builtin "type.__call__" ⟨.ref C :: us, kw⟩)) :=
  ⟨r.hd, by have := r.dp; rw [make_depth]; omega, by have := r.un; rw [make_units]; omega⟩
theorem Room.depth {k : Nat} {A : Around} (r : Room k A) : A.depth < recursionLimit := by have := r.dp; omega
theorem Room.units {k : Nat} {A : Around} (r : Room k A) : A.units + 64 < cLine := by have := r.un; omega
theorem Room.units0 {k : Nat} {A : Around} (r : Room k A) : A.units < cLine := by have := r.un; omega
def tNil : TA := fun _ H Q => Q [] H
def tCons (ta : TE) (tr : TA) : TA := fun σ H Q => ta σ H fun x H1 => tr σ H1 fun xs H2 => Q (x :: xs) H2
section
variable {X : Cx} {e : Expr} {es : List Expr} {te : TE} {t : TA} {pos : Pos}
theorem pa_nil : PA X [] tNil := fun _ _ _ _ H Q I h => Calls.spliced_nil ⟨[], H, I, .nil, h⟩
theorem pa_cons (ha : PE X e te) (hr : PA X es t) (hs : starEach (e :: es) X.env = (false, eval e X.env) :: starEach es X.env := by rfl) : PA X (e :: es) (tCons te t) := by
  intro pos pins s σ H Q I h
  rw [hs]
  show wpAny _ _ (spliced ((false, eval e X.env) :: backTo pos (starEach es X.env))) _ _ s
  refine Calls.spliced_cons (thn (ha pins s σ H _ I h) fun u s1 ⟨x, H1, I1, r1, q1⟩ => ?_)
  exact thn (hr pos pins s1 σ H1 _ I1 q1) fun us s2 ⟨xs, H2, I2, r2, q2⟩ => ⟨x :: xs, H2, I2, .cons r1 r2, q2⟩
def tTup (t : TA) : TE := fun σ H Q => t σ H fun xs H1 => xs.length ≤ sizeLine ∧ ∀ p, H1 p = none → Q (.ref p) (upd H1 p (.tup xs))
def tLst (t : TA) : TE := fun σ H Q => t σ H fun xs H1 => xs.length ≤ sizeLine ∧ ∀ p, H1 p = none → Q (.ref p) (upd H1 p (.lst xs))
theorem pe_tup {x1} (h : PA X es t) : PE X (.Tuple es x1 pos) (tTup t) := by
  intro pins s σ H Q I hq
  refine wpAny_Tuple_spliced (thn (h pos pins s σ H _ I hq) fun us s1 ⟨xs, H1, I1, r, z, q⟩ => ⟨by rw [← r.length]; exact z, ?_⟩)
  have hf : H1 s1.heap.objs.size = none := I1.hok.fresh (Nat.le_refl _)
  refine ⟨.ref s1.heap.objs.size, upd H1 s1.heap.objs.size (.tup xs), I1.laid (t' := s1.toks) (fun b u e => Heap.get?_push_of_some _ e) (Nat.le_refl _) ?_, rfl, q _ hf⟩
  exact ⟨z, us, r, ⟨_, Heap.get?_push_size _ rfl, rfl, _, rfl⟩⟩
theorem pe_lst (h : PA X es t) : PE X (.List es pos) (tLst t) := by
  intro pins s σ H Q I hq
  refine wpAny_List_spliced (thn (h pos pins s σ H _ I hq) fun us s1 ⟨xs, H1, I1, r, z, q⟩ => ⟨by rw [← r.length]; exact z, ?_⟩)
  have hf : H1 s1.heap.objs.size = none := I1.hok.fresh (Nat.le_refl _)
  refine ⟨.ref s1.heap.objs.size, upd H1 s1.heap.objs.size (.lst xs), I1.laid (t' := s1.toks) (fun b u e => Heap.get?_push_of_some _ e) (Nat.le_refl _) ?_, rfl, q _ hf⟩
  exact ⟨z, us, 0, r, Heap.get?_push_size _ rfl⟩
end
abbrev Sp := List V → Hp → VK → XK → Prop
abbrev CXT := List Env → Hp → Shared → XK → Value → Shared → Prop
structure Env0 (P : Program) (w : World) (K : PySem.W.Frag) (mg : Str → Option Value) (base : Heap) (A : Around) (outer : List Env) (s : Shared) (H : Hp) : Prop where
  frames : A.frames = some outer
  mod : Mod K mg base
  bs : ∀ b o, base.get? b = some o → s.heap.get? b = some o ∧ H b = none
  bsz : base.objs.size ≤ s.heap.objs.size
  funs : s.heap.FunFrames base outer
  frf : ∀ b ∈ frs outer, H b = none
  hok : HOk P w H s.heap
  bare : AllBare s.gens
def CE (outer : List Env) (P : Program) (w : World) (H : Hp) (s : Shared) (Q : VK) (u : Value) (s' : Shared) : Prop :=
  ∃ v H', s'.os = s.os ∧ AllBare s'.gens ∧ Un (frs outer) [] H H' s.heap s'.heap ∧ HOk P w H' s'.heap ∧ RelV v u ∧ Q v H'
def CR (CX : CXT) (outer : List Env) (P : Program) (w : World) (H : Hp) (s : Shared) (Q : VK) (E : XK) (r : Result) (s' : Shared) : Prop :=
  match r with
  | .ok (.ret u) => CE outer P w H s Q u s'
  | .ok _ => False
  | .error e => CX outer H s E e s'
structure FnOk (P : Program) (w : World) (K : PySem.W.Frag) (mg : Str → Option Value) (base : Heap) (CX : CXT) (k : Nat) (f : Addr) (fd : FuncData) (ps : List Str) (sp : Sp) : Prop where
  len : ∀ vs H Q E, sp vs H Q E → vs.length = ps.length
  run : ∀ (A : Around) (outer : List Env) (s : Shared) (H : Hp) (args : Args) (us : List Value) (vs : List V) (Q : VK) (E : XK), Room k A → Env0 P w K mg base A outer s H → BindsTo s fd args (ps.zip us) → Vals vs us → sp vs H Q E →
    codeAny (model P w) A (.call (.ref f) args) (CR CX outer P w H s Q E) s
theorem FnOk.mono {P : Program} {w : World} {K : PySem.W.Frag} {mg : Str → Option Value} {base : Heap} {CX : CXT} {j k : Nat} {f : Addr} {fd : FuncData} {ps : List Str} {sp : Sp} (F : FnOk P w K mg base CX j f fd ps sp) (h : j ≤ k) :
    FnOk P w K mg base CX k f fd ps sp := ⟨F.len, fun A outer s H args us vs Q E hr => F.run A outer s H args us vs Q E (hr.mono h)⟩
theorem FnOk.imp {P : Program} {w : World} {K : PySem.W.Frag} {mg : Str → Option Value} {base : Heap} {CX : CXT} {k : Nat} {f : Addr} {fd : FuncData} {ps : List Str} {sp sp' : Sp} (F : FnOk P w K mg base CX k f fd ps sp)
    (h : ∀ vs H Q E, sp' vs H Q E → sp vs H Q E) : FnOk P w K mg base CX k f fd ps sp' :=
  ⟨fun vs H Q E q => F.len vs H Q E (h _ _ _ _ q), fun A outer s H args us vs Q E hr he hb hv hs => F.run A outer s H args us vs Q E hr he hb hv (h _ _ _ _ hs)⟩
theorem Env0.make {P : Program} {w : World} {K : PySem.W.Frag} {mg : Str → Option Value} {base : Heap} {A : Around} {outer : List Env} {s : Shared} {H : Hp} (e : Env0 P w K mg base A outer s H) (C : Addr) (us : List Value) (kw : List (Str × Value)) :
    Env0 P w K mg base (A.under (.builtin "type.__call__" ⟨.ref C :: us, kw⟩)) outer s H := ⟨by first | exact e.frames | (simpa [Around.under, Code.envs, Code.isFrame, pushEnvs] using e.frames), e.mod, e.bs, e.bsz, e.funs, e.frf, e.hok, e.bare⟩
theorem Env0.in1 {P : Program} {w : World} {K : PySem.W.Frag} {mg : Str → Option Value} {base : Heap} {A : Around} {outer : List Env} {s : Shared} {H : Hp} (e : Env0 P w K mg base A outer s H) :
    Env0 P w K mg base A.in1 outer s H := ⟨e.frames, e.mod, e.bs, e.bsz, e.funs, e.frf, e.hok, e.bare⟩
section
variable {X : Cx} {pins : List (Addr × Obj)} {σ : St} {H : Hp} {s s' : Shared}
theorem Inv.env0 (I : Inv X pins σ H s) : Env0 X.prog X.w X.K X.mg X.base X.A X.stack s H :=
  ⟨I.ok.frames, I.ok.mod, I.bs, Nat.le_trans I.ok.bsz I.sz, I.stack, I.stkFree, I.hok, I.bare⟩
theorem Inv.after {Q : VK} {u : Value} (I : Inv X pins σ H s) (h : CE X.stack X.prog X.w H s Q u s') : EP X pins σ Q u s' := by
  obtain ⟨v, H', os, bare, un, hok, r, q⟩ := h
  obtain ⟨hh, g, d, t, os'⟩ := s'
  obtain rfl : os' = s.os := os
  exact ⟨v, H', I.call (h' := hh) (g' := g) (d' := d) (t' := t) (ch := []) un hok bare (fun b z => absurd z (by simp)), r, q⟩
end
def tCall (sp : Sp) (dvs : List V) (E : XK) (t : TA) : TE := fun σ H Q => t σ H fun vs H1 => sp (vs ++ dvs) H1 Q E
def tMeth (C : Addr) (m : Str) (sp : Sp) (dvs : List V) (E : XK) (ta : TE) (t : TA) : TE := fun σ H Q => ta σ H fun x H1 => ∃ a dx fs, x = .ref a ∧ H1 a = some (.ins C dx fs) ∧ fs.lookup m = none ∧
  t σ H1 fun vs H2 => sp (x :: (vs ++ dvs)) H2 Q E
def tMake (C : Addr) (sp : Sp) (dvs : List V) (E : XK) (t : TA) : TE := fun σ H Q => t σ H fun vs H1 => ∀ x dx, H1 x = none → H1 dx = none → dx ≠ x →
  sp (.ref x :: (vs ++ dvs)) (upd (upd H1 dx (.own x)) x (.ins C dx [])) (fun v H2 => v = .non ∧ Q (.ref x) H2) E
def Binds (K : PySem.W.Frag) (fd : FuncData) (ps : List Str) (ds : List Value) : Prop :=
  ∀ (s : Shared) (us : List Value), K.In s.heap → (us ++ ds).length = ps.length → BindsTo s fd ⟨us, []⟩ (ps.zip (us ++ ds))
theorem Binds.all {K : PySem.W.Frag} {fd : FuncData} {ps : List Str} (h : ∀ us : List Value, us.length = ps.length → bindArgs fd ⟨us, []⟩ = pure (ps.zip us)) : Binds K fd ps [] := fun s us _ hl => by
  rw [List.append_nil] at hl ⊢
  exact .of_eq (h us hl)
def Passes (CX : CXT) (X : Cx) (E : XK) : Prop := ∀ (pins : List (Addr × Obj)) (σ : St) (H : Hp) (s : Shared) (e : Value) (s' : Shared), Inv X pins σ H s → CX X.stack H s E e s' → X.xe e s'
section
variable {X : Cx} {CX : CXT} {k : Nat} {f C : Addr} {fd : FuncData} {ps : List Str} {sp : Sp} {dvs : List V} {ds : List Value} {E : XK} {x m : Str} {p pos apos : Pos} {e o : Expr} {es : List Expr} {ta : TE} {t : TA}
theorem run_fn {pins : List (Addr × Obj)} {σ : St} {H : Hp} {s : Shared} {Q : VK} {us : List Value} {vs : List V} (F : FnOk X.prog X.w X.K X.mg X.base CX k f fd ps sp) (hr : Room k X.A) (hb : Binds X.K fd ps ds) (hd : Vals dvs ds) (hx : Passes CX X E)
    (I : Inv X pins σ H s) (r : Vals vs us) (h : sp (vs ++ dvs) H Q E) : wpAny (model X.prog X.w) X.A (call (.ref f) us) (EP X pins σ Q) X.xe s := by
  have r2 : Vals (vs ++ dvs) (us ++ ds) := r.append hd
  have hl : (us ++ ds).length = ps.length := by rw [← r2.length]; exact F.len _ _ _ _ h
  refine wpAny_call (codeAny_mono (F.run X.A X.stack s H ⟨us, []⟩ (us ++ ds) (vs ++ dvs) Q E hr I.env0 (hb s us I.kIn hl) r2 h) fun r s' hq => ?_)
  cases r with
  | error e => exact hx pins σ H s e s' I hq
  | ok fl =>
    cases fl with
    | ret u => exact I.after hq
    | next => exact False.elim hq
    | brk => exact False.elim hq
    | cont => exact False.elim hq
theorem pe_call (F : FnOk X.prog X.w X.K X.mg X.base CX k f fd ps sp) (hr : Room k X.A) (hg : Gl X x) (hm : X.mg x = some (.ref f)) (hk : PySem.W.keepIn X.K (.ref f) = true) (hb : Binds X.K fd ps ds) (hd : Vals dvs ds) (hx : Passes CX X E)
    (ha : PA X (e :: es) t) (hdb : (x == ("__debug__" : Str)) = false := by decide) (he : starEach (e :: es) X.env = (false, eval e X.env) :: starEach es X.env := by rfl) (hpl : (backTo pos (starEach es X.env)).any (·.1) = false := by rfl) :
    PE X (.Call (.Name x p) (e :: es) [] pos) (tCall sp dvs E t) := by
  intro pins s σ H Q I h
  refine wpAny_Call_Name_kw (ld_glob I hg hm ?_ hdb)
  refine PySem.W.callWith_K (h₀ := X.base) I.ok.mod.kin hk (thn (ha pos pins s σ H _ I h) fun us s1 ⟨vs, H1, I1, r, q⟩ => ⟨I1.kIn, ?_⟩) he hpl
  exact run_fn F hr hb hd hx I1 r q
theorem pe_meth {pl : Sem Bool} (he : PE X o ta) (c : Cls X.K C) (hm : Meth X.K C m f) (F : FnOk X.prog X.w X.K X.mg X.base CX k f fd ps sp) (hr : Room k X.A) (hb : Binds X.K fd ps ds) (hd : Vals dvs ds) (hx : Passes CX X E) (ha : PA X (e :: es) t)
    (hst : starEach (e :: es) X.env = (false, eval e X.env) :: starEach es X.env := by rfl) (hpl : (backTo pos (starEach es X.env)).any (·.1) = false := by rfl)
    (ht : eval (.Call (.Attribute o m apos) (e :: es) [] pos) X.env = (do
      let ov ← eval o X.env
      standAt apos.atName
      let (f, first) ← holding [ov] (getMethod ov m pl)
      callWith pos f first (backTo pos (starEach (e :: es) X.env)) (backToKw pos (keywordEach [] X.env))) := by rfl) :
    PE X (.Call (.Attribute o m apos) (e :: es) [] pos) (tMeth C m sp dvs E ta t) := by
  intro pins s σ H Q I h
  refine PySem.W.methodCall_KW (pl := pl) (thn (he pins s σ H _ I h) fun u s1 ⟨x, H1, I1, rx, a, dx, fs, ex, ea, l, q⟩ => ?_) ht
  subst ex
  obtain rfl : u = Value.ref a := rx
  refine getmeth_ok I1 ea c hm l ?_
  refine PySem.W.callWith_K (first := [.ref a]) (h₀ := X.base) I.ok.mod.kin hm.kp (thn (ha pos pins s1 σ H1 _ I1 q) fun us s2 ⟨vs, H2, I2, r, q2⟩ => ⟨I2.kIn, ?_⟩) hst hpl
  exact run_fn (us := .ref a :: us) (vs := .ref a :: vs) F hr hb hd hx I2 (.cons rfl r) q2
structure Mk (K : PySem.W.Frag) (C f : Addr) : Prop where
  makes : PySem.W.makesIn K C = true
  init : PySem.W.findIn K (.ref C) "__init__" = some (some (.ref f))
  fn : PySem.W.isFn K (.ref f) = true
  kp : PySem.W.keepIn K (.ref C) = true
theorem run_make {pins : List (Addr × Obj)} {σ : St} {H : Hp} {s : Shared} {Q : VK} {us : List Value} {vs : List V} (M : Mk X.K C f) (F : FnOk X.prog X.w X.K X.mg X.base CX k f fd ps sp) (hr : Room (k + 1) X.A) (hb : Binds X.K fd ps ds) (hd : Vals dvs ds)
    (hx : Passes CX X E) (I : Inv X pins σ H s) (r : Vals vs us)
    (h : ∀ x dx, H x = none → H dx = none → dx ≠ x → sp (.ref x :: (vs ++ dvs)) (upd (upd H dx (.own x)) x (.ins C dx [])) (fun v H2 => v = .non ∧ Q (.ref x) H2) E) :
    wpAny (model X.prog X.w) X.A (call (.ref C) us) (EP X pins σ Q) X.xe s := by
  have hq := h (s.heap.objs.size + 1) s.heap.objs.size (I.hok.fresh (Nat.le_succ _)) (I.hok.fresh (Nat.le_refl _)) (Nat.ne_of_lt (Nat.lt_succ_self _))
  have I2 := Inv.made (C := C) I
  have r2 : Vals (V.ref (s.heap.objs.size + 1) :: (vs ++ dvs)) (Value.ref (s.heap.objs.size + 1) :: (us ++ ds)) := .cons rfl (r.append hd)
  have hl : (Value.ref (s.heap.objs.size + 1) :: us ++ ds).length = ps.length := by
    have e := r2.length
    rw [F.len _ _ _ _ hq] at e
    exact e.symm
  refine wpAny_call (make_map (f := f) I.kIn M.makes M.init (beq_iff_eq.mp M.fn) (codeAny_mono (F.run _ X.stack _ _ ⟨Value.ref (s.heap.objs.size + 1) :: us, []⟩ (Value.ref (s.heap.objs.size + 1) :: (us ++ ds)) _ _ E (hr.make C us [])
    (I2.env0.make C us []) (hb _ (Value.ref (s.heap.objs.size + 1) :: us) I2.kIn hl) r2 hq) fun r s' hq' => ?_))
  cases r with
  | error e => exact hx pins σ _ _ e s' I2 hq'
  | ok fl =>
    cases fl with
    | ret u =>
      obtain ⟨v, H', I3, rv, ev, q3⟩ := I2.after hq'
      subst ev
      exact ⟨rv, ⟨V.ref (s.heap.objs.size + 1), H', I3, rfl, q3⟩⟩
    | next => exact False.elim hq'
    | brk => exact False.elim hq'
    | cont => exact False.elim hq'
theorem pe_make (M : Mk X.K C f) (F : FnOk X.prog X.w X.K X.mg X.base CX k f fd ps sp) (hr : Room (k + 1) X.A) (hg : Gl X x) (hm : X.mg x = some (.ref C)) (hb : Binds X.K fd ps ds) (hd : Vals dvs ds) (hx : Passes CX X E)
    (ha : PA X (e :: es) t) (hdb : (x == ("__debug__" : Str)) = false := by decide) (he : starEach (e :: es) X.env = (false, eval e X.env) :: starEach es X.env := by rfl) (hpl : (backTo pos (starEach es X.env)).any (·.1) = false := by rfl) :
    PE X (.Call (.Name x p) (e :: es) [] pos) (tMake C sp dvs E t) := by
  intro pins s σ H Q I h
  refine wpAny_Call_Name_kw (ld_glob I hg hm ?_ hdb)
  refine PySem.W.callWith_K (h₀ := X.base) I.ok.mod.kin M.kp (thn (ha pos pins s σ H _ I h) fun us s1 ⟨vs, H1, I1, r, q⟩ => ⟨I1.kIn, ?_⟩) he hpl
  exact run_make M F hr hb hd hx I1 r q
end
section
variable {X : Cx} {CX : CXT} {k : Nat} {f C : Addr} {fd : FuncData} {ps ks : List Str} {sp : Sp} {E : XK} {x m : Str} {p pos apos kpos : Pos} {e o : Expr} {es : List Expr} {kws : List Keyword} {te ta : TE} {t tk : TA} {nm : Option Str}
structure KBinds (K : PySem.W.Frag) (fd : FuncData) (ps ks : List Str) (g : List Value → List Value → List Value) (gV : List V → List V → List V) : Prop where
  to : ∀ (s : Shared) (us ws : List Value), K.In s.heap → (g us ws).length = ps.length → BindsTo s fd ⟨us, ks.zip ws⟩ (ps.zip (g us ws))
  rel : ∀ {vs : List V} {us : List Value} {zs : List V} {ws : List Value}, Vals vs us → Vals zs ws → Vals (gV vs zs) (g us ws)
variable {g : List Value → List Value → List Value} {gV : List V → List V → List V}
end
structure FnScope (N P : List Str) (sc : Scope) : Prop where
  kind : sc.kind = .function
  co : sc.isCoroutine = false
  gen : sc.isGenerator = false
  nd : N.Nodup
  pre : N.take P.length = P
  par : ∀ x ∈ P, sc.names.lookup x = some .local ∨ sc.names.lookup x = some .cell
  nofree : ∀ y ∈ sc.names, y.2 ≠ .free
theorem bindL_out {kindOf : Str → Option NameKind} {x : Str} : ∀ {binds : List (Str × Value)} {m : Str → Option Value}, (∀ v, (x, v) ∉ binds) → bindL kindOf binds m x = m x
  | [], _, _ => rfl
  | (n, v) :: r, m, h => by
    unfold bindL
    rw [bindL_out fun w hw => h w (List.mem_cons_of_mem _ hw)]
    split
    · have : x ≠ n := by rintro rfl; exact h v List.mem_cons_self
      simp [this]
    · rfl
theorem bindC_out {kindOf : Str → Option NameKind} {x : Str} : ∀ {binds : List (Str × Value)} {m : Str → Option Value}, (∀ v, (x, v) ∉ binds) → bindC kindOf binds m x = m x
  | [], _, _ => rfl
  | (n, v) :: r, m, h => by
    unfold bindC
    rw [bindC_out fun w hw => h w (List.mem_cons_of_mem _ hw)]
    split
    · rfl
    · have : x ≠ n := by rintro rfl; exact h v List.mem_cons_self
      simp [this]
theorem bindL_get {kindOf : Str → Option NameKind} {x : Str} {v : Value} : ∀ {P : List Str} {vs : List Value} {i : Nat} {m : Str → Option Value}, P.Nodup → P[i]? = some x → vs[i]? = some v → kindOf x = some .local →
    bindL kindOf (P.zip vs) m x = some v
  | [], _, _, _, _, h, _, _ => by simp at h
  | _ :: _, [], _, _, _, _, h, _ => by simp at h
  | p :: P, w :: vs, 0, m, nd, h1, h2, hk => by
    simp at h1 h2; subst h1; subst h2
    show bindL kindOf ((p, w) :: P.zip vs) m p = _
    unfold bindL
    rw [bindL_out fun v hv => (List.nodup_cons.mp nd).1 (List.of_mem_zip hv).1, if_pos hk]
    simp
  | p :: P, w :: vs, i + 1, m, nd, h1, h2, hk => by
    show bindL kindOf ((p, w) :: P.zip vs) m x = _
    unfold bindL
    exact bindL_get (i := i) (List.nodup_cons.mp nd).2 (by simpa using h1) (by simpa using h2) hk
theorem bindC_get {kindOf : Str → Option NameKind} {x : Str} {v : Value} : ∀ {P : List Str} {vs : List Value} {i : Nat} {m : Str → Option Value}, P.Nodup → P[i]? = some x → vs[i]? = some v → kindOf x ≠ some .local →
    bindC kindOf (P.zip vs) m x = some v
  | [], _, _, _, _, h, _, _ => by simp at h
  | _ :: _, [], _, _, _, _, h, _ => by simp at h
  | p :: P, w :: vs, 0, m, nd, h1, h2, hk => by
    simp at h1 h2; subst h1; subst h2
    show bindC kindOf ((p, w) :: P.zip vs) m p = _
    unfold bindC
    rw [bindC_out fun v hv => (List.nodup_cons.mp nd).1 (List.of_mem_zip hv).1, if_neg hk]
    simp
  | p :: P, w :: vs, i + 1, m, nd, h1, h2, hk => by
    show bindC kindOf ((p, w) :: P.zip vs) m x = _
    unfold bindC
    exact bindC_get (i := i) (List.nodup_cons.mp nd).2 (by simpa using h1) (by simpa using h2) hk
def start (N : List Str) (vs : List V) : St := vs.map some ++ List.replicate (N.length - vs.length) none
def cxOf (CX : CXT) (P : Program) (w : World) (K : PySem.W.Frag) (mg : Str → Option Value) (base : Heap) (N : List Str) (qual : Str) (scope : Scope) (f : Addr) (cd : Value) (A : Around) (outer : List Env) (s : Shared) (H : Hp) (E : XK) : Cx where
  prog := P
  w := w
  K := K
  mg := mg
  base := base
  A := A.deeper (envOfC qual scope s.heap.objs.size f cd)
  N := N
  s₀ := s
  H₀ := H
  env := envOfC qual scope s.heap.objs.size f cd
  outer := outer
  stack := envOfC qual scope s.heap.objs.size f cd :: outer
  ex := []
  calm := true
  fn := fun _ => true
  pn := []
  xe := fun e s' => wpAny (model P w) (A.deeper (envOfC qual scope s.heap.objs.size f cd)) (leaving (envOfC qual scope s.heap.objs.size f cd) e) (fun _ s'' => CX outer H s E e s'') (fun e' s'' => CX outer H s E e' s'') s'
theorem cell_has {sc : Scope} {n : Nat} {x : Str} (h : sc.names.lookup x = some .cell) : ∃ c, (cellsFrom n sc.names []).lookup x = some c := by
  have q := PySem.W.cellsFrom_some sc.names n [] (.inl h)
  exact Option.isSome_iff_exists.mp q
theorem inv_start {CX : CXT} {P : Program} {w : World} {K : PySem.W.Frag} {mg : Str → Option Value} {base : Heap} {N ps : List Str} {qual : Str} {scope : Scope} {f : Addr} {cd : Value} {A : Around} {outer : List Env} {s s1 : Shared} {H : Hp} {E : XK} {us : List Value} {vs : List V}
    (S : FnScope N ps scope) (hd : A.handled = none) (e0 : Env0 P w K mg base A outer s H) (hl : vs.length = ps.length) (r : Vals vs us)
    (x : InCallC s s.heap.objs.size (bindL (envOfC qual scope s.heap.objs.size f cd).kindOf (ps.zip us) fun _ => none) (cellsFrom (s.heap.objs.size + 1) scope.names []) (bindC (envOfC qual scope s.heap.objs.size f cd).kindOf (ps.zip us) fun _ => none) s1) :
    Inv (cxOf CX P w K mg base N qual scope f cd A outer s H E) [] (start N vs) H s1 := by
  have hpl : ps.length ≤ N.length := by have := congrArg List.length S.pre; rw [List.length_take] at this; omega
  obtain ⟨h1, tk, rfl, hk⟩ := x.done
  have noA : ∀ b : Addr, b ∉ (cxOf CX P w K mg base N qual scope f cd A outer s H E).ex := fun b z => absurd (show b ∈ ([] : List Addr) from z) (by simp)
  refine ⟨⟨e0.mod, S.kind, rfl, rfl, Nat.le_refl _, fun y z c h1 h2 => ?_, fun y hy => ?_, fun y c _ h => ?_, fun _ => hd, Around.frames_deeper e0.frames, .inr ⟨rfl, rfl⟩, fun b z => absurd z (noA b), e0.bs, e0.bsz, fun b _ _ => noA b, fun b z => absurd z (noA b), e0.funs, e0.frf⟩,
    rfl, e0.bare, Un.kept hk, ⟨_, x.toInCall.ns, fun i y v h1 h2 h3 => ?_⟩, fun y c h => ⟨_, x.cell y c h⟩, e0.hok.fresh (Nat.le_refl _), fun y c h => ?_, fun p hp => absurd (show p ∈ ([] : List (Addr × Obj)) from hp) (by simp), e0.hok.kept hk, ?_⟩
  · exact name_of_addr x.apart (PySem.mem_of_lookup h1) (PySem.mem_of_lookup h2)
  · have hy : scope.names.lookup y = some .cell ∨ scope.names.lookup y = some .free := hy
    rcases hy with hy | hy
    · exact cell_has hy
    · exact absurd rfl (S.nofree _ (PySem.mem_of_lookup hy))
  · exact Nat.le_of_lt (x.above y c (PySem.mem_of_lookup h))
  · have hi : i < vs.length := by
      unfold start at h2
      by_cases hi : i < vs.length
      · exact hi
      · rw [List.getElem?_append_right (by simpa using hi)] at h2
        rw [List.getElem?_replicate] at h2
        split at h2 <;> cases h2
    have ha : vs[i]? = some v := by
      unfold start at h2
      rw [List.getElem?_append_left (by simpa using hi), List.getElem?_map] at h2
      cases e : vs[i]? with
      | none => rw [e] at h2; cases h2
      | some a => rw [e] at h2; cases h2; rfl
    obtain ⟨u, hu, rv⟩ := r.get ha
    have hp : ps[i]? = some y := by
      rw [← S.pre, List.getElem?_take_of_lt (by omega)]; exact h1
    have ndP : ps.Nodup := by rw [← S.pre]; exact S.nd.sublist (List.take_sublist _ _)
    refine ⟨u, rv, ?_⟩
    rcases S.par y (List.mem_of_getElem? hp) with k | k
    · exact .inl ⟨k, bindL_get ndP hp hu k⟩
    · obtain ⟨c, e⟩ := cell_has (n := s.heap.objs.size + 1) k
      refine .inr ⟨.inl k, c, e, ?_⟩
      have q := x.cell y c e
      rw [bindC_get ndP hp hu (by show scope.names.lookup y ≠ _; rw [k]; decide)] at q
      exact q
  · exact e0.hok.fresh (Nat.le_of_lt (x.above y c (PySem.mem_of_lookup h)))
  · unfold start
    show _ = N.length
    rw [List.length_append, List.length_map, List.length_replicate]
    omega
theorem fn_of {CX : CXT} {P : Program} {w : World} {K : PySem.W.Frag} {mg : Str → Option Value} {base : Heap} {k : Nat} {f : Addr} {name qual : Str} {params : Arguments} {body : List Stmt} {scope : Scope} {dV kV doc pm cdv ct oc : Value} {an od : Option Addr}
    {osl : Array (Option Value)} {N ps : List Str} {sp : Sp} (lk : K.lookup f = some ⟨oc, od, .func (PySem.W.fnOf name qual params body scope dV kV doc pm an cdv ct), osl⟩) (hcd : PySem.W.codeIn K cdv qual = true) (S : FnScope N ps scope)
    (len : ∀ vs H Q E, sp vs H Q E → vs.length = ps.length)
    (hbody : ∀ (A : Around) (outer : List Env) (s : Shared) (H : Hp) (vs : List V) (Q : VK) (E : XK), Room k (A.deeper (envOfC qual scope s.heap.objs.size f cdv)) → sp vs H Q E →
      ∃ t, PSs (cxOf CX P w K mg base N qual scope f cdv A outer s H E) body t ∧ t { nx := fun _ H' => Q .non H', rt := Q } (start N vs) H) :
    FnOk P w K mg base CX (k + 1) f (PySem.W.fnOf name qual params body scope dV kV doc pm an cdv ct) ps sp := by
  refine ⟨len, fun A outer s H args us vs Q E hr e0 hb r hsp => ?_⟩
  have hl := len _ _ _ _ hsp
  have KX : K.In s.heap := e0.mod.kin.keeps fun b o e => (e0.bs b o e).1
  have lim : s.heap.NoLimit := e0.mod.nolimit.keeps fun b o e => (e0.bs b o e).1
  have hkind : ∀ y ∈ ps.zip us, scope.names.lookup y.1 = some .local ∨ (scope.names.lookup y.1 = some .cell ∧ ((cellsFrom (s.heap.objs.size + 1) scope.names []).lookup y.1).isSome = true) := fun ⟨n, v⟩ hy => by
    rcases S.par n (List.of_mem_zip hy).1 with q | q
    · exact .inl q
    · exact .inr ⟨q, PySem.W.cellsFrom_some _ _ _ (.inl q)⟩
  refine codeAny_call_function hr.depth (KX _ _ lk) rfl S.co S.gen rfl (PySem.W.codeRec_of KX hcd) (hb _ _ _ _ ?_)
  refine wpAny_newFunctionEnv_cells S.kind hkind fun env he s1 x => ?_
  subst he
  refine ⟨lim.keeps x.toInCall.keep, codeAny_func ?_⟩
  obtain ⟨t, ht, hq⟩ := hbody A outer s H vs Q E (hr.deeper _) hsp
  have I : Inv (cxOf CX P w K mg base N qual scope f cdv A outer s H E) [] (start N vs) H s1 := inv_start S hr.hd e0 hl r x
  refine wpAny_mono (ht [] s1 (start N vs) H _ I hq) (fun fl s' hs => ?_) fun e s' hs => hs
  have fin : ∀ {σ' : St} {H' : Hp} {v : V} {u : Value}, Inv (cxOf CX P w K mg base N qual scope f cdv A outer s H E) [] σ' H' s' → RelV v u → Q v H' → CE outer P w H s Q u s' :=
    fun {σ' H' v u} J rv q => ⟨v, H', J.os, J.bare, J.base, J.hok, rv, q⟩
  cases fl with
  | ret u =>
    obtain ⟨v, σ', H', J, rv, q⟩ := hs
    exact fin J rv q
  | next =>
    obtain ⟨σ', H', J, q⟩ := hs
    exact fin (v := V.non) (u := Value.none) J rfl q
  | brk =>
    obtain ⟨_, _, _, q⟩ := hs
    exact False.elim q
  | cont =>
    obtain ⟨_, _, _, q⟩ := hs
    exact False.elim q
end L2
namespace L2
open PySem PySem.Spec PyProof.Rows
section
variable {X : Cx} {x : Str} {p pos : Pos} {e : Expr} {es : List Expr} {t : TA} {id T : String} {r : List V → Hp → VK → Prop}
def tCB (r : List V → Hp → VK → Prop) (t : TA) : TE := fun σ H Q => t σ H fun vs H1 => r vs H1 Q
theorem pe_callB (hc : CallR X (.builtin id) r) (hg : Gl X x) (hm : X.mg x = none) (hv : bootBuiltins x = some (.builtin id)) (ha : PA X (e :: es) t) (hn : x ≠ "__name__" := by decide) (hdb : (x == ("__debug__" : Str)) = false := by decide)
    (he : starEach (e :: es) X.env = (false, eval e X.env) :: starEach es X.env := by rfl) (hpl : (backTo pos (starEach es X.env)).any (·.1) = false := by rfl) : PE X (.Call (.Name x p) (e :: es) [] pos) (tCB r t) := by
  intro pins s σ H Q I h
  refine wpAny_Call_Name_kw (ld_blt I hg hm hv ?_ hn hdb)
  exact PyProof.Rows.callWith_builtin1 (thn (ha pos pins s σ H _ I h) fun us s1 ⟨vs, H1, I1, r1, q1⟩ => hc pins s1 σ H1 vs us Q I1 r1 q1) he hpl
theorem pe_callTy (hc : CallR X (.type T) r) (hg : Gl X x) (hm : X.mg x = none) (hv : bootBuiltins x = some (.type T)) (ha : PA X (e :: es) t) (hn : x ≠ "__name__" := by decide) (hdb : (x == ("__debug__" : Str)) = false := by decide)
    (he : starEach (e :: es) X.env = (false, eval e X.env) :: starEach es X.env := by rfl) (hpl : (backTo pos (starEach es X.env)).any (·.1) = false := by rfl) : PE X (.Call (.Name x p) (e :: es) [] pos) (tCB r t) := by
  intro pins s σ H Q I h
  refine wpAny_Call_Name_kw (ld_blt I hg hm hv ?_ hn hdb)
  exact PyProof.Rows.callWith_type1 (thn (ha pos pins s σ H _ I h) fun us s1 ⟨vs, H1, I1, r1, q1⟩ => hc pins s1 σ H1 vs us Q I1 r1 q1) he hpl
end
end L2
namespace HT
open PySem PyProof.Rows
def lexLt : List Int → List Int → Bool
  | [], [] => false
  | [], _ :: _ => true
  | _ :: _, [] => false
  | x :: xs, y :: ys => if x = y then lexLt xs ys else decide (x < y)
theorem lexLt_cons (x y : Int) (xs ys : List Int) : lexLt (x :: xs) (y :: ys) = if x = y then lexLt xs ys else decide (x < y) := rfl
theorem lexLt_nil_nil : lexLt [] [] = false := rfl
theorem lexLt_nil_cons (y : Int) (ys : List Int) : lexLt [] (y :: ys) = true := rfl
theorem lexLt_cons_nil (x : Int) (xs : List Int) : lexLt (x :: xs) [] = false := rfl
theorem eqAt_int (A : Around) (s : Shared) (a : Int) (t : Tok) (c : Int) (u : Tok) : ∃ e, SeqAt.EqAt A s (.int a t) (.int c u) e ∧ (e = true ↔ a = c) :=
  ⟨(a == c), SeqAt.EqAt.int_int a t c u, by simp⟩
theorem rcLt_int (A : Around) (s : Shared) (a : Int) (t : Tok) (c : Int) (u : Tok) (prog : Program) (w : World) (E : Value → Shared → Prop) (Q : Value → Shared → Prop) (h : Q (.bool (decide (a < c))) s) :
    wpAny (model prog w) A (richCompare .Lt (.int a t) (.int c u)) Q E s :=
  (PyProof.Rows.lt_int h : wpAny (model prog w) A (compareOp .Lt (.int a t) (.int c u)) Q E s)
section
open PySem.SeqAt
open PySem.AutoSeq1 (wpAny_loadPart')
open PySem.MeetsSeq PySem.MeetsSeq2 PySem.MeetsSeq3
theorem tuple_lt_ints (l b : Addr) (items items2 : Array Value) (n n2 : Nat) (dd dd2 : Option Addr) (sl sl2 : Array (Option Value)) (ns ms : List Int) (hi : IntsAre items.toList ns) (hj : IntsAre items2.toList ms) :
    Meets (Builtin.«tuple.__lt__» ⟨[.ref l, .ref b], []⟩)
      (fun _ R s => s.heap.get? l = some { cls := .type "tuple", dict := dd, data := .seq items n, slots := sl } ∧ s.heap.get? b = some { cls := .type "tuple", dict := dd2, data := .seq items2 n2, slots := sl2 } ∧
        R (.ok (.ret (.bool (lexLt ns ms)))) s) :=
  .of_wp fun prog w A R s h => by
    obtain ⟨hp, g, d, tk, os⟩ := s; obtain ⟨hl, hb, h⟩ := h
    have f2 := AutoSeq1.sub_tuple_tuple
    have z1 : items.size = ns.length := by rw [← hi.length]; simp
    have z2 : items2.size = ms.length := by rw [← hj.length]; simp
    wp_walk using wpAny_loadPart' hl, wpAny_loadPart' hb, wpAny_forIn_list _ (fun rest b s' => b.1 = none ∧ s' = ⟨hp, g, d, tk, os⟩ ∧ ∃ (vs ws : List Value) (ns' ms' : List Int), rest = vs.zip ws ∧
      IntsAre vs ns' ∧ IntsAre ws ms' ∧ ns'.length + items2.size = ms'.length + items.size ∧ R (.ok (.ret (.bool (lexLt ns' ms')))) ⟨hp, g, d, tk, os⟩) _
    case turn =>
      rintro ⟨y, x⟩ rest b s' ⟨hb', rfl, vs, ws, ns', ms', hz, hvi, hwi, hlen, hR⟩
      cases hvi with
      | nil => rw [List.zip_nil_left] at hz; cases hz
      | cons a t hvi' =>
        cases hwi with
        | nil => rw [List.zip_nil_right] at hz; cases hz
        | cons c u hwi' =>
          rw [List.zip_cons_cons] at hz
          injection hz with hyx hrest
          injection hyx with hy hx
          subst hy hx
          rw [lexLt_cons] at hR
          simp only [List.length_cons] at hlen
          obtain ⟨e, he, hiff⟩ := eqAt_int A.in1 ⟨hp, g, d, tk, os⟩ a t c u
          refine wpAny_bind (he prog w _ _ ?_)
          cases e with
          | true =>
            rw [if_pos (hiff.mp rfl)] at hR
            wp_walk
            exact ⟨rfl, rfl, _, _, _, _, hrest, hvi', hwi', by omega, hR⟩
          | false =>
            rw [if_neg (fun q => absurd (hiff.mpr q) Bool.false_ne_true)] at hR
            have hri := rcLt_int A.in1 ⟨hp, g, d, tk, os⟩ a t c u prog w
            wp_walk using hri
            exact ⟨_, rfl, by simpa using hR⟩
    case fin =>
      rintro ⟨b1, b2⟩ s' ⟨hb', rfl, vs, ws, ns', ms', hz, hvi, hwi, hlen, hR⟩
      simp only at hb'
      subst hb'
      have hv : lexLt ns' ms' = decide (items.size < items2.size) := by
        cases hvi with
        | nil =>
          cases hwi with
          | nil =>
            simp only [List.length_nil] at hlen
            rw [lexLt_nil_nil]
            exact (decide_eq_false (by omega)).symm
          | cons c u hw =>
            simp only [List.length_nil, List.length_cons] at hlen
            rw [lexLt_nil_cons]
            exact (decide_eq_true (by omega)).symm
        | cons a t hv =>
          cases hwi with
          | nil =>
            simp only [List.length_nil, List.length_cons] at hlen
            rw [lexLt_cons_nil]
            exact (decide_eq_false (by omega)).symm
          | cons c u hw =>
            rw [List.zip_cons_cons] at hz
            cases hz
      rw [hv] at hR
      wp_walk
      exact ⟨_, rfl, by simpa [Builtin.Tuple.tupleCompareSizes] using hR⟩
    case h =>
      exact ⟨rfl, rfl, items.toList, items2.toList, ns, ms, rfl, hi, hj, by omega, h⟩
end
section
variable {prog : Program} {w : World} {A : Around} {E : Value → Shared → Prop} {s : Shared}
theorem lt_tupInts {l b : Addr} {items items2 : Array Value} {ns ms : List Int} {Q : Value → Shared → Prop} (hl : IsTup s.heap l items) (hb : IsTup s.heap b items2) (hi : IntsAre items.toList ns) (hj : IntsAre items2.toList ms)
    (hu : A.units < cLine) (h : Q (.bool (lexLt ns ms)) s) : wpAny (model prog w) A (compareOp .Lt (.ref l) (.ref b)) Q E s := by
  obtain ⟨⟨cls, dd, data, sl⟩, ho, hc, n, hd⟩ := id hl
  obtain ⟨⟨cls2, dd2, data2, sl2⟩, ho2, hc2, n2, hd2⟩ := id hb
  simp only at hc hd hc2 hd2
  subst hc hd hc2 hd2
  exact richCompare_meets_room (op := .Lt) ⟨_, ho, rfl⟩ ⟨_, ho2, rfl⟩ PySem.F.slot_tuple_lt PySem.F.entry_tuple_lt (PySem.F.args_tuple_lt_2 _ _) (tuple_lt_ints l b items items2 n n2 dd dd2 sl sl2 ns ms hi hj)
    ⟨ho, ho2, show Value.bool (lexLt ns ms) ≠ Value.notImplemented ∧ Q (.bool (lexLt ns ms)) s from ⟨(fun x => nomatch x), h⟩⟩ hu
def sIx (n d : Nat) : Option Int → Nat
  | none => d
  | some v => if v < 0 then (v + (n : Int)).toNat else min v.toNat n
theorem sIx_none (n d : Nat) : sIx n d none = d := rfl
theorem sIx_nat (n d k : Nat) : sIx n d (some (k : Int)) = min k n := by
  show (if (k : Int) < 0 then ((k : Int) + (n : Int)).toNat else min (k : Int).toNat n) = min k n
  rw [if_neg (by omega), Int.toNat_natCast]
theorem sIx_le (n d : Nat) (hd : d ≤ n) (o : Option Int) : sIx n d o ≤ n := by
  cases o with
  | none => exact hd
  | some v =>
    show (if v < 0 then (v + (n : Int)).toNat else min v.toNat n) ≤ n
    by_cases hv : v < 0
    · rw [if_pos hv]; omega
    · rw [if_neg hv]; exact Nat.min_le_right _ _
theorem clip_eq (v : Int) (n d : Nat) : (if v < 0 then max (v + (n : Int)) 0 else min v (n : Int)) = ((sIx n d (some v) : Nat) : Int) := by
  show (if v < 0 then max (v + (n : Int)) 0 else min v (n : Int)) = (((if v < 0 then (v + (n : Int)).toNat else min v.toNat n) : Nat) : Int)
  by_cases hv : v < 0
  · simp only [if_pos hv]; omega
  · simp only [if_neg hv]; omega
theorem adjust_gen (lo hi : Option Int) (n : Nat) : Builtin.Slice.sliceAdjust lo hi 1 (n : Int) = (((sIx n 0 lo : Nat) : Int), ((sIx n n hi : Nat) : Int)) := by
  have h1 : ¬ ((1 : Int) < 0) := by omega
  unfold Builtin.Slice.sliceAdjust
  simp only [h1, if_false]
  refine Prod.ext ?_ ?_
  · cases lo with
    | none => rfl
    | some v => exact clip_eq v n 0
  · cases hi with
    | none => rfl
    | some v => exact clip_eq v n n
theorem places_gen (i j : Nat) : Builtin.Slice.slicePlaces (i : Int) (j : Int) 1 = j - i := by
  unfold Builtin.Slice.slicePlaces
  have h1 : (1 : Int) > 0 := by omega
  simp only [h1, if_true, Int.ediv_one]
  split <;> omega
theorem slicePart_ {v : Value} {o : Option Int} {Q : Option Int → Shared → Prop} (p : IsPart v o) (h : Q o s) : wpAny (model prog w) A (Builtin.Slice.slicePartIndex v) Q E s := by
  cases p with
  | none => exact slicePart_none h
  | int i t => exact slicePart_int h
theorem sliceApplied_gen {sl : Addr} {vl vu : Value} {lo hi : Option Int} {n : Nat} {Q : Int × Int × Nat → Shared → Prop} (hs : s.heap.IsSliceOf sl vl vu .none) (pl : IsPart vl lo) (pu : IsPart vu hi)
    (h : Q (((sIx n 0 lo : Nat) : Int), 1, sIx n n hi - sIx n 0 lo) s) : wpAny (model prog w) A (Builtin.Slice.sliceApplied (.ref sl) (pure (n : Int))) Q E s := by
  obtain ⟨os, hos, hcs, hds⟩ := id hs
  unfold Builtin.Slice.sliceApplied Builtin.Slice.sliceFields
  refine wpAny_bind (wpAny_bind (wpAny_field hos hds (x := vl) rfl (wpAny_bind (wpAny_field hos hds (x := vu) rfl (wpAny_bind (wpAny_field hos hds (x := .none) rfl (wpAny_pure ?_)))))))
  refine wpAny_bind (slicePart_none ?_)
  show wpAny _ _ (if ((1 : Int) == 0) = true then _ else _) _ _ s
  rw [if_neg (by decide)]
  refine wpAny_bind (slicePart_ pl (wpAny_bind (slicePart_ pu (wpAny_bind (wpAny_pure ?_)))))
  show wpAny _ _ (match Builtin.Slice.sliceAdjust lo hi 1 (n : Int) with | (lo, hi) => pure (lo, (1 : Int), Builtin.Slice.slicePlaces lo hi 1)) _ _ s
  rw [adjust_gen lo hi n]
  show wpAny _ _ (pure (((sIx n 0 lo : Nat) : Int), (1 : Int), Builtin.Slice.slicePlaces ((sIx n 0 lo : Nat) : Int) ((sIx n n hi : Nat) : Int) 1)) _ _ s
  rw [places_gen]
  exact wpAny_pure h
theorem pick_gen (xs : Array Value) (i k : Nat) : ((List.range k).filterMap fun (m : Nat) => xs[((i : Int) + (m : Int) * 1).toNat]?).toArray = ((xs.toList.drop i).take k).toArray := by
  have e : (fun (m : Nat) => xs[((i : Int) + (m : Int) * 1).toNat]?) = fun m => xs[i + m]? := by
    funext m
    have : ((i : Int) + (m : Int) * 1).toNat = i + m := by omega
    rw [this]
  rw [e]
  have := pick_run xs i k
  rw [List.filterMap_map] at this
  have e2 : ((fun x => xs[x]?) ∘ fun x => i + x) = fun m => xs[i + m]? := rfl
  rw [e2] at this
  rw [this]
theorem getItem_tuple_cut {t sl : Addr} {items : Array Value} {vl vu : Value} {lo hi : Option Int} {Q : Value → Shared → Prop} (ht : IsTup s.heap t items) (hs : s.heap.IsSliceOf sl vl vu .none) (pl : IsPart vl lo) (pu : IsPart vu hi)
    (hw : ¬ (sIx items.size 0 lo = 0 ∧ sIx items.size items.size hi = items.size))
    (h : Q (.ref s.heap.objs.size) { s with heap := s.heap.push { cls := .type "tuple", data := .seq ((items.toList.drop (sIx items.size 0 lo)).take (sIx items.size items.size hi - sIx items.size 0 lo)).toArray } })
    (hsz : items.size ≤ sizeLine) : wpAny (model prog w) A (getItem (.ref t) (.ref sl)) Q E s := by
  have htake : sizeOk (.seq ((items.toList.drop (sIx items.size 0 lo)).take (sIx items.size items.size hi - sIx items.size 0 lo)).toArray) := by
    show ((items.toList.drop (sIx items.size 0 lo)).take (sIx items.size items.size hi - sIx items.size 0 lo)).toArray.size ≤ sizeLine
    rw [List.size_toArray, List.length_take, List.length_drop, Array.length_toList]
    omega
  have hj : sIx items.size items.size hi ≤ items.size := sIx_le _ _ (Nat.le_refl _) hi
  obtain ⟨os, hos, hcs, hds⟩ := id hs
  have hTs : s.TypeIs (.ref sl) "slice" := ⟨os, hos, hcs⟩
  unfold getItem
  try with_reducible refine wpAny_holding ?_
  first | refine wpAny_bind (wpAny_pure ?_) | skip
  refine wpAny_bind (wpAny_sequenceKey ht.typeIs (by decide) ?_)
  refine wpAny_bind (wpAny_callSpecial?_slot (name := Str.ofString "__getitem__") ht.typeIs PyProof.Rows.slot_tuple_getitem
    (wpAny_call_entry PyProof.Rows.slot_tuple_getitem ht.typeIs entry_tuple_getitem ?_ (args_tuple_getitem _ _)))
  show wpAny _ _ (Builtin.Tuple.tupleItemsOf (.ref t) >>= _) _ _ s
  refine wpAny_bind (tupleItemsOf_ ht ?_)
  refine wpAny_bind (wpAny_typeOf hTs ?_)
  rw [if_pos (by decide)]
  refine wpAny_bind (sliceApplied_gen hs pl pu ?_)
  have hno : ¬ ((((sIx items.size 0 lo : Nat) : Int) == 0 && (1 : Int) == 1 && (sIx items.size items.size hi - sIx items.size 0 lo) == items.size) = true) := by
    intro q
    rw [Bool.and_eq_true, Bool.and_eq_true] at q
    have q1 : ((sIx items.size 0 lo : Nat) : Int) = 0 := eq_of_beq q.1.1
    have q2 : sIx items.size items.size hi - sIx items.size 0 lo = items.size := eq_of_beq q.2
    exact hw ⟨by omega, by omega⟩
  show wpAny _ _ (if (((sIx items.size 0 lo : Nat) : Int) == 0 && (1 : Int) == 1 && (sIx items.size items.size hi - sIx items.size 0 lo) == items.size) = true then _ else _) _ _ s
  rw [if_neg hno, pick_gen]
  first
    | exact wpAny_bind (m := Builtin.Tuple.tupleExact _) (wpAny_newObj_type (wpAny_pure ⟨_, rfl, wpAny_pure h⟩) htake)
    | exact wpAny_bind (m := Builtin.Tuple.tupleExact _) (wpAny_newObj_type (wpAny_bind (wpAny_pure (wpAny_pure ⟨_, rfl, wpAny_pure h⟩))) htake)
    | exact wpAny_bind (wpAny_bind (m := Builtin.Tuple.tupleExact _) (wpAny_newObj_type (wpAny_pure (wpAny_pure ⟨_, rfl, wpAny_pure h⟩)) htake))
    | exact wpAny_bind (wpAny_bind (m := Builtin.Tuple.tupleExact _) (wpAny_newObj_type (wpAny_pure ⟨_, rfl, wpAny_pure h⟩) htake))
end
end HT
namespace L2
open PySem PySem.Spec PyProof.Rows
abbrev TO := St → Hp → (Option Int → Hp → Prop) → Prop
def PO (X : Cx) (e : Option Expr) (t : TO) : Prop :=
  ∀ (pins : List (Addr × Obj)) (s : Shared) (σ : St) (H : Hp) (Q : Option Int → Hp → Prop), Inv X pins σ H s → t σ H Q →
    wpAny (model X.prog X.w) X.A (evalPart e X.env) (fun u s' => ∃ o H', Inv X pins σ H' s' ∧ IsPart u o ∧ Q o H') X.xe s
def tNoPart : TO := fun _ H Q => Q none H
def tPart (t : TE) : TO := fun σ H Q => t σ H fun x H1 => ∃ i, x = .int i ∧ Q (some i) H1
theorem intsAre_of {ns : List Int} : ∀ {us : List Value}, Vals (ns.map V.int) us → IntsAre us ns := by
  induction ns with
  | nil => intro us r; rw [List.map_nil] at r; cases r; exact .nil
  | cons n ns ih =>
    intro us r
    rw [List.map_cons] at r
    cases r with
    | cons r1 r2 =>
      obtain ⟨t, e⟩ := r1
      subst e
      exact .cons n t (ih r2)
section
variable {X : Cx} {e : Expr} {te : TE} {lo hi : Option Expr} {tl th : TO} {pos p2 : Pos}
theorem po_none : PO X none tNoPart := by
  intro pins s σ H Q I h
  rw [evalPart_none]
  exact wpAny_pure ⟨none, H, I, .none, h⟩
theorem po_some (h : PE X e te) : PO X (some e) (tPart te) := by
  intro pins s σ H Q I hw
  rw [evalPart_some]
  refine thn (h pins s σ H _ I hw) fun u s1 ⟨x, H1, I1, r1, q1⟩ => ?_
  obtain ⟨i, rfl, q⟩ := q1
  obtain ⟨t, rfl⟩ := r1
  exact ⟨some i, H1, I1, .int i t, q⟩
def SlR (X : Cx) (r : V → Option Int → Option Int → Hp → VK → Prop) : Prop :=
  ∀ (pins : List (Addr × Obj)) (s : Shared) (σ : St) (H : Hp) (x : V) (v vl vu : Value) (lo hi : Option Int) (sl : Addr) (Q : VK), Inv X pins σ H s → RelV x v → s.heap.IsSliceOf sl vl vu .none → IsPart vl lo → IsPart vu hi → r x lo hi H Q →
    ∃ T id, typeLookup (.type T) "__getitem__" = pure (some (.builtin id)) ∧ s.TypeIs v T ∧ wpAny (model X.prog X.w) X.A (getItem v (.ref sl)) (EP X pins σ Q) X.xe s
theorem SlR.or {r r' : V → Option Int → Option Int → Hp → VK → Prop} (h : SlR X r) (h' : SlR X r') : SlR X (fun x lo hi H Q => r x lo hi H Q ∨ r' x lo hi H Q) := by
  intro pins s σ H x v vl vu lo hi sl Q I rx hs pl pu q
  rcases q with q | q
  · exact h pins s σ H x v vl vu lo hi sl Q I rx hs pl pu q
  · exact h' pins s σ H x v vl vu lo hi sl Q I rx hs pl pu q
def tSl (r : V → Option Int → Option Int → Hp → VK → Prop) (te : TE) (tl th : TO) : TE := fun σ H Q => te σ H fun x H1 => tl σ H1 fun l H2 => th σ H2 fun u H3 => r x l u H3 Q
theorem pe_slice {r : V → Option Int → Option Int → Hp → VK → Prop} (hr : SlR X r) (he : PE X e te) (hl : PO X lo tl) (hu : PO X hi th) : PE X (.Subscript e (.Slice lo hi none p2) pos) (tSl r te tl th) := by
  intro pins s σ H Q I h
  refine Subscript_ (thn (he pins s σ H _ I h) fun v s1 ⟨x, H1, I1, r1, q1⟩ => ?_)
  refine wpAny_Slice (thn (hl pins s1 σ H1 _ I1 q1) fun vl s2 ⟨l, H2, I2, pl, q2⟩ => thn (hu pins s2 σ H2 _ I2 q2) fun vu s3 ⟨u, H3, I3, pu, q3⟩ => ?_)
  rw [evalPart_none]
  refine wpAny_pure ?_
  have I4 : Inv X pins σ H3 { s3 with heap := s3.heap.push { cls := .type "slice", data := .fields #[vl, vu, .none] } } := I3.kept (t' := s3.toks) fun b ob q => Heap.get?_push_of_some _ q
  obtain ⟨T, id, hT, ht, hg⟩ := hr pins { s3 with heap := s3.heap.push { cls := .type "slice", data := .fields #[vl, vu, .none] } } σ H3 x v vl vu l u s3.heap.objs.size Q I4 r1 (Heap.IsSliceOf.new ..) pl pu q3
  show wpAny (model X.prog X.w) X.A (subscriptTail e (.Slice lo hi none p2) v (.ref s3.heap.objs.size)) (EP X pins σ Q) X.xe { s3 with heap := s3.heap.push { cls := .type "slice", data := .fields #[vl, vu, .none] } }
  exact tail_any (ops := [.ref s3.heap.objs.size, v]) ht hT hg (by with_unfolding_all rfl)
def cutV (xs : List V) (lo hi : Option Int) : List V := (xs.drop (HT.sIx xs.length 0 lo)).take (HT.sIx xs.length xs.length hi - HT.sIx xs.length 0 lo)
theorem cutV_length (xs : List V) (lo hi : Option Int) : (cutV xs lo hi).length ≤ xs.length := by
  unfold cutV
  rw [List.length_take, List.length_drop]
  omega
def rSlT (K : PySem.W.Frag) : V → Option Int → Option Int → Hp → VK → Prop := fun x lo hi H Q => ∃ a xs, x = .ref a ∧ SqT K H a xs ∧
  ¬ (HT.sIx xs.length 0 lo = 0 ∧ HT.sIx xs.length xs.length hi = xs.length) ∧ ∀ p, H p = none → Q (.ref p) (upd H p (.tup (cutV xs lo hi)))
theorem sl_tup : SlR X (rSlT X.K) := by
  intro pins s σ H x v vl vu lo hi sl Q I rx hs pl pu h
  obtain ⟨a, xs, rfl, hx, hw, q⟩ := h
  cases rx
  obtain ⟨its, r, ht, hz⟩ := I.tuple hx
  have hlen : its.toArray.size = xs.length := by rw [List.size_toArray]; exact r.length.symm
  refine ⟨"tuple", _, PyProof.Rows.slot_tuple_getitem.lookup, ht.typeIs, ?_⟩
  refine HT.getItem_tuple_cut ht hs pl pu (by rw [hlen]; exact hw) ?_ (by rw [hlen]; exact hz)
  rw [hlen]
  refine ⟨.ref s.heap.objs.size, _, I.laid (t' := s.toks) (o := .tup (cutV xs lo hi)) (fun b ob q => Heap.get?_push_of_some _ q) (Nat.le_refl _) ?_, rfl, q _ (I.hok.fresh (Nat.le_refl _))⟩
  exact ⟨Nat.le_trans (cutV_length xs lo hi) hz, _, (r.drop (HT.sIx xs.length 0 lo)).take (HT.sIx xs.length xs.length hi - HT.sIx xs.length 0 lo), IsTup.new _ _⟩
def rLtT (K : PySem.W.Frag) : R2 := fun x y H Q => ∃ a b ns ms, x = .ref a ∧ y = .ref b ∧ SqT K H a (ns.map V.int) ∧ SqT K H b (ms.map V.int) ∧ Q (.bl (HT.lexLt ns ms)) H
theorem op_ltT (hu : X.A.units < cLine) : OpR X (compareOp .Lt) (rLtT X.K) := by
  intro pins s σ H x y v u Q I rx ry h
  obtain ⟨a, b, ns, ms, rfl, rfl, ha, hb, q⟩ := h
  cases rx
  cases ry
  obtain ⟨its, r1, p1, _⟩ := I.tuple ha
  obtain ⟨its2, r2, p2, _⟩ := I.tuple hb
  have i1 : IntsAre its.toArray.toList ns := intsAre_of r1
  have i2 : IntsAre its2.toArray.toList ms := intsAre_of r2
  exact HT.lt_tupInts p1 p2 i1 i2 hu ⟨.bl (HT.lexLt ns ms), H, I, rfl, q⟩
def rCatT (K : PySem.W.Frag) : R2 := fun x y H Q => ∃ a b xs ys, x = .ref a ∧ y = .ref b ∧ SqT K H a xs ∧ SqT K H b ys ∧ xs ≠ [] ∧ xs.length + ys.length ≤ sizeLine ∧
  (ys = [] → Q (.ref a) H) ∧ (ys ≠ [] → ∀ p, H p = none → Q (.ref p) (upd H p (.tup (xs ++ ys))))
end
end L2
namespace L2
open PySem PySem.Spec PyProof.Rows
def ixN (n : Nat) (i : Int) : Option Nat := if 0 ≤ i then (if i < n then some i.toNat else none) else if -(n : Int) ≤ i then some (i + n).toNat else none
def atI {α : Type} (xs : List α) (i : Int) : Option α := (ixN xs.length i).bind fun j => xs[j]?
theorem ixN_seq {n : Nat} {i : Int} {j : Nat} (h : ixN n i = some j) : seqIndex? i n = some j ∧ j < n ∧ -(n : Int) ≤ i ∧ i < n := by
  unfold ixN at h
  by_cases h0 : 0 ≤ i
  · rw [if_pos h0] at h
    by_cases h1 : i < n
    · rw [if_pos h1] at h
      have e : i.toNat = j := Option.some.inj h
      exact ⟨by rw [seqIndex_of h0 h1, e], by omega, by omega, h1⟩
    · rw [if_neg h1] at h; cases h
  · rw [if_neg h0] at h
    by_cases h1 : -(n : Int) ≤ i
    · rw [if_pos h1] at h
      have e : (i + n).toNat = j := Option.some.inj h
      exact ⟨by rw [seqIndex_neg (by omega) h1, e], by omega, h1, by omega⟩
    · rw [if_neg h1] at h; cases h
theorem atI_get {α : Type} {xs : List α} {i : Int} {v : α} (h : atI xs i = some v) : ∃ j, seqIndex? i xs.length = some j ∧ xs[j]? = some v ∧ j < xs.length ∧ -(xs.length : Int) ≤ i ∧ i < xs.length := by
  unfold atI at h
  cases e : ixN xs.length i with
  | none => rw [e] at h; cases h
  | some j =>
    rw [e] at h
    obtain ⟨h1, h2, h3, h4⟩ := ixN_seq e
    exact ⟨j, h1, h, h2, h3, h4⟩
theorem atI_nat {α : Type} {xs : List α} {j : Nat} {v : α} (h : xs[j]? = some v) : atI xs (j : Int) = some v := by
  have hj : j < xs.length := (List.getElem?_eq_some_iff.mp h).1
  have e : ixN xs.length (j : Int) = some j := by
    unfold ixN
    rw [if_pos (by omega), if_pos (by omega)]; simp
  unfold atI; rw [e]; exact h
def PlainIx (b : Expr) : Prop := ∀ o i, subscripted b false o i = operate [o, i] (getItem o i)
def IxR (X : Cx) (r : R2) : Prop :=
  ∀ (value slice : Expr) (pins : List (Addr × Obj)) (s : Shared) (σ : St) (H : Hp) (x y : V) (v u : Value) (Q : VK), Inv X pins σ H s → RelV x v → RelV y u → r x y H Q →
    subscripted slice false v u = operate [v, u] (getItem v u) → wpAny (model X.prog X.w) X.A (subscriptTail value slice v u) (EP X pins σ Q) X.xe s
def MtR (X : Cx) (id : String) (r : V → List V → Hp → VK → Prop) : Prop :=
  ∀ (pins : List (Addr × Obj)) (s : Shared) (σ : St) (H : Hp) (x : V) (xs : List V) (v : Value) (us : List Value) (Q : VK), Inv X pins σ H s → RelV x v → Vals xs us → r x xs H Q →
    wpAny (model X.prog X.w) X.A (call (.builtin id) (v :: us)) (EP X pins σ Q) X.xe s
section
variable {X : Cx} {a b : Expr} {ta tb : TE} {pos : Pos}
theorem IxR.or {r r' : R2} (h : IxR X r) (h' : IxR X r') : IxR X (fun x y H Q => r x y H Q ∨ r' x y H Q) := by
  intro value slice pins s σ H x y v u Q I rx ry q hs
  rcases q with q | q
  · exact h value slice pins s σ H x y v u Q I rx ry q hs
  · exact h' value slice pins s σ H x y v u Q I rx ry q hs
theorem MtR.or {id : String} {r r' : V → List V → Hp → VK → Prop} (h : MtR X id r) (h' : MtR X id r') : MtR X id (fun x xs H Q => r x xs H Q ∨ r' x xs H Q) := by
  intro pins s σ H x xs v us Q I rx rs q
  rcases q with q | q
  · exact h pins s σ H x xs v us Q I rx rs q
  · exact h' pins s σ H x xs v us Q I rx rs q
theorem pe_ix {r : R2} (hr : IxR X r) (ha : PE X a ta) (hb : PE X b tb) (hs : PlainIx b) : PE X (.Subscript a b pos) (tOp r ta tb) := by
  intro pins s σ H Q I h
  exact Subscript_ (binT ha hb I h fun v u s2 x y H2 I2 rx ry q => hr a b pins s2 σ H2 x y v u Q I2 rx ry q (hs _ _))
def rIxL (K : PySem.W.Frag) : R2 := fun x y H Q => ∃ p xs i v, x = .ref p ∧ y = .int i ∧ SqL K H p xs ∧ atI xs i = some v ∧ Q v H
def rIxT (K : PySem.W.Frag) : R2 := fun x y H Q => ∃ p xs i v, x = .ref p ∧ y = .int i ∧ SqT K H p xs ∧ atI xs i = some v ∧ Q v H
def rIxS : R2 := fun x y H Q => ∃ z i c, x = .str z ∧ y = .int i ∧ z.length ≤ sizeLine ∧ atI z.cps.toList i = some c ∧ Q (.str ⟨#[c]⟩) H
theorem ix_list : IxR X (rIxL X.K) := by
  intro value slice pins s σ H x y v u Q I rx ry h hs
  obtain ⟨p, xs, i, z, rfl, rfl, hq, he, q⟩ := h
  cases rx
  obtain ⟨t, rfl⟩ := ry
  obtain ⟨its, r, pl, hz⟩ := I.list hq
  obtain ⟨j, h1, h2, h3, h4, h5⟩ := atI_get he
  obtain ⟨w, ew, rw'⟩ := r.get h2
  have hl := r.length
  have hn := line63
  have fin : EP X pins σ Q w s := ⟨z, H, I, rw', q⟩
  by_cases h0 : 0 ≤ i
  · have hj : i.toNat = j := by
      rw [seqIndex_of h0 h5] at h1
      exact Option.some.inj h1
    exact item_listR pl.isList h0 (by omega) (by rw [hj]; simpa using ew) fin hs
  · have hj : (i + (its.toArray.size : Int)).toNat = j := by
      rw [seqIndex_neg (by omega) h4] at h1
      rw [List.size_toArray, ← hl]
      exact Option.some.inj h1
    exact subscriptTail_builtinR (x := w) pl.isList.typeIs slot_list_getitem.lookup
      (wpAny_getItem_list_neg (Q := fun r s' => r = w ∧ EP X pins σ Q r s') pl.isList (by omega) (by rw [List.size_toArray] <;> omega) (by omega) (by rw [hj]; simpa using ew) ⟨rfl, fin⟩) hs
theorem ix_tup : IxR X (rIxT X.K) := by
  intro value slice pins s σ H x y v u Q I rx ry h hs
  obtain ⟨p, xs, i, z, rfl, rfl, hq, he, q⟩ := h
  cases rx
  obtain ⟨t, rfl⟩ := ry
  obtain ⟨its, r, pl, hz⟩ := I.tuple hq
  obtain ⟨j, h1, h2, h3, h4, h5⟩ := atI_get he
  obtain ⟨w, ew, rw'⟩ := r.get h2
  have hl := r.length
  have hn := line63
  have fin : EP X pins σ Q w s := ⟨z, H, I, rw', q⟩
  exact subscriptTail_builtinR (x := w) pl.typeIs slot_tuple_getitem.lookup
    (getItem_tuple (j := j) (Q := fun r s' => r = w ∧ EP X pins σ Q r s') pl (by omega) (by omega) (by rw [List.size_toArray, ← hl]; exact h1) (by simpa using ew) ⟨rfl, fin⟩) hs
theorem ix_str : IxR X rIxS := by
  intro value slice pins s σ H x y v u Q I rx ry h hs
  obtain ⟨z, i, c, rfl, rfl, hz, he, q⟩ := h
  obtain ⟨t, rfl⟩ := rx
  obtain ⟨t', rfl⟩ := ry
  obtain ⟨j, h1, h2, h3, h4, h5⟩ := atI_get he
  have hl : z.cps.toList.length = z.length := by simp [Str.length]
  rw [hl] at h1 h4 h5
  have hn := line63
  exact tail_any (typeIs_str s z t) slot_str_getitem.lookup (getItem_str (c := c) (by
    have e1 : decide (i < -(2 ^ 63 : Int)) = false := decide_eq_false (by omega)
    have e2 : decide (i ≥ 2 ^ 63) = false := decide_eq_false (by omega)
    rw [e1, e2, Bool.or_false]) (by rw [h1]; simpa using h2) ⟨.str ⟨#[c]⟩, H, I.tok _, ⟨_, rfl⟩, q⟩) hs
theorem mapSeq_set (its : List Value) (n j : Nat) (u : Value) : Obj.mapSeq (·.setIfInBounds j u) { cls := .type "list", data := .seq its.toArray n } = { cls := .type "list", data := .seq (its.set j u).toArray n } := by
  simp [Obj.mapSeq]
theorem Inv.lst {pins : List (Addr × Obj)} {σ : St} {H : Hp} {s : Shared} {p : Addr} {xs : List V} (I : Inv X pins σ H s) (h : H p = some (.lst xs)) :
    ∃ (its : List Value) (n : Nat), Vals xs its ∧ s.heap.get? p = some { cls := .type "list", data := .seq its.toArray n } ∧ xs.length ≤ sizeLine := by
  obtain ⟨z, its, n, r, e⟩ := I.hok p _ h
  exact ⟨its, n, r, e, z⟩
theorem Inv.lstUpd {pins : List (Addr × Obj)} {σ : St} {H : Hp} {s : Shared} {p : Addr} {xs ys : List V} {its its' : List Value} {n n' : Nat} {f : Obj → Obj} (I : Inv X pins σ H s) (h : H p = some (.lst xs))
    (ho : s.heap.get? p = some { cls := .type "list", data := .seq its.toArray n }) (hf : f { cls := .type "list", data := .seq its.toArray n } = { cls := .type "list", data := .seq its'.toArray n' }) (r : Vals ys its') (hz : ys.length ≤ sizeLine) (t : Nat) :
    Inv X pins σ (upd H p (.lst ys)) { s with heap := s.heap.update p f, toks := t } := by
  have e : (s.heap.update p f).get? p = some { cls := .type "list", data := .seq its'.toArray n' } := by
    rw [Heap.get?_update_self f ho (by rw [hf] <;> rfl), hf]
  refine I.write (x := p) (e := p) (by rw [h]; trivial) (.inl rfl) (fun b u hb q => (Heap.get?_update_other _ _ (Ne.symm hb)).trans q) ⟨_, e⟩ ?_
  exact ⟨hz, its', n', r, e⟩
def rSetL : V → V → V → Hp → (Hp → Prop) → Prop := fun o i v H Q => ∃ p xs k j, o = .ref p ∧ i = .int k ∧ H p = some (.lst xs) ∧ ixN xs.length k = some j ∧ Q (upd H p (.lst (xs.set j v)))
theorem set_list : PSet X rSetL := by
  intro pins s σ H o i v ov iv u Q I ro ri rv h
  obtain ⟨p, xs, k, j, rfl, rfl, hp, hj, q⟩ := h
  cases ro
  obtain ⟨t, rfl⟩ := ri
  obtain ⟨its, n, r, ho, hz⟩ := I.lst hp
  obtain ⟨h1, h2, h3, h4⟩ := ixN_seq hj
  have hl := r.length
  have hn := line63
  have I' : Inv X pins σ (upd H p (.lst (xs.set j v))) { s with heap := s.heap.update p (Obj.mapSeq (·.setIfInBounds j u)) } :=
    I.lstUpd hp ho (mapSeq_set its n j u) (r.set rv j) (by rw [List.length_set]; exact hz) s.toks
  by_cases h0 : 0 ≤ k
  · have hk : k.toNat = j := by
      rw [seqIndex_of h0 h4] at h1
      exact Option.some.inj h1
    exact PySem.W.ki_setAt ho h0 (by omega) (by rw [List.size_toArray, ← hl]; exact h4) (by rw [hk]; exact ⟨_, I', q⟩)
  · have hk : (k + (its.toArray.size : Int)).toNat = j := by
      rw [seqIndex_neg (by omega) h3] at h1
      rw [List.size_toArray, ← hl]
      exact Option.some.inj h1
    exact PySem.W.ki_setBack ho (by omega) (by rw [List.size_toArray, ← hl]; exact h3) (by omega) (by rw [hk]; exact ⟨_, I', q⟩)
theorem slice_bounds (lo hi : Option Int) (n : Nat) : (sliceBounds lo hi none n).1 = ((HT.sIx n 0 lo : Nat) : Int) ∧ (sliceBounds lo hi none n).2.1 = ((HT.sIx n n hi : Nat) : Int) ∧ (sliceBounds lo hi none n).2.2 = 1 := by
  refine ⟨?_, ?_, rfl⟩
  · cases lo with
    | none => simp [sliceBounds, HT.sIx]
    | some i =>
      simp only [sliceBounds, HT.sIx, Option.getD_none, show (1 : Int) > 0 by decide, if_true]
      by_cases h : i < 0
      · simp only [h, if_true] <;> omega
      · simp only [h, if_false] <;> omega
  · cases hi with
    | none => simp [sliceBounds, HT.sIx]
    | some i =>
      simp only [sliceBounds, HT.sIx, Option.getD_none, show (1 : Int) > 0 by decide, if_true]
      by_cases h : i < 0
      · simp only [h, if_true] <;> omega
      · simp only [h, if_false] <;> omega
theorem slicePick_cut (its : List Value) (lo hi : Option Int) : slicePick its.toArray lo hi none = ((its.drop (HT.sIx its.length 0 lo)).take (HT.sIx its.length its.length hi - HT.sIx its.length 0 lo)).toArray := by
  obtain ⟨h1, h2, h3⟩ := slice_bounds lo hi its.toArray.size
  unfold slicePick
  rw [h1, h2, h3]
  simp only [sliceRange_one, pick_run, List.size_toArray] <;> rfl
def rSlL (K : PySem.W.Frag) : V → Option Int → Option Int → Hp → VK → Prop := fun x lo hi H Q => ∃ a xs, x = .ref a ∧ SqL K H a xs ∧ ∀ p, H p = none → Q (.ref p) (upd H p (.lst (cutV xs lo hi)))
theorem sl_list : SlR X (rSlL X.K) := by
  intro pins s σ H x v vl vu lo hi sl Q I rx hs pl pu h
  obtain ⟨a, xs, rfl, hx, q⟩ := h
  cases rx
  obtain ⟨its, r, ht, hz⟩ := I.list hx
  have hlen := r.length
  refine ⟨"list", _, slot_list_getitem.lookup, ht.isList.typeIs, ?_⟩
  refine wpAny_getItem_list_slice ht.isList hs pl pu .none (by simp) ?_ (by rw [List.size_toArray] <;> omega)
  rw [slicePick_cut, ← hlen]
  refine ⟨.ref s.heap.objs.size, _, I.laid (t' := s.toks) (o := .lst (cutV xs lo hi)) (fun b ob q => Heap.get?_push_of_some _ q) (Nat.le_refl _) ?_, rfl, q _ (I.hok.fresh (Nat.le_refl _))⟩
  exact ⟨Nat.le_trans (cutV_length xs lo hi) hz, _, 0, (r.drop (HT.sIx xs.length 0 lo)).take (HT.sIx xs.length xs.length hi - HT.sIx xs.length 0 lo), Heap.get?_push_size _ rfl⟩
def flatV : V → Bool
  | .non => true
  | .bl _ => true
  | .int _ => true
  | .str _ => true
  | _ => false
def eqV : V → V → Bool
  | .non, .non => true
  | .bl a, .bl b => a == b
  | .bl a, .int b => (if a then 1 else 0) == b
  | .int a, .bl b => a == (if b then 1 else 0)
  | .int a, .int b => a == b
  | .str a, .str b => a == b
  | _, _ => false
theorem eqAt_V {A : Around} {s : Shared} {y x : V} {u v : Value} (ry : RelV y u) (rx : RelV x v) (fy : flatV y = true) (fx : flatV x = true) : SeqAt.EqAt A s u v (eqV y x) := by
  cases y with
  | non =>
    cases ry
    cases x with
    | non => cases rx; exact SeqAt.EqAt.same _
    | bl b => cases rx; exact SeqAt.EqAt.none_bool b
    | int b => obtain ⟨t, rfl⟩ := rx; exact SeqAt.EqAt.none_int b t
    | str b => obtain ⟨t, rfl⟩ := rx; exact SeqAt.EqAt.none_str b t
    | _ => exact absurd (show false = true from fx) Bool.false_ne_true
  | bl a =>
    cases ry
    cases x with
    | non => cases rx; exact SeqAt.EqAt.bool_none a
    | bl b => cases rx; exact SeqAt.EqAt.bool_bool a b
    | int b => obtain ⟨t, rfl⟩ := rx; exact SeqAt.EqAt.bool_int a b t
    | str b => obtain ⟨t, rfl⟩ := rx; exact SeqAt.EqAt.bool_str a b t
    | _ => exact absurd (show false = true from fx) Bool.false_ne_true
  | int a =>
    obtain ⟨t', rfl⟩ := ry
    cases x with
    | non => cases rx; exact SeqAt.EqAt.int_none a t'
    | bl b => cases rx; exact SeqAt.EqAt.int_bool a t' b
    | int b => obtain ⟨t, rfl⟩ := rx; exact SeqAt.EqAt.int_int a t' b t
    | str b => obtain ⟨t, rfl⟩ := rx; exact SeqAt.EqAt.int_str a t' b t
    | _ => exact absurd (show false = true from fx) Bool.false_ne_true
  | str a =>
    obtain ⟨t', rfl⟩ := ry
    cases x with
    | non => cases rx; exact SeqAt.EqAt.str_none a t'
    | bl b => cases rx; exact SeqAt.EqAt.str_bool a t' b
    | int b => obtain ⟨t, rfl⟩ := rx; exact SeqAt.EqAt.str_int a t' b t
    | str b => obtain ⟨t, rfl⟩ := rx; exact SeqAt.EqAt.str_str a t' b t
    | _ => exact absurd (show false = true from fx) Bool.false_ne_true
  | _ => exact absurd (show false = true from fy) Bool.false_ne_true
def eqU (x : V) (u : Value) : Bool := match u with
  | .none => eqV .non x
  | .bool b => eqV (.bl b) x
  | .int i _ => eqV (.int i) x
  | .str z _ => eqV (.str z) x
  | _ => false
theorem eqU_of {x y : V} {u : Value} (r : RelV y u) (f : flatV y = true) : eqU x u = eqV y x := by
  cases y with
  | non => cases r; rfl
  | bl b => cases r; rfl
  | int i => obtain ⟨t, rfl⟩ := r; rfl
  | str z => obtain ⟨t, rfl⟩ := r; rfl
  | _ => exact absurd (show false = true from f) Bool.false_ne_true
theorem any_eqU {x : V} : ∀ {xs : List V} {us : List Value}, Vals xs us → xs.all flatV = true → us.any (eqU x) = xs.any fun y => eqV y x
  | _, _, .nil, _ => rfl
  | y :: xs, u :: us, .cons r t, f => by
    rw [List.all_cons, Bool.and_eq_true] at f
    rw [List.any_cons, List.any_cons, eqU_of r f.1, any_eqU t f.2]
theorem mem_eqAt {A : Around} {s : Shared} {x : V} {v : Value} (rx : RelV x v) (fx : flatV x = true) : ∀ {xs : List V} {us : List Value}, Vals xs us → xs.all flatV = true → ∀ u ∈ us, SeqAt.EqAt A s u v (eqU x u)
  | _, _, .nil, _ => fun u hu => by cases hu
  | y :: xs, u :: us, .cons r t, f => fun u' hu => by
    rw [List.all_cons, Bool.and_eq_true] at f
    rcases List.mem_cons.mp hu with rfl | hu
    · rw [eqU_of r f.1]; exact eqAt_V r rx f.1 fx
    · exact mem_eqAt rx fx t f.2 u' hu
def inV (x : V) (xs : List V) : Bool := xs.any fun y => eqV y x
def rIn (K : PySem.W.Frag) (neg : Bool) : R2 := fun x y H Q => ∃ p xs, y = .ref p ∧ (SqL K H p xs ∨ SqT K H p xs) ∧ flatV x = true ∧ xs.all flatV = true ∧ Q (.bl (if neg then !inV x xs else inV x xs)) H
theorem op_in_seq : OpR X (compareOp .In) (rIn X.K false) := by
  intro pins s σ H x y v u Q I rx ry h
  obtain ⟨p, xs, rfl, hq, fx, fs, q⟩ := h
  cases ry
  rcases hq with hq | hq
  · obtain ⟨its, r, pl, hz⟩ := I.list hq
    refine SeqAt.in_listAt (eqU x) pl.isList (fun w hw => mem_eqAt rx fx r fs w (by simpa using hw)) ⟨.bl _, H, I, rfl, ?_⟩
    rw [show its.toArray.any (eqU x) = its.any (eqU x) by simp, any_eqU r fs]
    exact q
  · obtain ⟨its, r, pl, hz⟩ := I.tuple hq
    refine SeqAt.in_tupleAt (eqU x) pl (fun w hw => mem_eqAt rx fx r fs w (by simpa using hw)) ⟨.bl _, H, I, rfl, ?_⟩
    rw [show its.toArray.any (eqU x) = its.any (eqU x) by simp, any_eqU r fs]
    exact q
theorem CallR.or {f : Value} {r r' : List V → Hp → VK → Prop} (h : CallR X f r) (h' : CallR X f r') : CallR X f (fun xs H Q => r xs H Q ∨ r' xs H Q) := by
  intro pins s σ H xs us Q I rs q
  rcases q with q | q
  · exact h pins s σ H xs us Q I rs q
  · exact h' pins s σ H xs us Q I rs q
theorem call_list_of : CallR X (.type "list") (fun xs H Q => ∃ p ys, xs = [.ref p] ∧ (SqL X.K H p ys ∨ SqT X.K H p ys) ∧ ∀ l, H l = none → Q (.ref l) (upd H l (.lst ys))) := by
  intro pins s σ H xs us Q I r h
  obtain ⟨p, ys, rfl, hq, q⟩ := h
  obtain ⟨u, rfl, rx⟩ := vals1 r
  cases rx
  have fin : ∀ (its : List Value), Vals ys its → ys.length ≤ sizeLine → ∀ (h' : Heap) (c' : Nat), (∀ b o', s.heap.get? b = some o' → h'.get? b = some o') →
      h'.get? s.heap.objs.size = some { cls := .type "list", dict := none, data := .seq its.toArray c', slots := #[] } → EP X pins σ Q (.ref s.heap.objs.size) { s with heap := h' } := fun its r' hz h' c' kp e =>
    ⟨.ref s.heap.objs.size, _, I.laid (t' := s.toks) kp (Nat.le_refl _) (show ObjOk X.prog X.w _ h' _ (.lst ys) from ⟨hz, its, c', r', e⟩), rfl, q _ (I.hok.fresh (Nat.le_refl _))⟩
  rcases hq with hq | hq
  · obtain ⟨its, r', pl, hz⟩ := I.list hq
    have hlen := r'.length
    obtain ⟨o, ho, hc, n, hd⟩ := pl.isList
    exact call_list_seq p (.inl rfl) ho hc hd (fun h' c' kp e => fin its r' hz h' c' kp e) (by simp only [List.size_toArray] <;> omega)
  · obtain ⟨its, r', pl, hz⟩ := I.tuple hq
    have hlen := r'.length
    obtain ⟨o, ho, hc, n, hd⟩ := pl
    exact call_list_seq p (.inr rfl) ho hc hd (fun h' c' kp e => fin its r' hz h' c' kp e) (by simp only [List.size_toArray] <;> omega)
def tyV (K : PySem.W.Frag) (T : String) (x : V) (H : Hp) : Prop := match x with
  | .str _ => T = "str"
  | .int _ => T = "int"
  | .ref p => (T = "list" ∧ ∃ xs, SqL K H p xs) ∨ (T = "tuple" ∧ ∃ o, K.lookup p = some o ∧ o.cls = .type "tuple" ∧ o.dict = none) ∨
      (T = "dict" ∧ ((∃ kvs, H p = some (.dK kvs)) ∨ ∃ kvs, H p = some (.dT kvs))) ∨ (T = "set" ∧ ∃ S n, H p = some (.set S n))
  | _ => False
theorem tyV_is {pins : List (Addr × Obj)} {σ : St} {H : Hp} {s : Shared} {T : String} {x : V} {v : Value} (I : Inv X pins σ H s) (r : RelV x v) (ty : tyV X.K T x H) :
    s.TypeIs v T ∧ ∀ a, v = .ref a → ∃ ob, s.heap.get? a = some ob ∧ ob.dict = none := by
  cases x with
  | str z =>
    obtain ⟨t, rfl⟩ := r
    cases (show T = "str" from ty)
    exact ⟨typeIs_str s z t, fun _ e => nomatch e⟩
  | int i =>
    obtain ⟨t, rfl⟩ := r
    cases (show T = "int" from ty)
    exact ⟨typeIs_int s i t, fun _ e => nomatch e⟩
  | ref p =>
    cases r
    rcases ty with ⟨rfl, xs, hq⟩ | ⟨rfl, o, hk, hc, hd⟩ | ⟨rfl, hk⟩ | ⟨rfl, S, n, hk⟩
    · obtain ⟨its, _, pl, _⟩ := I.list hq
      refine ⟨pl.isList.typeIs, fun a e => ?_⟩
      cases e
      obtain ⟨o, n, e, c, hd, _⟩ := pl
      exact ⟨o, e, hd⟩
    · refine ⟨⟨o, I.kIn p o hk, hc⟩, fun a e => ?_⟩
      cases e
      exact ⟨o, I.kIn _ o hk, hd⟩
    · have z : ∃ o, s.heap.get? p = some o ∧ o.ExactDict := by
        rcases hk with ⟨kvs, hk⟩ | ⟨kvs, hk⟩
        · obtain ⟨_, _, _, _, o, _, _, e, ex, _⟩ := I.hok p _ hk
          exact ⟨o, e, ex⟩
        · obtain ⟨_, _, _, _, o, _, _, e, ex, _⟩ := I.hok p _ hk
          exact ⟨o, e, ex⟩
      obtain ⟨o, e, ex⟩ := z
      refine ⟨⟨o, e, ex.1⟩, fun a e2 => ?_⟩
      cases e2
      exact ⟨o, e, ex.2.1⟩
    · obtain ⟨o, _, _, _, e, ex, _⟩ := I.hok p _ hk
      refine ⟨⟨o, e, ex.1⟩, fun a e2 => ?_⟩
      cases e2
      exact ⟨o, e, ex.2.1⟩
  | _ => exact False.elim ty
def tBM0 (K : PySem.W.Frag) (T : String) (r : V → List V → Hp → VK → Prop) (to : TE) : TE := fun σ H Q => to σ H fun x H1 => tyV K T x H1 ∧ r x [] H1 Q
def tBM (K : PySem.W.Frag) (T : String) (r : V → List V → Hp → VK → Prop) (to : TE) (t : TA) : TE := fun σ H Q => to σ H fun x H1 => tyV K T x H1 ∧ t σ H1 fun xs H2 => r x xs H2 Q
variable {o e : Expr} {es : List Expr} {to : TE} {t : TA} {name : Str} {apos cpos : Pos} {T id : String} {r : V → List V → Hp → VK → Prop}
theorem pe_bm0 (pa : PlainAttrs T) (slot : Slot T name id) (hty : typeOf (.builtin id) = pure (.type "method_descriptor")) (hm : MtR X id r) (ho : PE X o to)
    (hbase : attributeBase o name X.env (eval o X.env) = eval o X.env := by rfl) (hline : (apos.endLine == cpos.line) = true := by rfl) : PE X (.Call (.Attribute o name apos) [] [] cpos) (tBM0 X.K T r to) := by
  intro pins s σ H Q I h
  refine wpAny_Call_method0_late hbase hline (thn (ho pins s σ H _ I h) fun v s1 ⟨x, H1, I1, r1, ty, q1⟩ => ?_)
  obtain ⟨h1, h2⟩ := tyV_is I1 r1 ty
  exact ⟨T, id, pa, slot, hty, h1, h2, Calls.callWith_builtin rfl (PySem.evalArgs_none (hm pins s1 σ H1 x [] v [] Q I1 r1 .nil q1))⟩
theorem pe_bm (pa : PlainAttrs T) (slot : Slot T name id) (hty : typeOf (.builtin id) = pure (.type "method_descriptor")) (hm : MtR X id r) (ho : PE X o to) (ha : PA X (e :: es) t)
    (hbase : attributeBase o name X.env (eval o X.env) = eval o X.env := by rfl)
    (hfew : ((backTo cpos (starEach (e :: es) X.env)).all (fun x => !x.1) && (backToKw cpos (keywordEach [] X.env)).all (fun x => x.1.isSome)
      && decide ((e :: es).length + ([] : List Keyword).length + (if ([] : List Keyword).isEmpty then 0 else 1) < 30)) = true := by rfl)
    (hline : (apos.endLine == cpos.line) = true := by rfl) (hs : starEach (e :: es) X.env = (false, eval e X.env) :: starEach es X.env := by rfl) (hplain : (backTo cpos (starEach es X.env)).any (·.1) = false := by rfl) :
    PE X (.Call (.Attribute o name apos) (e :: es) [] cpos) (tBM X.K T r to t) := by
  intro pins s σ H Q I h
  refine wpAny_Call_method_late hbase hfew hline rfl (thn (ho pins s σ H _ I h) fun v s1 ⟨x, H1, I1, r1, ty, q1⟩ => ?_)
  obtain ⟨h1, h2⟩ := tyV_is I1 r1 ty
  refine ⟨T, id, pa, slot, hty, h1, h2, ?_⟩
  have hA := ha cpos pins s1 σ H1 _ I1 q1
  rw [hs] at hA ⊢
  refine Calls.callWith_builtin (by show (false || (backTo cpos (starEach es X.env)).any (·.1)) = false; rw [hplain] <;> rfl) (Calls.evalArgs_plain ?_)
  exact thn hA fun us s2 ⟨vs, H2, I2, r2, q2⟩ => hm pins s2 σ H2 x vs v us Q I2 r1 r2 q2
end
end L2
namespace L2
open PySem PySem.Spec PyProof.Rows
def MtM (X : Cx) (id : String) (r : V → List V → Hp → VK → Prop) : Prop :=
  ∀ (pins : List (Addr × Obj)) (s : Shared) (σ : St) (H : Hp) (x : V) (xs : List V) (v : Value) (us : List Value) (Q : VK), Inv X pins σ H s → RelV x v → Vals xs us → r x xs H Q →
    wpAny (model X.prog X.w) X.A (call (.builtin id) (v :: us)) (EP X pins σ Q) X.xe s
theorem Vals.one : ∀ {x : V} {us : List Value}, Vals [x] us → ∃ u, us = [u] ∧ RelV x u
  | _, _, .cons r .nil => ⟨_, rfl, r⟩
theorem Vals.two : ∀ {x y : V} {us : List Value}, Vals [x, y] us → ∃ u v, us = [u, v] ∧ RelV x u ∧ RelV y v
  | _, _, _, .cons r (.cons q .nil) => ⟨_, _, rfl, r, q⟩
theorem Vals.zero : ∀ {us : List Value}, Vals [] us → us = []
  | _, .nil => rfl
theorem Vals.dropLast {xs : List V} {us : List Value} (h : Vals xs us) : Vals xs.dropLast us.dropLast := by
  induction h with
  | nil => exact .nil
  | cons r t ih =>
    cases t with
    | nil => exact .nil
    | cons q t' => exact .cons r ih
theorem Vals.eraseIdx : ∀ {xs : List V} {us : List Value} (i : Nat), Vals xs us → Vals (xs.eraseIdx i) (us.eraseIdx i)
  | _, _, _, .nil => .nil
  | _, _, 0, .cons _ t => t
  | _, _, i + 1, .cons r t => .cons r (Vals.eraseIdx i t)
theorem Vals.reverse {xs : List V} {us : List Value} (h : Vals xs us) : Vals xs.reverse us.reverse := by
  induction h with
  | nil => exact .nil
  | cons r t ih => rw [List.reverse_cons, List.reverse_cons]; exact Vals.append ih (.cons r .nil)
theorem Vals.rep {xs : List V} {us : List Value} (h : Vals xs us) : ∀ k : Nat, Vals (List.replicate k xs).flatten (List.replicate k us).flatten
  | 0 => .nil
  | k + 1 => by
    rw [List.replicate_succ, List.replicate_succ, List.flatten_cons, List.flatten_cons]
    exact Vals.append h (Vals.rep h k)
theorem foldl_rep (its : List Value) : ∀ (k : Nat) (acc : List Value),
    List.foldl (fun x1 x2 => x1 ++ x2) acc.toArray (List.replicate k its.toArray) = (acc ++ (List.replicate k its).flatten).toArray
  | 0, acc => by simp
  | k + 1, acc => by
    have e : acc.toArray ++ its.toArray = (acc ++ its).toArray := by simp
    have e2 : (acc ++ its) ++ (List.replicate k its).flatten = acc ++ (List.replicate (k + 1) its).flatten := by
      rw [List.replicate_succ, List.flatten_cons, List.append_assoc]
    rw [← e2, ← foldl_rep its k (acc ++ its), ← e, List.replicate_succ, List.foldl_cons]
section
variable {X : Cx} {pins : List (Addr × Obj)} {σ : St} {H : Hp} {s : Shared} {l b : Addr} {xs ys zs : List V}
theorem Inv.lset {its its' : List Value} {n : Nat} {f : Array Value → Array Value} {t' : Nat} (I : Inv X pins σ H s) (hH : H l = some (.lst xs))
    (e : s.heap.get? l = some { cls := .type "list", data := .seq its.toArray n }) (hf : f its.toArray = its'.toArray) (hv : Vals ys its') (hz : ys.length ≤ sizeLine) :
    Inv X pins σ (upd H l (.lst ys)) { s with heap := s.heap.update l (Obj.mapSeq f), toks := t' } := by
  have q := PySem.IsL.update e f
  rw [hf] at q
  refine I.write (x := l) (e := l) (by rw [hH]; exact trivial) (.inl rfl) (fun b' u hb hu => (Heap.get?_update_other s.heap (Obj.mapSeq f) (Ne.symm hb)).trans hu) ⟨_, q⟩ ?_
  exact ⟨hz, its', _, hv, q⟩
theorem Inv.lnew {its : List Value} {t' : Nat} (I : Inv X pins σ H s) (hv : Vals ys its) (hz : ys.length ≤ sizeLine) :
    Inv X pins σ (upd H s.heap.objs.size (.lst ys)) { s with heap := s.heap.push { cls := .type "list", data := .seq its.toArray }, toks := t' } :=
  I.laid (fun _ _ q => Heap.get?_push_of_some _ q) (Nat.le_refl _) ⟨hz, its, 0, hv, Heap.get?_push_size _ rfl⟩
theorem Inv.fresh (I : Inv X pins σ H s) : H s.heap.objs.size = none := I.hok.fresh (Nat.le_refl _)
theorem Inv.lstM (I : Inv X pins σ H s) (hH : H l = some (.lst xs)) : xs.length ≤ sizeLine ∧ ∃ (its : List Value) (n : Nat), Vals xs its ∧ xs.length = its.length ∧ s.heap.get? l = some { cls := .type "list", data := .seq its.toArray n } := by
  obtain ⟨z, its, n, r, e⟩ := I.hok l _ hH
  exact ⟨z, its, n, r, r.length, e⟩
theorem notLongL {n : Nat} (h : n ≤ sizeLine) : Builtin.List.listTooLong n = false := by
  unfold Builtin.List.listTooLong
  exact decide_eq_false (by omega)
end
section
variable {X : Cx}
def rAppend : V → List V → Hp → VK → Prop := fun x vs H Q => ∃ l xs y, x = .ref l ∧ vs = [y] ∧ H l = some (.lst xs) ∧ xs.length < sizeLine ∧ Q .non (upd H l (.lst (xs ++ [y])))
theorem mt_append : MtM X "list.append" rAppend := by
  intro pins s σ H x vs v us Q I rx rv h
  obtain ⟨l, xs, y, rfl, rfl, hH, hz, q⟩ := h
  cases rx
  obtain ⟨u, rfl, ru⟩ := rv.one
  obtain ⟨z, its, n, r, hl, e⟩ := I.lstM hH
  refine call_meets F.slot_list_append ⟨_, e, rfl⟩ F.entry_list_append (F.args_list_append_2 _ _) (PySem.list_append l its.toArray n u (by rw [List.size_toArray]; omega)) ⟨e, ?_⟩
  refine ⟨.non, _, I.lset (its' := its ++ [u]) hH e (by simp) (r.append (.cons ru .nil)) ?_, rfl, q⟩
  rw [List.length_append, List.length_singleton]
  omega
def rPop : V → List V → Hp → VK → Prop := fun x vs H Q => ∃ l xs y, x = .ref l ∧ vs = [] ∧ H l = some (.lst xs) ∧ xs[xs.length - 1]? = some y ∧ Q y (upd H l (.lst xs.dropLast))
def rCat : R2 := fun x y H Q => ∃ l b xs zs, x = .ref l ∧ y = .ref b ∧ H l = some (.lst xs) ∧ H b = some (.lst zs) ∧ xs.length + zs.length ≤ sizeLine ∧ ∀ p, H p = none → Q (.ref p) (upd H p (.lst (xs ++ zs)))
theorem op_cat : OpR X (binaryOp .Add) rCat := by
  intro pins s σ H x y v u Q I rx ry h
  obtain ⟨l, b, xs, zs, rfl, rfl, hH, hB, hz, q⟩ := h
  cases rx
  cases ry
  obtain ⟨z, its, n, r, hl, e⟩ := I.lstM hH
  obtain ⟨z2, its2, n2, r2, hl2, e2⟩ := I.lstM hB
  refine PySem.P.add_list e e2 ?_ (by rw [List.size_toArray, List.size_toArray]; omega)
  have ea : its.toArray ++ its2.toArray = (its ++ its2).toArray := by simp
  rw [ea]
  exact ⟨.ref _, _, I.lnew (t' := s.toks) (r.append r2) (by rw [List.length_append]; omega), rfl, q _ I.fresh⟩
def rRep : R2 := fun x y H Q => ∃ l k xs, x = .ref l ∧ y = .int k ∧ H l = some (.lst xs) ∧ -(2 ^ 63) ≤ k ∧ k < 2 ^ 63 ∧ xs.length * k.toNat ≤ sizeLine ∧
  ∀ p, H p = none → Q (.ref p) (upd H p (.lst (List.replicate k.toNat xs).flatten))
theorem len_rep {α : Type} (xs : List α) (k : Nat) : (List.replicate k xs).flatten.length = k * xs.length := by
  induction k with
  | zero => simp
  | succ k ih => rw [List.replicate_succ, List.flatten_cons, List.length_append, ih, Nat.succ_mul, Nat.add_comm]
theorem op_rep : OpR X (binaryOp .Mult) rRep := by
  intro pins s σ H x y v u Q I rx ry h
  obtain ⟨l, k, xs, rfl, rfl, hH, h1, h2, hz, q⟩ := h
  cases rx
  obtain ⟨t, rfl⟩ := ry
  obtain ⟨z, its, n, r, hl, e⟩ := I.lstM hH
  have hlen : its.toArray.size * k.toNat ≤ sizeLine := by rw [List.size_toArray, ← hl]; exact hz
  have hcap : ¬ its.toArray.size * k.toNat > (2 ^ 63 - 1) / 8 := by
    have : (sizeLine : Nat) ≤ (2 ^ 63 - 1) / 8 := by decide
    omega
  have hfit : ¬ (!Builtin.List.listFitsIndex k) = true := by
    rw [fitsIndex_both h1 h2]
    exact Bool.false_ne_true
  have hlong : ¬ Builtin.List.listTooLong (its.toArray.size * k.toNat) = true := by
    rw [notLongL hlen]
    exact Bool.false_ne_true
  have hnew : List.foldl (fun x1 x2 => x1 ++ x2) #[] (List.replicate (if its.toArray.isEmpty = true then 0 else k.toNat) its.toArray) = (List.replicate k.toNat its).flatten.toArray := by
    have f0 : ∀ m : Nat, List.foldl (fun x1 x2 => x1 ++ x2) #[] (List.replicate m its.toArray) = (List.replicate m its).flatten.toArray := fun m => by
      have := foldl_rep its m []
      rw [List.nil_append] at this
      exact this
    rw [f0]
    cases its with
    | nil => simp
    | cons a r' => rw [if_neg (by simp)]
  refine wpAny_binaryOp_repeat_ref (T := "list") (U := "int") (by decide) ⟨_, e, rfl⟩ (fun s' => typeIs_int s' k t) noFill_list_mul F.fills_int_mul F.slot_int_rmul repeat_list F.slot_int_index.lookup
    (call_meets F.slot_int_rmul (typeIs_int s k t) F.entry_int_rmul (F.args_int_rmul_2 _ _) (int___rmul___int_list k t l its.toArray n)
      ⟨e, rfl, ⟨_, e, rfl⟩, call_meets F.slot_list_mul ⟨_, e, rfl⟩ F.entry_list_mul (F.args_list_mul_2 _ _) (AutoListH.list___mul___list_int_3 l its.toArray n k t hfit hcap hlong) ⟨e, ?_⟩⟩)
  rw [hnew]
  exact ⟨.ref _, _, I.lnew (t' := s.toks) (r.rep k.toNat) (by rw [len_rep, Nat.mul_comm]; exact hz), rfl, q _ I.fresh⟩
end
section
variable {prog : Program} {w : World} {A : Around} {E : Value → Shared → Prop} {s : Shared}
end
section
variable {X : Cx}
end
end L2
namespace L2
open PySem PySem.Spec PyProof.Rows
section
variable {κ : Type} [DecidableEq κ]
def valV (kvs : List (κ × V)) (k : κ) : Option V := (kvs.find? fun kv => decide (kv.1 = k)).map (·.2)
def putK (kvs : List (κ × V)) (k : κ) (v : V) : List (κ × V) :=
  if (kvs.any fun kv => decide (kv.1 = k)) = true then kvs.map (fun kv => if kv.1 = k then (kv.1, v) else kv) else kvs ++ [(k, v)]
def dropK (kvs : List (κ × V)) (k : κ) : List (κ × V) := kvs.filter fun kv => decide (kv.1 ≠ k)
theorem valV_pos {p : κ × V} {r : List (κ × V)} {k : κ} (e : p.1 = k) : valV (p :: r) k = some p.2 := by simp [valV, List.find?_cons, e]
theorem valV_neg {p : κ × V} {r : List (κ × V)} {k : κ} (e : ¬ p.1 = k) : valV (p :: r) k = valV r k := by simp [valV, List.find?_cons, e]
theorem valV_any (k : κ) : ∀ kvs : List (κ × V), (kvs.any fun kv => decide (kv.1 = k)) = (valV kvs k).isSome
  | [] => rfl
  | p :: r => by
    rw [List.any_cons]
    by_cases e : p.1 = k
    · simp only [valV_pos e, decide_eq_true e, Bool.true_or, Option.isSome_some]
    · rw [valV_neg e, decide_eq_false e, Bool.false_or]; exact valV_any k r
theorem RelO.isSome_eq {o : Option V} {u : Option Value} (r : RelO o u) : o.isSome = u.isSome := by
  cases o with
  | none => cases u with
    | none => rfl
    | some _ => exact (show False from r).elim
  | some _ => cases u with
    | none => exact (show False from r).elim
    | some _ => rfl
theorem RelO.getD {o : Option V} {u : Option Value} {d : V} {d' : Value} (r : RelO o u) (rd : RelV d d') : RelV (o.getD d) (u.getD d') := by
  cases o with
  | none => cases u with
    | none => exact rd
    | some _ => exact (show False from r).elim
  | some _ => cases u with
    | none => exact (show False from r).elim
    | some _ => exact r
theorem KV.val {kvs : List (κ × V)} {vs : List (κ × Value)} (r : KV kvs vs) (k : κ) : RelO (valV kvs k) (valueAt vs k) := by
  unfold KV at r
  induction r with
  | nil => exact True.intro
  | @cons p q ps qs h t ih =>
    obtain ⟨h1, h2⟩ := h
    by_cases e : p.1 = k
    · have e' : q.1 = k := h1.symm.trans e
      have b : valueAt (q :: qs) k = some q.2 := by simp [valueAt, List.find?_cons, e']
      rw [valV_pos e, b]; exact h2
    · have e' : ¬ q.1 = k := fun z => e (h1.trans z)
      have b : valueAt (q :: qs) k = valueAt qs k := by simp [valueAt, List.find?_cons, e']
      rw [valV_neg e, b]; exact ih
theorem KV.any {kvs : List (κ × V)} {vs : List (κ × Value)} (r : KV kvs vs) (k : κ) : (kvs.any fun kv => decide (kv.1 = k)) = vs.any fun kv => decide (kv.1 = k) := by
  unfold KV at r
  induction r with
  | nil => rfl
  | cons h t ih => rw [List.any_cons, List.any_cons, ih, h.1]
theorem KV.repl {kvs : List (κ × V)} {vs : List (κ × Value)} (r : KV kvs vs) (k : κ) {y : V} {u : Value} (ry : RelV y u) :
    KV (kvs.map fun kv => if kv.1 = k then (kv.1, y) else kv) (vs.map fun kv => if kv.1 = k then (kv.1, u) else kv) := by
  unfold KV at r ⊢
  induction r with
  | nil => exact .nil
  | @cons p q ps qs h t ih =>
    rw [List.map_cons, List.map_cons]
    refine .cons ?_ ih
    obtain ⟨h1, h2⟩ := h
    by_cases e : p.1 = k
    · rw [if_pos e, if_pos (h1.symm.trans e)]; exact ⟨h1, ry⟩
    · rw [if_neg e, if_neg (fun z => e (h1.trans z))]; exact ⟨h1, h2⟩
theorem KV.put {kvs : List (κ × V)} {vs : List (κ × Value)} (r : KV kvs vs) (k : κ) {y : V} {u : Value} (ry : RelV y u) : KV (putK kvs k y) (stored vs k u) := by
  unfold putK stored
  rw [r.any k]
  by_cases e : (vs.any fun kv => decide (kv.1 = k)) = true
  · rw [if_pos e, if_pos e]; exact r.repl k ry
  · rw [if_neg e, if_neg e]; exact Paired.snoc r ⟨rfl, ry⟩
theorem KV.drop {kvs : List (κ × V)} {vs : List (κ × Value)} (r : KV kvs vs) (k : κ) : KV (dropK kvs k) (without vs k) := by
  unfold KV at r ⊢
  unfold dropK without
  induction r with
  | nil => exact .nil
  | @cons p q ps qs h t ih =>
    obtain ⟨h1, h2⟩ := h
    rw [List.filter_cons, List.filter_cons]
    by_cases e : p.1 = k
    · have a : ¬ decide (p.1 ≠ k) = true := by simp [e]
      have b : ¬ decide (q.1 ≠ k) = true := by simp [h1.symm.trans e]
      rw [if_neg a, if_neg b]; exact ih
    · have e' : ¬ q.1 = k := fun z => e (h1.trans z)
      have a : decide (p.1 ≠ k) = true := by simp [e]
      have b : decide (q.1 ≠ k) = true := by simp [e']
      rw [if_pos a, if_pos b]; exact .cons ⟨h1, h2⟩ ih
theorem KV.keys {kvs : List (κ × V)} {vs : List (κ × Value)} (r : KV kvs vs) : kvs.map (·.1) = vs.map (·.1) := by
  unfold KV at r
  induction r with
  | nil => rfl
  | cons h t ih => rw [List.map_cons, List.map_cons, ih, h.1]
theorem KV.length {kvs : List (κ × V)} {vs : List (κ × Value)} (r : KV kvs vs) : kvs.length = vs.length := Paired.length r
end
abbrev KT (H : Hp) : List (List Key × V) → List (List Key × Addr × Value) → Prop := Paired fun p q => p.1 = q.1 ∧ H q.2.1 = some (.tup (p.1.map kV)) ∧ RelV p.2 q.2.2
theorem KT.val {H : Hp} {kvs : List (List Key × V)} {xs : List (List Key × Addr × Value)} (r : KT H kvs xs) (k : List Key) : RelO (valV kvs k) ((atKey xs k).map (·.2)) := by
  induction r with
  | nil => exact True.intro
  | @cons p q ps qs h t ih =>
    obtain ⟨h1, _, h2⟩ := h
    by_cases e : p.1 = k
    · have e' : q.1 = k := h1.symm.trans e
      have b : atKey (q :: qs) k = some q.2 := by simp [atKey, List.find?_cons, e']
      rw [valV_pos e, b]; exact h2
    · have e' : ¬ q.1 = k := fun z => e (h1.trans z)
      have b : atKey (q :: qs) k = atKey qs k := by simp [atKey, List.find?_cons, e']
      rw [valV_neg e, b]; exact ih
theorem KT.repl {H : Hp} {kvs : List (List Key × V)} {xs : List (List Key × Addr × Value)} (r : KT H kvs xs) (k : List Key) {y : V} {u : Value} (ry : RelV y u) :
    KT H (kvs.map fun kv => if kv.1 = k then (kv.1, y) else kv) (xs.map (putAt k u)) := by
  induction r with
  | nil => exact .nil
  | @cons p q ps qs h t ih =>
    rw [List.map_cons, List.map_cons]
    refine .cons ?_ ih
    obtain ⟨h1, h2, h3⟩ := h
    unfold putAt
    by_cases e : p.1 = k
    · rw [if_pos e, if_pos (h1.symm.trans e)]; exact ⟨h1, h2, ry⟩
    · rw [if_neg e, if_neg (fun z => e (h1.trans z))]; exact ⟨h1, h2, h3⟩
theorem KT.put {H : Hp} {kvs : List (List Key × V)} {xs : List (List Key × Addr × Value)} (r : KT H kvs xs) (k : List Key) {b : Addr} {y : V} {u : Value} (hb : H b = some (.tup (k.map kV))) (ry : RelV y u) :
    KT H (putK kvs k y) (storedH xs k b u) := by
  have e : (kvs.any fun kv => decide (kv.1 = k)) = (atKey xs k).isSome := by
    rw [valV_any, (r.val k).isSome_eq, Option.isSome_map]
  unfold putK storedH
  rw [e]
  by_cases q : (atKey xs k).isSome = true
  · rw [if_pos q, if_pos q]; exact r.repl k ry
  · rw [if_neg q, if_neg q]; exact Paired.snoc r ⟨rfl, hb, ry⟩
theorem KT.keeps {H H' : Hp} {kvs : List (List Key × V)} {xs : List (List Key × Addr × Value)} (r : KT H kvs xs) (ht : ∀ b ys, H b = some (.tup ys) → H' b = some (.tup ys)) : KT H' kvs xs :=
  Paired.mapP r fun _ _ z => ⟨z.1, ht _ _ z.2.1, z.2.2⟩
section
variable {P : Program} {w : World} {H : Hp} {h : Heap} {a : Addr}
end
def DGet (H : Hp) (a : Addr) (y : V) (r : Option V) : Prop :=
  (∃ kvs k, Rd H a (.dK kvs) ∧ y = kV k ∧ r = valV kvs k) ∨ ∃ kvs k b, Rd H a (.dT kvs) ∧ y = .ref b ∧ H b = some (.tup (k.map kV)) ∧ r = valV kvs k
def DPut (H : Hp) (a : Addr) (y v : V) (H' : Hp) : Prop :=
  (∃ kvs k, H a = some (.dK kvs) ∧ y = kV k ∧ kvs.length < sizeLine ∧ H' = upd H a (.dK (putK kvs k v))) ∨
  ∃ kvs k b, H a = some (.dT kvs) ∧ y = .ref b ∧ H b = some (.tup (k.map kV)) ∧ kvs.length < sizeLine ∧ H' = upd H a (.dT (putK kvs k v))
theorem DGet.k {H : Hp} {a : Addr} {kvs : List (Key × V)} {k : Key} (e : H a = some (.dK kvs)) : DGet H a (kV k) (valV kvs k) := .inl ⟨kvs, k, .inl e, rfl, rfl⟩
theorem DGet.t {H : Hp} {a b : Addr} {kvs : List (List Key × V)} {k : List Key} (e : H a = some (.dT kvs)) (eb : H b = some (.tup (k.map kV))) : DGet H a (.ref b) (valV kvs k) := .inr ⟨kvs, k, b, .inl e, rfl, eb, rfl⟩
theorem DPut.k {H : Hp} {a : Addr} {kvs : List (Key × V)} {k : Key} {v : V} (e : H a = some (.dK kvs)) (hl : kvs.length < sizeLine) : DPut H a (kV k) v (upd H a (.dK (putK kvs k v))) := .inl ⟨kvs, k, e, rfl, hl, rfl⟩
theorem DPut.t {H : Hp} {a b : Addr} {kvs : List (List Key × V)} {k : List Key} {v : V} (e : H a = some (.dT kvs)) (eb : H b = some (.tup (k.map kV))) (hl : kvs.length < sizeLine) :
    DPut H a (.ref b) v (upd H a (.dT (putK kvs k v))) := .inr ⟨kvs, k, b, e, rfl, eb, hl, rfl⟩
section
variable {X : Cx} {pins : List (Addr × Obj)} {σ : St} {H : Hp} {s : Shared} {a : Addr} {y v : V} {u r : Value} {o : Option V} {A : Around} {E : Value → Shared → Prop}
theorem Inv.big (I : Inv X pins σ H s) : sysModules < s.heap.objs.size := by
  have h : mainGlobals < s.heap.objs.size := (I.mod.glob.keeps I.bk).lt
  exact Nat.lt_trans (by decide) h
end
section
variable {X : Cx} {pins : List (Addr × Obj)} {σ : St} {H : Hp} {s : Shared} {a : Addr} {kvs : List (Key × V)} {k : Key} {u : Value} {A : Around} {E : Value → Shared → Prop}
end
def tDGet (td ty : TE) : TE := fun σ H Q => td σ H fun x H1 => ty σ H1 fun y H2 => ∃ a v, x = .ref a ∧ DGet H2 a y (some v) ∧ Q v H2
section
variable {X : Cx} {o i e value : Expr} {pos pos' tpos : Pos} {td ty tv : TE}
end
def tDNewK : TE := fun _ H Q => ∀ p, H p = none → Q (.ref p) (upd H p (.dK []))
section
variable {X : Cx} {pos : Pos}
end
def tPairs : List (TE × TE) → St → Hp → (List (V × V) → Hp → Prop) → Prop
  | [], _, H, Q => Q [] H
  | (tk, tv) :: r, σ, H, Q => tk σ H fun x H1 => tv σ H1 fun y H2 => tPairs r σ H2 fun ps H3 => Q ((x, y) :: ps) H3
abbrev VV : List (V × V) → List (Value × Value) → Prop := Paired fun p q => RelV p.1 q.1 ∧ RelV p.2 q.2
def PPs (X : Cx) (pos : Pos) (keys : List (Option Expr)) (values : List Expr) (trs : List (TE × TE)) : Prop :=
  ∀ (pins : List (Addr × Obj)) (s : Shared) (σ : St) (H : Hp) (Q : List (V × V) → Hp → Prop), Inv X pins σ H s → tPairs trs σ H Q →
    wpAny (model X.prog X.w) X.A (evalPairs (pairTrees keys values X.env pos)) (fun vs s' => ∃ ps H', Inv X pins σ H' s' ∧ VV ps vs ∧ Q ps H') X.xe s
def mergeK (kvs more : List (Key × V)) : List (Key × V) := more.foldl (fun acc kv => putK acc kv.1 kv.2) kvs
def tDisp (trs : List (TE × TE)) : TE := fun σ H Q => ∀ p, H p = none → tPairs trs σ (upd H p (.dK [])) fun ps H2 => H2 p = some (.dK []) ∧ ∃ kvs : List (Key × V), ps = kvs.map (fun kv => (kV kv.1, kv.2)) ∧ kvs.length ≤ 15 ∧ Q (.ref p) (upd H2 p (.dK (mergeK [] kvs)))
structure M1 (X : Cx) (o : Expr) (m : Str) (apos : Pos) (e : Expr) (cpos : Pos) : Prop where
  base : attributeBase o m X.env (eval o X.env) = eval o X.env
  few : ((backTo cpos (starEach [e] X.env)).all (fun x => !x.1) && (backToKw cpos (keywordEach [] X.env)).all (fun x => x.1.isSome)
    && decide (([e] : List Expr).length + ([] : List Keyword).length + (if ([] : List Keyword).isEmpty then 0 else 1) < 30)) = true
  line : (apos.endLine == cpos.line) = true
  trees : backTo cpos (starEach [e] X.env) = [(false, eval e X.env)]
structure M2 (X : Cx) (o : Expr) (m : Str) (apos : Pos) (e f : Expr) (cpos : Pos) : Prop where
  base : attributeBase o m X.env (eval o X.env) = eval o X.env
  few : ((backTo cpos (starEach [e, f] X.env)).all (fun x => !x.1) && (backToKw cpos (keywordEach [] X.env)).all (fun x => x.1.isSome)
    && decide (([e, f] : List Expr).length + ([] : List Keyword).length + (if ([] : List Keyword).isEmpty then 0 else 1) < 30)) = true
  line : (apos.endLine == cpos.line) = true
  trees : backTo cpos (starEach [e, f] X.env) = [(false, eval e X.env), (false, eval f X.env)]
section
variable {X : Cx} {pins : List (Addr × Obj)} {σ : St} {H : Hp} {s : Shared} {a : Addr} {y d : V} {u r : Value} {o : Option V} {A : Around} {E : Value → Shared → Prop}
end
section
variable {X : Cx} {o e f : Expr} {apos cpos : Pos} {td ty tx : TE}
end
section
variable {X : Cx} {pins : List (Addr × Obj)} {σ : St} {H : Hp} {s : Shared} {a : Addr} {kvs : List (Key × V)} {A : Around} {E : Value → Shared → Prop}
end
section
variable {X : Cx} {pins : List (Addr × Obj)} {σ : St} {H : Hp} {s : Shared} {a : Addr} {y : V} {u : Value} {A : Around} {E : Value → Shared → Prop}
end
end L2
namespace Att
open PySem PySem.W PySem.Calls PyProof.Rows
theorem ints_of_wellAll {P : Params} {h : Heap} : ∀ (ns : List Int) (vs : List Value), WellAll P h vs (ns.map WData.int) → IntsAre vs ns := by
  intro ns
  induction ns with
  | nil =>
    intro vs w
    rw [List.map_nil] at w
    cases w
    exact .nil
  | cons n ns ih =>
    intro vs w
    rw [List.map_cons] at w
    cases w with
    | cons a b =>
      cases a
      exact .cons _ _ (ih _ b)
theorem script_of {l : OpenLaw} {n : Nat} (hn : l.most = some n) {P : Params} {h : Heap} {args : List WData} {vals : List Value}
    (hpre : l.row.toRowW.claim.pre args = true) (hwl : WellAll P h vals args) :
    ∃ a vs ns, vals = [Value.ref a] ∧ args = [WData.list (ns.map WData.int)] ∧ h.get? a = some { cls := .type "list", data := .seq vs.toArray } ∧ IntsAre vs ns ∧ ns.length ≤ n := by
  have hsh : WShape.hasAll [] args [.list .int] = true := (pre_splitW hpre).1
  have hc : l.pre.holds [] { args := args } = true := (pre_splitW hpre).2
  obtain ⟨d, r, rfl, h1, h2⟩ := hasAllW_cons hsh
  obtain rfl := hasAllW_nil h2
  obtain ⟨xs, rfl, h3⟩ := hasW_list h1
  obtain ⟨ns, rfl⟩ := items_int h3
  have hlen : ns.length ≤ n := by
    unfold OpenLaw.pre at hc
    have h4 : (WTm.not (.lt (.lit (.int (n : Int))) (.len (.arg 0)))).holds [] { args := [.list (ns.map .int)] } = true := by
      have h4 := (holds_andW hc).1
      rw [hn] at h4
      exact h4
    have h5 := condW_of h4 (w_not (w_lt w_lit (w_len_list (w_arg rfl))))
    rw [List.length_map] at h5
    refine Nat.le_of_not_lt fun q => ?_
    have q' : (n : Int) < ((ns.length : Nat) : Int) := by omega
    first
      | (rw [decide_eq_true q'] at h5; exact absurd h5 (by decide))
      | (simp at h5; omega)
  cases hwl with
  | cons w1 w2 =>
    cases w2
    cases w1 with
    | list ho hall => exact ⟨_, _, ns, rfl, rfl, ho, ints_of_wellAll ns _ hall, hlen⟩
theorem post_true (l : OpenLaw) (args : List WData) : l.row.toRowW.claim.post args (.bool true) args = true :=
  postW_of (r := l.row.toRowW) (X := (true == true))
    (show WShape.has [] (.bool true) .bool = true by first | rfl | decide | simp [WShape.has, WShape.arms, WShape.armsAll])
    (show (WTm.eq .res (.lit (.bool true))).value [] { args := args, res := some (.bool true), after := args } = some (.bool (true == true)) from w_eq_bool (w_res rfl) w_lit) rfl
theorem attach_call {l : OpenLaw} {n : Nat} {q : Program} {loose : List Str} {XP : (Str → Option Value) → Heap → Prop} {YP : World → Heap → Prop} {d : DefRec}
    (hn : l.most = some n) (hdf : d.params.defaults = [])
    (call : ∀ (w : World) (s₀ s₁ : Shared) (mg mb : Str → Option Value) (fa : Addr) (o : Obj) (pm cd doc : Value) (a : Addr) (vs : List Value) (ns : List Int),
      Ground q loose [] XP w s₀ mg mb s₁.heap → YP w s₁.heap →
      s₁.heap.get? fa = some o → o.data = .func (docDef d.name d.params d.body d.scope pm cd doc) → s₁.heap.CodeRec cd d.name → mg d.name = some (.ref fa) →
      s₁.heap.get? a = some { cls := .type "list", data := .seq vs.toArray } → IntsAre vs ns → ns.length ≤ n → s₁.gens = #[] →
      codeAny (model l.prog w) callerA (.call (.ref fa) ⟨[.ref a], []⟩) (fun r s' => r = .ok (.ret (.bool true)) ∧ OldK s₁.heap s'.heap ∧ s'.os = s₁.os ∧ AllBare s'.gens) s₁) :
    WalkO q loose XP YP l.row.toRowW d [] (fun f vs => PySem.call f vs) := by
  intro w s₀ s₁ mg mb G Y fa o pm cd doc dV kV ho hd hcd hD hmg hg args vals as hpre hlay hrd hwl hlo
  obtain rfl : dV = .none := Dflts.none hD hdf
  obtain rfl : kV = .none := Dflts.noKw hD
  obtain ⟨a, vs, ns, rfl, rfl, hobj, hints, hlen⟩ := script_of hn hpre hwl
  refine enter_call (codeAny_mono (call w s₀ s₁ mg mb fa o pm cd doc a vs ns G Y ho (fd_plain hd) hcd hmg hobj hints hlen hg) fun r s' hq => ?_)
  obtain ⟨rfl, h2, h3, h4⟩ := hq
  exact ⟨.inl ⟨.bool true, .bool true, [], rfl, fun _ => rfl, .bool true, post_true l _, fun _ => ⟨List.Pairwise.nil, fun _ hm => (nomatch hm)⟩⟩, h2, h3, h4⟩
section
variable {prog : Program} {w : World} {A : Around} {E : Value → Shared → Prop} {s : Shared} {K : Frag}
end
end Att
namespace L2
open PySem PySem.Spec PyProof.Rows
theorem vals_ints : ∀ {vs : List Value} {ns : List Int}, IntsAre vs ns → Vals (ns.map V.int) vs
  | _, _, .nil => .nil
  | _, _, .cons n t h => .cons ⟨t, rfl⟩ (vals_ints h)
def Only (H : Hp) : Prop := ∀ b, H b = none ∨ ∃ o xs, H b = some (.frz o (.lst xs))
theorem law_call {P : Program} {w : World} {K : PySem.W.Frag} {mg mb : Str → Option Value} {CX : CXT} {k : Nat} {fa a : Addr} {fd : FuncData} {x : Str} {sp : Sp} {s₁ : Shared} {vs : List Value} {ns : List Int}
    (KX : K.In s₁.heap) (hns : s₁.heap.Ns mainGlobals mg) (hb : s₁.heap.Ns builtinsNs mb) (hbb : ∀ x : Str, x ≠ "__name__" → mb x = bootBuiltins x) (hlim : s₁.heap.NoLimit) (hg : s₁.gens = #[])
    (ha : s₁.heap.get? a = some { cls := .type "list", data := .seq vs.toArray }) (hi : IntsAre vs ns) (hl : ns.length ≤ sizeLine) (hr : Room k callerA)
    (F : ∀ base : Heap, K.In base → base.Ns mainGlobals mg → FnOk P w K mg base CX k fa fd [x] sp) (hbind : ∀ (s : Shared) (u : Value), BindsTo s fd ⟨[u], []⟩ [(x, u)])
    (hsp : ∀ H : Hp, Only H → SqL K H a (ns.map V.int) → sp [.ref a] H (fun v _ => v = .bl true) fun _ _ _ => False)
    (hCX : ∀ H e s', CX [] H s₁ (fun _ _ _ => False) e s' → False) :
    codeAny (model P w) callerA (.call (.ref fa) ⟨[.ref a], []⟩) (fun r s' => r = .ok (.ret (.bool true)) ∧ OldK s₁.heap s'.heap ∧ s'.os = s₁.os ∧ AllBare s'.gens) s₁ := by
  have rv := vals_ints hi
  have lenV := hi.length
  -- from an abstract heap in which nothing but the script may be tracked
  have core : ∀ H : Hp, Only H → SqL K H a (ns.map V.int) → HOk P w H s₁.heap → (∀ b, H b ≠ none → b = a) → (H a ≠ none → K.lookup a = none) →
      codeAny (model P w) callerA (.call (.ref fa) ⟨[.ref a], []⟩) (fun r s' => r = .ok (.ret (.bool true)) ∧ OldK s₁.heap s'.heap ∧ s'.os = s₁.os ∧ AllBare s'.gens) s₁ := by
    intro H hO hS hok hA hK
    have base_of : ∀ {b : Addr} {o : Obj}, s₁.heap.get? b = some o → H b = none → (hidT s₁.heap H).get? b = some o := fun e n => hidT_get e n
    have noA : ∀ {b : Addr} {o : Obj} {es : Array DictEntry} {ep : Nat}, s₁.heap.get? b = some o → o.data = .dict es ep → H b = none := fun {b o es ep} e d => by
      cases q : H b with
      | none => rfl
      | some u =>
        have e' : b = a := hA b (by rw [q]; simp)
        subst e'
        rw [ha] at e; cases e
        have d' : Data.seq vs.toArray _ = Data.dict es ep := d
        cases d'
    have nsK : ∀ {b : Addr} {m : Str → Option Value}, s₁.heap.Ns b m → (hidT s₁.heap H).Ns b m := fun {b m} ⟨o, es, ep, e, d, r⟩ => ⟨o, es, ep, base_of e (noA e d), d, r⟩
    have hKb : K.In (hidT s₁.heap H) := fun b o e => base_of (KX b o e) (by
      cases q : H b with
      | none => rfl
      | some u =>
        have e' : b = a := hA b (by rw [q]; simp)
        subst e'
        rw [hK (by rw [q]; simp)] at e; cases e)
    have hM : Mod K mg (hidT s₁.heap H) := ⟨hKb, nsK hns, ⟨mb, nsK hb, hbb⟩, let ⟨mc, h1, h2⟩ := hlim; ⟨mc, nsK h1, h2⟩⟩
    have e0 : Env0 P w K mg (hidT s₁.heap H) callerA [] s₁ H := ⟨rfl, hM, fun b o e => of_hidT e, Nat.le_of_eq (hidT_size _ _), trivial, fun b hb => absurd (show b ∈ ([] : List Addr) from hb) (by simp), hok, .of_eq hg⟩
    refine codeAny_mono ((F _ hKb (nsK hns)).run callerA [] s₁ H ⟨[.ref a], []⟩ [.ref a] [.ref a] _ _ hr e0 (hbind s₁ (.ref a)) (.cons rfl .nil) (hsp H hO hS)) fun r s' h => ?_
    cases r with
    | error e => exact (hCX H e s' h).elim
    | ok fl =>
      cases fl with
      | next => exact False.elim h
      | brk => exact False.elim h
      | cont => exact False.elim h
      | ret u =>
        obtain ⟨v, H', os, bare, un, hok', r', q⟩ := h
        have q' : v = .bl true := q
        subst q'
        obtain rfl : u = Value.bool true := r'
        refine ⟨rfl, OldK.of_keep fun b o e => ?_, os, bare⟩
        cases q : H b with
        | none => exact un.keep b o e q (by intro z; exact absurd (show b ∈ ([] : List Addr) from z) (by simp)) (by simp)
        | some u =>
          rcases hO b with z | ⟨ob, xs, z⟩
          · rw [q] at z; cases z
          · have z2 := un.frzs b ob _ z
            obtain ⟨e1, _⟩ := hok b _ z
            obtain ⟨e2, _⟩ := hok' b _ z2
            rw [e] at e1; cases e1
            exact e2
  cases hk : K.lookup a with
  | some o =>
    -- the script is one of the module's own objects
    have e := KX a o hk
    rw [ha] at e
    cases e
    refine core (fun _ => none) (fun _ => .inl rfl) (.inr ⟨_, vs.toArray, _, hk, rfl, rfl, rfl, by rw [List.size_toArray, lenV]; exact hl, by simpa using rv⟩) (fun b u z => by have z' : (none : Option HO) = some u := z; cases z') (fun b z => absurd rfl z) fun z => absurd rfl z
  | none =>
    refine core (fun b => if b = a then some (.frz { cls := .type "list", data := .seq vs.toArray } (.lst (ns.map V.int))) else none) (fun b => ?_) (.inl (.inr ⟨{ cls := .type "list", data := .seq vs.toArray }, if_pos rfl⟩)) (fun b u z => ?_) (fun b z => ?_) fun _ => hk
    · by_cases hb : b = a
      · exact .inr ⟨_, _, if_pos hb⟩
      · exact .inl (if_neg hb)
    · by_cases hb : b = a
      · have z' := (if_pos hb).symm.trans z
        cases z'
        subst hb
        exact ⟨ha, by rw [List.length_map]; exact hl, vs, _, rv, ha⟩
      · have z' := (if_neg hb).symm.trans z
        cases z'
    · by_cases hb : b = a
      · exact hb
      · exact absurd (if_neg hb) z
end L2
namespace L2
open PySem PySem.Spec PyProof.Rows
theorem walk_of {l : PySem.W.OpenLaw} {n k : Nat} {q : Program} {loose : List Str} {XP : (Str → Option Value) → Heap → Prop} {YP : World → Heap → Prop} {d : DefRec} {K : Params → PySem.W.Frag} {CX : World → CXT} {sp : World → Sp} {x : Str}
    (hn : l.most = some n) (hn2 : n ≤ sizeLine) (hdf : d.params.defaults = []) (hr : Room k callerA)
    (hY : ∀ (w : World) (h : Heap), YP w h → (K w.params).In h)
    (F : ∀ (w : World) (mg : Str → Option Value) (fa : Addr) (h : Heap), (K w.params).In h → h.Ns mainGlobals mg → mg d.name = some (.ref fa) →
      ∃ fd : FuncData, (∀ (s : Shared) (u : Value), BindsTo s fd ⟨[u], []⟩ [(x, u)]) ∧
        ∀ base : Heap, (K w.params).In base → base.Ns mainGlobals mg → FnOk l.prog w (K w.params) mg base (CX w) k fa fd [x] (sp w))
    (hsp : ∀ (w : World) (H : Hp) (a : Addr) (ns : List Int), ns.length ≤ n → Only H → SqL (K w.params) H a (ns.map V.int) → sp w [.ref a] H (fun v _ => v = .bl true) fun _ _ _ => False)
    (hCX : ∀ (w : World) (H : Hp) (s : Shared) (e : Value) (s' : Shared), CX w [] H s (fun _ _ _ => False) e s' → False) :
    PySem.W.WalkO q loose XP YP l.row.toRowW d [] (fun f vs => PySem.call f vs) := by
  refine Att.attach_call hn hdf fun w s₀ s₁ mg mb fa o pm cd doc a vs ns G Y ho hd hcd hmg hobj hints hlen hg => ?_
  have KX := hY w _ Y
  obtain ⟨fd, hb, hF⟩ := F w mg fa _ KX G.T.g hmg
  exact law_call KX G.T.g G.T.b G.T.builtins G.T.nolimit hg hobj hints (Nat.le_trans hlen hn2) hr hF hb (fun H hO hS => hsp w H a ns hlen hO hS) fun H e s' => hCX w H s₁ e s'
end L2
namespace L2
open PySem PySem.Spec PyProof.Rows
def inClass (s : Stmt) (j : Nat) : Stmt := match s with
  | .ClassDef _ _ _ body _ _ _ _ _ _ _ => body.getD j (.Pass ⟨0, 0, 0, 0⟩)
  | _ => .Pass ⟨0, 0, 0, 0⟩
def defArgs (s : Stmt) : Arguments := match s with
  | .FunctionDef _ a _ _ _ _ _ _ _ _ => a
  | _ => { posonlyargs := [], args := [], vararg := none, kwonlyargs := [], kw_defaults := [], kwarg := none, defaults := [] }
def defBody (s : Stmt) : List Stmt := match s with
  | .FunctionDef _ _ b _ _ _ _ _ _ _ => b
  | _ => []
def defScope (s : Stmt) : Scope := match s with
  | .FunctionDef _ _ _ _ _ _ sc _ _ _ => sc
  | _ => { kind := .function, names := [], isGenerator := false, isCoroutine := false }
abbrev CX0 : CXT := fun _ _ _ _ _ _ => False
abbrev E0 : XK := fun _ _ _ => False
theorem pass0 {X : Cx} : Passes CX0 X E0 := fun _ _ _ _ _ _ _ h => h.elim
structure Fun (K : PySem.W.Frag) (x qual : Str) (st : Stmt) (f : Addr) (fd : FuncData) : Prop where
  ex : ∃ (oc : Value) (od : Option Addr) (kV doc pm : Value) (an : Option Addr) (cdv ct : Value) (osl : Array (Option Value)),
    fd = PySem.W.fnOf x qual (defArgs st) (defBody st) (defScope st) .none kV doc pm an cdv ct ∧ K.lookup f = some ⟨oc, od, .func fd, osl⟩ ∧ PySem.W.codeIn K cdv qual = true
  kp : PySem.W.keepIn K (.ref f) = true
section
variable {P : Program} {w : World} {K : PySem.W.Frag} {mg : Str → Option Value} {base : Heap}
theorem Fun.ok {x qual : Str} {st : Stmt} {f : Addr} {fd : FuncData} {N ps : List Str} {k : Nat} {sp : Sp} (F : Fun K x qual st f fd) (S : FnScope N ps (defScope st)) (len : ∀ vs H Q E, sp vs H Q E → vs.length = ps.length)
    (hbody : ∀ (cdv : Value) (A : Around) (outer : List Env) (s : Shared) (H : Hp) (vs : List V) (Q : VK) (E : XK), Room k (A.deeper (envOfC qual (defScope st) s.heap.objs.size f cdv)) → sp vs H Q E →
      ∃ t, PSs (cxOf CX0 P w K mg base N qual (defScope st) f cdv A outer s H E).nox (defBody st) t ∧ t { nx := fun _ H' => Q .non H', rt := Q } (start N vs) H) : FnOk P w K mg base CX0 (k + 1) f fd ps sp := by
  obtain ⟨oc, od, kV, doc, pm, an, cdv, ct, osl, rfl, lk, hcd⟩ := F.ex
  refine fn_of lk hcd S len fun A outer s H vs Q E hr hsp => ?_
  obtain ⟨t, h, q⟩ := hbody cdv A outer s H vs Q E hr hsp
  exact ⟨t, h.nox, q⟩
theorem Fun.binds {x qual : Str} {st : Stmt} {f : Addr} {fd : FuncData} {ps : List Str} (F : Fun K x qual st f fd)
    (h : ∀ (kV doc pm : Value) (an : Option Addr) (cdv ct : Value) (us : List Value), us.length = ps.length → bindArgs (PySem.W.fnOf x qual (defArgs st) (defBody st) (defScope st) .none kV doc pm an cdv ct) ⟨us, []⟩ = pure (ps.zip us)) : Binds K fd ps [] := by
  obtain ⟨oc, od, kV, doc, pm, an, cdv, ct, osl, rfl, lk, hcd⟩ := F.ex
  exact .all (h kV doc pm an cdv ct)
theorem fun_mk {x qual : Str} {st : Stmt} {f : Addr} {oc : Value} {od an : Option Addr} {osl : Array (Option Value)} {kV doc pm cdv ct : Value} (l : K.lookup f = some ⟨oc, od, .func (PySem.W.fnOf x qual (defArgs st) (defBody st) (defScope st) .none kV doc pm an cdv ct), osl⟩)
    (c : PySem.W.codeIn K cdv qual = true) (k : PySem.W.keepIn K (.ref f) = true) : Fun K x qual st f (PySem.W.fnOf x qual (defArgs st) (defBody st) (defScope st) .none kV doc pm an cdv ct) := ⟨⟨oc, od, kV, doc, pm, an, cdv, ct, osl, rfl, l, c⟩, k⟩
end
theorem small1000 {n : Nat} (h : n ≤ 1000) : n < sizeLine := Nat.lt_of_le_of_lt h (by decide)
section
variable {X : Cx}
theorem pv (i : Nat) {x : Str} {pos : Pos} (hN : X.N[i]? = some x := by rfl) (hv : Vis X.env.scope x := by first | exact Or.inl rfl | exact Or.inr (Or.inl rfl) | exact Or.inr (Or.inr rfl)) (hd : (x == ("__debug__" : Str)) = false := by decide)
    (hcd : (x == ("__classdict__" : Str)) = false := by decide) : PE X (.Name x pos) (tVar i) := pe_var hN hv hd hcd
end
theorem iteT {A B : Prop} (h : A) : if true = true then A else B := by
  rw [if_pos rfl]
  exact h
def Same (H H' : Hp) : Prop := ∀ b o, H b = some o → H' b = some o
theorem Same.refl (H : Hp) : Same H H := fun _ _ h => h
theorem Same.trans {H H1 H2 : Hp} (a : Same H H1) (b : Same H1 H2) : Same H H2 := fun c o h => b c o (a c o h)
theorem Same.free {H H' : Hp} (e : Same H H') {l : Addr} (h : H' l = Option.none) : H l = Option.none := by
  cases q : H l with
  | none => rfl
  | some o =>
    rw [e l o q] at h
    cases h
theorem Same.seq {K : PySem.W.Frag} {H H' : Hp} {a : Addr} {xs : List V} (e : Same H H') (h : SqL K H a xs) : SqL K H' a xs := by
  rcases h with (h | ⟨o, h⟩) | h
  · exact .inl (.inl (e _ _ h))
  · exact .inl (.inr ⟨o, e _ _ h⟩)
  · exact .inr h
end L2
namespace L2
open PySem PySem.Spec PyProof.Rows
section
variable {X : Cx}
end
section
variable {κ : Type} [DecidableEq κ]
end
end L2
set_option Elab.async false
set_option linter.all false
set_option maxRecDepth 100000
namespace L2
open PySem PySem.Spec PyProof.Rows
def closL (env : Env) : List (Str × NameKind) → List (Str × Addr) → List (Str × Addr)
  | [], cs => cs
  | (n, k) :: r, cs => if (k == NameKind.free) = true then closL env r ((n, (env.cells.lookup n).getD 0) :: cs) else closL env r cs
theorem closureFor_is {scope : Scope} {env : Env} (h : ∀ x ∈ scope.names, x.2 = .free → ∃ c, env.cells.lookup x.1 = some c) : closureFor scope env = pure (closL env scope.names []) := by
  unfold closureFor
  have go : ∀ (l : List (Str × NameKind)) (cs : List (Str × Addr)), (∀ x ∈ l, x.2 = .free → ∃ c, env.cells.lookup x.1 = some c) →
      (forIn l cs fun (x : Str × NameKind) (r : List (Str × Addr)) => (match x with
        | (name, kind) => if (kind == NameKind.free) = true then do let a ← cellOf env name; pure (ForInStep.yield ((name, a) :: r)) else pure (ForInStep.yield r) : Sem (ForInStep (List (Str × Addr))))) = (pure (closL env l cs) : Sem (List (Str × Addr))) := by
    intro l
    induction l with
    | nil => intro cs _; rfl
    | cons x r ih =>
      intro cs hl
      obtain ⟨n, k⟩ := x
      rw [List.forIn_cons]
      by_cases hk : (k == NameKind.free) = true
      · obtain ⟨c, hc⟩ := hl (n, k) List.mem_cons_self (by simpa using hk)
        have e : cellOf env n = pure c := by unfold cellOf; rw [hc]
        simp only [hk, if_true, e, pure_bind]
        rw [ih _ fun y hy => hl y (List.mem_cons_of_mem _ hy)]
        rw [closL, if_pos hk, hc]
        rfl
      · simp only [hk, if_false, Bool.false_eq_true, pure_bind]
        rw [ih _ fun y hy => hl y (List.mem_cons_of_mem _ hy)]
        rw [closL, if_neg hk]
  have q := go scope.names [] h
  simp only [pure_bind, bind_pure] at q ⊢
  exact q
theorem closL_lookup {env : Env} {y : Str} {c : Addr} : ∀ (l : List (Str × NameKind)) (cs : List (Str × Addr)), (∀ x ∈ l, x.2 = .free → ∃ c, env.cells.lookup x.1 = some c) →
    (∀ z d, cs.lookup z = some d → env.cells.lookup z = some d) → (closL env l cs).lookup y = some c → env.cells.lookup y = some c
  | [], cs, _, hc, e => hc _ _ e
  | (n, k) :: r, cs, h, hc, e => by
    have hr : ∀ x ∈ r, x.2 = .free → ∃ c, env.cells.lookup x.1 = some c := fun x hx => h x (List.mem_cons_of_mem _ hx)
    by_cases hk : (k == NameKind.free) = true
    · rw [closL, if_pos hk] at e
      refine closL_lookup r _ hr (fun z d ez => ?_) e
      obtain ⟨c', hc'⟩ := h (n, k) List.mem_cons_self (by simpa using hk)
      rw [List.lookup_cons] at ez
      cases hz : z == n with
      | true =>
        rw [hz] at ez
        have hz' : z = n := eq_of_beq hz
        subst hz'
        have e2 : (env.cells.lookup z).getD 0 = d := Option.some.inj ez
        have hc'' : env.cells.lookup z = some c' := hc'
        rw [hc''] at e2 ⊢
        exact congrArg some e2
      | false => rw [hz] at ez; exact hc z d ez
    · rw [closL, if_neg hk] at e
      exact closL_lookup r cs hr hc e
theorem closL_has {env : Env} {y : Str} : ∀ (l : List (Str × NameKind)) (cs : List (Str × Addr)), ((y, NameKind.free) ∈ l ∨ ∃ c, cs.lookup y = some c) → ∃ c, (closL env l cs).lookup y = some c
  | [], cs, h => h.elim (fun z => nomatch z) fun z => z
  | (n, k) :: r, cs, h => by
    by_cases hk : (k == NameKind.free) = true
    · rw [closL, if_pos hk]
      refine closL_has r _ ?_
      rcases h with h | ⟨c, h⟩
      · rcases List.mem_cons.mp h with h | h
        · cases h
          exact .inr ⟨_, by rw [List.lookup_cons, beq_self_eq_true]⟩
        · exact .inl h
      · cases hz : y == n with
        | true => exact .inr ⟨_, by rw [List.lookup_cons, hz]⟩
        | false => exact .inr ⟨c, by rw [List.lookup_cons, hz]; exact h⟩
    · rw [closL, if_neg hk]
      refine closL_has r _ ?_
      rcases h with h | h
      · rcases List.mem_cons.mp h with h | h
        · cases h
          exact absurd rfl hk
        · exact .inl h
      · exact .inr h
theorem lookup_relabel {env : Env} : ∀ {names : List (Str × NameKind)} {x : Str} {k' : NameKind},
    (names.map fun (n, k) => if (k == NameKind.free && env.scope.kind == .function && env.kindOf n == some .cell) then (n, NameKind.cell) else (n, k)).lookup x = some k' →
    names.lookup x = some k' ∨ (names.lookup x = some .free ∧ k' = .cell)
  | [], _, _, h => by simp at h
  | (n, k) :: r, x, k', h => by
    have ih := @lookup_relabel env r x k'
    have h : List.lookup x ((if (k == NameKind.free && env.scope.kind == .function && env.kindOf n == some .cell) = true then (n, NameKind.cell) else (n, k)) :: _) = some k' := h
    rw [List.lookup_cons]
    by_cases hc : (k == NameKind.free && env.scope.kind == .function && env.kindOf n == some .cell) = true
    · rw [if_pos hc, List.lookup_cons] at h
      cases hx : x == n with
      | true =>
        rw [hx] at h
        have e1 : NameKind.cell = k' := Option.some.inj h
        simp only [Bool.and_eq_true] at hc
        exact .inr ⟨congrArg some (eq_of_beq hc.1.1), e1.symm⟩
      | false => rw [hx] at h; exact ih h
    · rw [if_neg hc, List.lookup_cons] at h
      cases hx : x == n with
      | true => rw [hx] at h; exact .inl h
      | false => rw [hx] at h; exact ih h
theorem relabel_free {env : Env} : ∀ {names : List (Str × NameKind)} {x : Str}, names.lookup x = some .free →
    (names.map fun (n, k) => if (k == NameKind.free && env.scope.kind == .function && env.kindOf n == some .cell) then (n, NameKind.cell) else (n, k)).lookup x = some .cell ∨
    (names.map fun (n, k) => if (k == NameKind.free && env.scope.kind == .function && env.kindOf n == some .cell) then (n, NameKind.cell) else (n, k)).lookup x = some .free
  | [], _, h => by simp at h
  | (n, k) :: r, x, h => by
    have ih := @relabel_free env r x
    show List.lookup x ((if (k == NameKind.free && env.scope.kind == .function && env.kindOf n == some .cell) = true then (n, NameKind.cell) else (n, k)) :: _) = _ ∨ List.lookup x ((if (k == NameKind.free && env.scope.kind == .function && env.kindOf n == some .cell) = true then (n, NameKind.cell) else (n, k)) :: _) = _
    rw [List.lookup_cons] at h
    by_cases hc : (k == NameKind.free && env.scope.kind == .function && env.kindOf n == some .cell) = true
    · rw [if_pos hc, List.lookup_cons]
      cases hx : x == n with
      | true => exact .inl rfl
      | false => rw [hx] at h; exact ih h
    · rw [if_neg hc, List.lookup_cons]
      cases hx : x == n with
      | true => rw [hx] at h; exact .inr h
      | false => rw [hx] at h; exact ih h
structure LcScope (xs ys : List Str) (scope around : Scope) : Prop where
  kind : scope.kind = .function
  nd : (xs ++ ys).Nodup
  own : ∀ x ∈ xs, scope.names.lookup x = some .local
  cap : ∀ y ∈ ys, scope.names.lookup y = some .free ∧ (around.names.lookup y = some .cell ∨ around.names.lookup y = some .free)
  nocell : ∀ y ∈ scope.names, y.2 ≠ .cell
  names : ∀ y ∈ scope.names, y.2 = .local → scope.names.lookup y.1 = some .local
  free : ∀ y ∈ scope.names, y.2 = .free → y.1 ∈ ys
def blockCx (X : Cx) (xs ys : List Str) (scope : Scope) (C : Addr) (s₀ : Shared) (H₀ : Hp) (fp : List Addr) : Cx where
  prog := X.prog
  w := X.w
  K := X.K
  mg := X.mg
  base := X.base
  A := X.A
  N := xs ++ ys
  s₀ := s₀
  H₀ := H₀
  env := compEnvC scope (closL X.env scope.names []) C X.env
  outer := X.stack
  stack := X.stack
  ex := fp
  fn := fun _ => false
  calm := X.calm
  pn := []
  xe := fun _ _ => False
def lcSt (xs : List Str) (js : List Nat) (σ : St) : St := xs.map (fun _ => none) ++ js.map fun j => (σ[j]?).join
def LcW (J : It) (n : List Str) (js : List Nat) (g : TG) (tc : Option TT) (te : TE) (σ : St) (H1 : Hp) (Q : VK) : Prop := ∃ W : Nat → Nat → List V → St → Hp → Prop, (∃ m, W 0 m [] (lcSt n js σ) H1) ∧ ∀ i m ys σ1 H, W i m ys σ1 H →
  (J.stop i H ∧ ∀ p, H p = none → Q (.ref p) (upd H p (.lst ys))) ∨
  (J.go i H ∧ ys.length < sizeLine ∧ ∀ x H', J.yld i H x H' → g x σ1 H' fun σ2 H2 => match tc with
    | none => te σ2 H2 fun y H3 => ∃ m', m' < m ∧ W (i + 1) m' (ys ++ [y]) σ2 H3
    | some c => c σ2 H2 fun b H3 => if b = true then te σ2 H3 fun y H4 => ∃ m', m' < m ∧ W (i + 1) m' (ys ++ [y]) σ2 H4 else ∃ m', m' < m ∧ W (i + 1) m' ys σ2 H3)
def tLC (n : List Str) (js : List Nat) (wi : TI) (g : TG) (tc : Option TT) (te : TE) : TE := fun σ H Q => wi σ H fun J H1 => LcW J n js g tc te σ H1 Q
def PIf (X : Cx) (ifs : List Expr) (tc : Option TT) : Prop := match ifs, tc with
  | [], none => True
  | [c], some t => PT X c t
  | _, _ => False
section
variable {X : Cx} {pins : List (Addr × Obj)} {σ : St} {H : Hp} {s : Shared} {xs ys : List Str} {scope : Scope} {fp : List Addr} {C D : Addr} {js : List Nat}
def Caps (X : Cx) (ys : List Str) (js : List Nat) : Prop := js.length = ys.length ∧ ∀ (i : Nat) (y : Str) (j : Nat), ys[i]? = some y → js[i]? = some j → X.N[j]? = some y
theorem clos_ok (I : Inv X pins σ H s) (S : LcScope xs ys scope X.env.scope) : ∀ x ∈ scope.names, x.2 = .free → ∃ c, X.env.cells.lookup x.1 = some c := fun x hx hf =>
  I.ok.has x.1 ((S.cap x.1 (S.free x hx hf)).2.elim .inl .inr)
theorem clos_look (I : Inv X pins σ H s) (S : LcScope xs ys scope X.env.scope) {y : Str} {c : Addr} (e : (closL X.env scope.names []).lookup y = some c) : X.env.cells.lookup y = some c :=
  closL_lookup scope.names [] (clos_ok I S) (fun _ _ z => nomatch z) e
theorem block_start (I : Inv X pins σ H s) (S : LcScope xs ys scope X.env.scope) (hj : Caps X ys js) (f2 : ∀ b ∈ fp, FpOk X pins H b) (fo : ∀ b ∈ fp, b < s.heap.objs.size)
    {h₁ : Heap} {m : Str → Option Value} {tk : Nat} {oD : Obj} (hC : s.heap.objs.size ≤ C) (hD : s.heap.objs.size ≤ D) (hDC : D ≠ C) (hn : h₁.Ns C m) (hd : h₁.get? D = some oD) (hdd : ∀ v, oD.data ≠ .cell v)
    (old : ∀ b o, s.heap.get? b = some o → h₁.get? b = some o) :
    Inv (blockCx X xs ys scope C s H fp) [(D, oD)] (lcSt xs js σ) H { s with heap := h₁, toks := tk } := by
  have cl := fun y c => clos_look (y := y) (c := c) I S
  have nC : H C = none := I.hok.fresh hC
  have nD : H D = none := I.hok.fresh hD
  have lt_of : ∀ {b : Addr}, b < s.heap.objs.size → b ≠ C := fun hb => Nat.ne_of_lt (Nat.lt_of_lt_of_le hb hC)
  have fsub : ∀ b, b ∈ frs X.stack → b ∈ X.env.locals :: X.fs := I.stkSub
  refine ⟨⟨I.ok.mod, ?_, I.ok.glob, I.ok.blt, hC, fun x y c h1 h2 => I.ok.inj x y c (cl x c h1) (cl y c h2), fun x hx => ?_, (fun x c h => nomatch h), I.ok.hd, I.ok.frames, .inl rfl, fun b hb => ⟨lt_of (fo b hb), fun x c h => (f2 b hb).2.2.2.2.1 x c (cl x c h)⟩, I.bs,
    Nat.le_trans I.ok.bsz I.sz, fun b o e hb => ?_, fun b hb hf => ?_, I.stack, I.stkFree⟩,
    rfl, I.bare, Un.kept old, ⟨m, hn, fun i x v e1 e2 e3 => ?_⟩, fun x c h => ?_, nC, fun x c h => I.freeC x c (cl x c h), fun p hp => ?_, I.hok.kept old, ?_⟩
  · show scope.kind = _
    exact S.kind
  · have hx : (relabel scope X.env).names.lookup x = some .cell ∨ (relabel scope X.env).names.lookup x = some .free := hx
    have hm : (x, NameKind.free) ∈ scope.names := by
      rcases hx with hx | hx
      · rcases lookup_relabel hx with z | z
        · exact absurd rfl (S.nocell _ (PySem.mem_of_lookup z))
        · exact PySem.mem_of_lookup z.1
      · rcases lookup_relabel hx with z | z
        · exact PySem.mem_of_lookup z
        · exact nomatch z.2
    exact closL_has scope.names [] (.inl hm)
  · rcases (f2 b hb).2.2.2.1 with z | z
    · exact I.ok.noex b o e z
    · exact absurd (Nat.lt_of_lt_of_le (Heap.lt_size e) (Nat.le_trans I.ok.bsz z)) (Nat.lt_irrefl _)
  · rcases List.mem_cons.mp (fsub b hf) with z | z
    · exact (f2 b hb).2.1 z
    · exact (f2 b hb).2.2.1 z
  · have e1 : (xs ++ ys)[i]? = some x := e1
    have e2 : (xs.map (fun _ => (none : Option V)) ++ js.map fun j => (σ[j]?).join)[i]? = some (some v) := e2
    by_cases hi : i < xs.length
    · rw [List.getElem?_append_left (by simpa using hi), List.getElem?_map] at e2
      cases q : xs[i]? with
      | none => rw [q] at e2; cases e2
      | some z => rw [q] at e2; cases e2
    · rw [List.getElem?_append_right (by simpa using hi), List.length_map, List.getElem?_map] at e2
      rw [List.getElem?_append_right (by simpa using hi)] at e1
      cases q : js[i - xs.length]? with
      | none => rw [q] at e2; cases e2
      | some j =>
        rw [q] at e2
        have e2' : (σ[j]?).join = some v := Option.some.inj e2
        have hy := hj.2 _ _ _ e1 q
        have hσ : σ[j]? = some (some v) := by
          cases z : σ[j]? with
          | none => rw [z] at e2'; cases e2'
          | some t => rw [z] at e2'; exact congrArg some e2'
        have ym : x ∈ ys := List.mem_of_getElem? e1
        obtain ⟨cf, ca⟩ := S.cap x ym
        obtain ⟨m0, _, hl⟩ := I.loc
        obtain ⟨u, ru, lk⟩ := hl j x v hy hσ (ca.elim (fun z => .inr (.inl z)) fun z => .inr (.inr z))
        refine ⟨u, ru, .inr ⟨?_, ?_⟩⟩
        · exact relabel_free (env := X.env) cf
        · rcases lk with ⟨k, _⟩ | ⟨_, c, ec, zc⟩
          · have k : X.env.scope.names.lookup x = some .local := k
            rcases ca with z | z <;> · rw [k] at z; cases z
          · obtain ⟨c', ec'⟩ := closL_has (env := X.env) (y := x) scope.names [] (.inl (PySem.mem_of_lookup cf))
            have e3 := cl x c' ec'
            rw [ec] at e3
            cases e3
            obtain ⟨o, ho, hod⟩ := zc
            exact ⟨_, ec', o, old _ _ ho, hod⟩
  · obtain ⟨v, o, ho, hod⟩ := I.cell x c (cl x c h)
    exact ⟨v, o, old _ _ ho, hod⟩
  · have hp : p ∈ [(D, oD)] := by simpa [blockCx] using hp
    have e := List.mem_singleton.mp hp
    subst e
    refine ⟨hd, nD, hDC, fun hf => ?_, hdd⟩
    have hf : D ∈ frs X.stack := hf
    obtain ⟨o, ho⟩ : ∃ o, s.heap.get? D = some o := by
      rcases List.mem_cons.mp (fsub D hf) with z | z
      · obtain ⟨m0, ⟨o, _, _, ho, _⟩, _⟩ := I.loc
        have z : D = X.env.locals := z
        exact ⟨o, z ▸ ho⟩
      · exact absurd z (I.nofs hD)
    exact absurd (Heap.lt_size ho) (Nat.not_lt.mpr hD)
  · show (xs.map (fun _ => (none : Option V)) ++ js.map fun j => (σ[j]?).join).length = (xs ++ ys).length
    rw [List.length_append, List.length_append, List.length_map, List.length_map, hj.1]
end
section
variable {X : Cx} {pins : List (Addr × Obj)} {σ : St} {H : Hp} {s : Shared} {xs ys : List Str} {scope : Scope} {js : List Nat} {tg iter elt : Expr} {ifs : List Expr} {pos : Pos} {wi : TI} {g : TG} {tc : Option TT} {te : TE}
theorem wp_no {α : Type} {M : Model} {A : Around} {t : Sem α} {Q : α → Shared → Prop} {E : Value → Shared → Prop} {s : Shared} (h : wpAny M A t Q (fun _ _ => False) s) : wpAny M A t Q E s := wpAny_mono h (fun _ _ x => x) fun _ _ z => z.elim
theorem compLoop_any {prog : Program} {w : World} {A : Around} {R : Result → Shared → Prop} {it acc : Value} {env : Env} (J : Nat → Shared → Prop)
    (turn : ∀ n s, J n s → wpAny (model prog w) A (pyNext it) (fun r s₁ => match r with
      | none => R (.ok .next) s₁
      | some v => wpAny (model prog w) A (letOwnedTupleGo tg it v) (fun _ s₁' => wpAny (model prog w) A (assign tg env v) (fun _ s₂ =>
          wpAny (model prog w) A (forIn ifs true fun c r => if r = true then do let ok ← isTrue c env (eval c env); pure (ForInStep.yield ok) else pure (ForInStep.yield r)) (fun ok s₃ =>
            if ok = true then wpAny (model prog w) A (eval elt env) (fun x s₄ =>
              wpAny (model prog w) A (call (.builtin "list.append") [acc, x]) (fun _ s₅ => ∃ m, m < n ∧ J m s₅) (fun _ _ => False) s₄) (fun _ _ => False) s₃
            else ∃ m, m < n ∧ J m s₃) (fun _ _ => False) s₂) (fun _ _ => False) s₁') (fun _ _ => False) s₁) (fun _ _ => False) s)
    (n : Nat) (h : J n s) : codeAny (model prog w) A (.compLoop (.ListComp elt [⟨tg, iter, ifs, 0⟩] scope pos) 0 it acc env) R s := by
  refine codeAny_loop rfl J (fun n s hI => ?_) n h
  show wpAny _ A ((compTurn (.ListComp elt [⟨tg, iter, ifs, 0⟩] scope pos) 0 it acc env).onRaise (fun x => do noteFrame x env; theTreesLotGoes x)) _ _ s
  refine wpAny_noted ?_
  rw [compTurn_list]
  refine wpAny_bind (wpAny_standAt (wpAny_bind (wp_no (thn (turn n s hI) fun r s₁ h₁ => ?_))))
  cases r with
  | none => exact wpAny_pure h₁
  | some v =>
    refine wpAny_bind (wp_no (thn h₁ fun _ s₁' h₁' => wpAny_bind (wp_no (thn h₁' fun _ s₂ h₂ => wpAny_bind (wp_no (thn h₂ fun ok s₃ h₃ => ?_))))))
    cases ok with
    | false => exact wpAny_pure ⟨rfl, h₃⟩
    | true => exact wpAny_bind (wpAny_bind (wp_no (thn h₃ fun x s₄ h₄ => wpAny_bind (wp_no (thn h₄ fun _ s₅ h₅ => wpAny_pure (wpAny_pure ⟨rfl, h₅⟩))))))
structure LcEnd (X : Cx) (pins : List (Addr × Obj)) (σ : St) (C : Addr) (H' : Hp) (s' : Shared) : Prop where
  inv : Inv X pins σ H' s'
  ns : ∃ m, s'.heap.Ns C m
  free : H' C = none
  ne : C ≠ X.env.locals
  up : X.s₀.heap.objs.size ≤ C
  cells : ∀ x c, X.env.cells.lookup x = some c → c ≠ C
  pin : ∀ p ∈ X.pn ++ pins, p.1 ≠ C
theorem LcEnd.gone {C : Addr} {H' : Hp} {s' : Shared} (L : LcEnd X pins σ C H' s') {h' : Heap} (hs : Heap.SameBut C s'.heap h') : Inv X pins σ H' { s' with heap := h' } :=
  L.inv.turned (t' := s'.toks) (fun b o hb e => hs.extBut b o hb e) L.free L.ne (.inr L.up) L.cells L.pin
theorem lc_core (hc : X.calm = true) (S : LcScope xs ys scope X.env.scope) (hj : Caps X ys js) (hi : PI X tg iter wi)
    (hg : ∀ C s₀ H₀ fp, PG (blockCx X xs ys scope C s₀ H₀ fp) tg g) (hif : ∀ C s₀ H₀ fp, PIf (blockCx X xs ys scope C s₀ H₀ fp) ifs tc) (he : ∀ C s₀ H₀ fp, PE (blockCx X xs ys scope C s₀ H₀ fp) elt te)
    {RR : Value → Addr → Result → Shared → Prop} {Q : VK} (I : Inv X pins σ H s) (h : tLC xs js wi g tc te σ H Q)
    (fin : ∀ D C H' s', LcEnd X pins σ C H' s' → Q (.ref D) H' → RR (.ref D) C (.ok .next) s') :
    wpAny (model X.prog X.w) X.A (eval iter X.env) (fun x s₁ => wpAny (model X.prog X.w) X.A (pyIter x) (fun it s₂ => wpAny (model X.prog X.w) X.A (newList []) (fun acc s₃ =>
      wpAny (model X.prog X.w) X.A (newFunctionEnv scope X.env.globals (closL X.env scope.names []) [] X.env.qual none .none (some X.env)) (fun cenv s₄ =>
        codeAny (model X.prog X.w) X.A (.compStart (.ListComp elt [⟨tg, iter, ifs, 0⟩] scope pos) 0 it acc { cenv with scope := relabel scope X.env }) (RR acc cenv.locals) s₄) X.xe s₃) X.xe s₂) X.xe s₁) X.xe s := by
  refine thn (hi pins s σ H _ I h) fun v s1 h1 => thn h1 fun itv s2 h2 => ?_
  obtain ⟨it, fp, tn, J, H2, e, I2, T, st2, f2, W, ⟨m0, w0⟩, turn⟩ := h2
  subst e
  have fo : ∀ b ∈ fp, b < s2.heap.objs.size := fun b hb => let ⟨o, e, _⟩ := T.obj _ _ st2 b hb; Heap.lt_size e
  refine wpAny_newObj_type (wpAny_newFunctionEnv S.nocell (by intro y hy; simp at hy) (fun h₁ hns₁ hsb₁ => ?_) S.kind)
  dsimp only at hns₁ hsb₁ ⊢
  generalize hH2 : s2.heap.push { cls := .type "list", dict := none, data := .seq ([] : List Value).toArray } = G at hns₁ hsb₁ ⊢
  have hC : G.objs.size = s2.heap.objs.size + 1 := by rw [← hH2, Heap.size_push]
  have hDC : s2.heap.objs.size ≠ G.objs.size := by rw [hC]; exact Nat.ne_of_lt (Nat.lt_succ_self _)
  have hCle : s2.heap.objs.size ≤ G.objs.size := by rw [hC]; exact Nat.le_succ _
  have below : ∀ b, b < s2.heap.objs.size → b ≠ G.objs.size ∧ b ≠ s2.heap.objs.size := fun b hb => ⟨by rw [hC]; exact Nat.ne_of_lt (Nat.lt_succ_of_lt hb), Nat.ne_of_lt hb⟩
  have old : ∀ b o, s2.heap.get? b = some o → h₁.get? b = some o := fun b o e => hsb₁.extBut b o (below b (Heap.lt_size e)).1 (Heap.get?_push_of_some _ (hH2 ▸ Heap.get?_push_of_some _ e))
  have hacc : h₁.get? s2.heap.objs.size = some (LCg.lst []) := hsb₁.extBut _ _ hDC (Heap.get?_push_of_some _ (hH2 ▸ Heap.get?_push_size _ rfl))
  have st₁ : tn 0 h₁ := T.keep _ _ _ st2 fun b _ o e => old b o e
  have I3 := block_start (C := G.objs.size) (D := s2.heap.objs.size) (tk := s2.toks + ([] : List (Str × Value)).length) I2 S hj f2 fo hCle (Nat.le_refl _) hDC hns₁ hacc (by intro v hv; cases hv) old
  generalize hX : blockCx X xs ys scope G.objs.size s2 H2 fp = B at I3
  have pB : B.prog = X.prog := by rw [← hX]; rfl
  have wB : B.w = X.w := by rw [← hX]; rfl
  have kB : B.K = X.K := by rw [← hX]; rfl
  have aB : B.A = X.A := by rw [← hX]; rfl
  have eB : B.env = compEnvC scope (closL X.env scope.names []) G.objs.size X.env := by rw [← hX]; rfl
  have cB : B.calm = true := by rw [← hX]; exact hc
  have xB : B.xe = fun _ _ => False := by rw [← hX]; rfl
  have gB : PG B tg g := by rw [← hX]; exact hg _ _ _ _
  have iB : PIf B ifs tc := by rw [← hX]; exact hif _ _ _ _
  have elB : PE B elt te := by rw [← hX]; exact he _ _ _ _
  have sB : B.s₀ = s2 := by rw [← hX]; rfl
  have hB : B.H₀ = H2 := by rw [← hX]; rfl
  have fB : B.fs = frs X.stack := by rw [← hX]; rfl
  have exB : B.ex = fp := by rw [← hX]; rfl
  have pnB : B.pn = [] := by rw [← hX]; rfl
  have statB : ∀ {H' : Hp} {oD : Obj} {σ' : St} {s' : Shared}, Inv B [(s2.heap.objs.size, oD)] σ' H' s' → (∀ b ∈ fp, H' b = none) → ∀ b ∈ fp, FpOk B [(s2.heap.objs.size, oD)] H' b := fun {H' oD σ' s'} I' hn b hb =>
    ⟨hn b hb, (I'.ok.exf b (exB ▸ hb)).1, I'.ok.exfs b (exB ▸ hb), .inl (exB ▸ hb), (I'.ok.exf b (exB ▸ hb)).2, fun p hp => by
      rw [pnB] at hp
      have e := List.mem_singleton.mp (show p ∈ [(s2.heap.objs.size, oD)] from hp)
      subst e
      exact Nat.ne_of_gt (fo b hb)⟩
  have loop : ∀ s₃ : Shared, s₃ = { s2 with heap := h₁, toks := s2.toks + ([] : List (Str × Value)).length } →
      codeAny (model X.prog X.w) X.A (.compLoop (.ListComp elt [⟨tg, iter, ifs, 0⟩] scope pos) 0 (.ref it) (.ref s2.heap.objs.size) (compEnvC scope (closL X.env scope.names []) G.objs.size X.env)) (RR (.ref s2.heap.objs.size) G.objs.size) s₃ := by
    rintro s₃ rfl
    refine compLoop_any (fun n s' => ∃ i ys its σ1 H', Inv B [(s2.heap.objs.size, LCg.lst its)] σ1 H' s' ∧ Vals ys its ∧ tn i s'.heap ∧ (∀ b ∈ fp, H' b = none) ∧ ys.length ≤ sizeLine ∧ W i n ys σ1 H') ?_ m0
      ⟨0, [], [], _, H2, I3, .nil, st₁, fun b hb => (f2 b hb).1, Nat.zero_le _, w0⟩
    rintro n s' ⟨i, ys', its, σ1, H', I', rv, st', fr', hz, w'⟩
    have rl := rv.length
    rcases turn i n ys' σ1 H' w' with ⟨stop, qn⟩ | ⟨go, hz', step⟩
    · have q := T.done B pB wB kB cB i _ s' σ1 H' (fun _ _ => False) I' (statB I' fr') st' stop
      rw [aB] at q
      refine thn q fun r s4 ⟨hr, I4⟩ => ?_
      subst hr
      have pD := (I4.pin (s2.heap.objs.size, LCg.lst its) (List.mem_append_right _ List.mem_cons_self))
      have hDn : H' s2.heap.objs.size = none := pD.2.1
      have ub := I4.base
      rw [fB, exB, hB, sB] at ub
      have neD : ∀ {b : Addr} {o : HO}, H' b = some o → b ≠ s2.heap.objs.size := fun e z => by rw [z, hDn] at e; cases e
      have upk : ∀ {b : Addr} {o : HO}, H' b = some o → upd H' s2.heap.objs.size (.lst ys') b = some o := fun e => by rw [upd_ne (neD e)]; exact e
      have u : Un (frs X.stack) fp H2 (upd H' s2.heap.objs.size (.lst ys')) s2.heap s4.heap :=
        ⟨ub.keep, ub.slot, fun b o e n hx => by rw [upd_ne (below b (Heap.lt_size e)).2]; exact ub.free b o e n hx, ub.there, fun b zs e => upk (ub.tups b zs e), fun b o zs e => upk (ub.frzs b o zs e), fun b ps e => let ⟨more, q⟩ := ub.tbls b ps e; ⟨more, upk q⟩⟩
      have hok4 : HOk X.prog X.w H' s4.heap := by have := I4.hok; rw [pB, wB] at this; exact this
      have hok : HOk X.prog X.w (upd H' s2.heap.objs.size (.lst ys')) s4.heap := fun b o e => by
        by_cases hb : b = s2.heap.objs.size
        · subst hb
          rw [upd_same] at e
          cases e
          exact ⟨hz, its, its.length, rv, pD.1⟩
        · rw [upd_ne hb] at e
          exact (hok4 b o e).stay (fun _ _ _ q => q) (fun _ q => upk q) fun _ _ q => upk q
      have I5 : Inv X pins σ (upd H' s2.heap.objs.size (.lst ys')) s4 := I2.call' (ch := fp) (by rw [I4.os, sB]) u hok I4.bare fun b hb => let f := f2 b hb; ⟨f.2.2.2.1, f.2.1, f.2.2.2.2.1, f.2.2.2.2.2⟩
      refine fin s2.heap.objs.size G.objs.size _ s4 ⟨I5, ?_, ?_, ?_, Nat.le_trans I2.sz hCle, fun x c e z => ?_, fun p hp z => ?_⟩ (qn _ hDn)
      · obtain ⟨m, hn, _⟩ := I4.loc
        rw [eB] at hn
        exact ⟨m, hn⟩
      · have fr := I4.free
        rw [eB] at fr
        rw [upd_ne (Ne.symm hDC)]
        exact fr
      · exact Ne.symm (below _ I2.lt).1
      · obtain ⟨_, o, ho, _⟩ := I2.cell x c e
        exact (below c (Heap.lt_size ho)).1 z
      · exact (below p.1 (Heap.lt_size (I2.pin p hp).1)).1 z
    · have q := T.item B pB wB kB cB i _ s' σ1 H' (fun _ _ => False) I' (statB I' fr') st' go
      rw [aB] at q
      refine thn q fun r s4 ⟨u, hr, h4⟩ => ?_
      subst hr
      refine thn h4 fun _ s5 ⟨x, H5, I5, r5, y5, st5, fr5⟩ => ?_
      have I5' := I5.pinned (statB I5 fr5) (T.obj _ _ st5)
      have q5 := gB _ s5 σ1 H5 x u _ I5' r5 (step x H5 y5)
      rw [pB, wB, aB, eB, xB] at q5
      refine thn q5 fun _ s6 ⟨σ6, H6, I6, q6⟩ => ?_
      -- the element and the append
      have last : ∀ {s7 : Shared} {H7 : Hp}, Inv B ([(s2.heap.objs.size, LCg.lst its)] ++ pinsAt fp s5.heap) σ6 H7 s7 → (te σ6 H7 fun y H8 => ∃ m', m' < n ∧ W (i + 1) m' (ys' ++ [y]) σ6 H8) →
          wpAny (model X.prog X.w) X.A (eval elt (compEnvC scope (closL X.env scope.names []) G.objs.size X.env)) (fun x s₄ =>
              wpAny (model X.prog X.w) X.A (call (.builtin "list.append") [.ref s2.heap.objs.size, x]) (fun _ s₅ => ∃ m, m < n ∧
                ∃ i ys its σ1 H', Inv B [(s2.heap.objs.size, LCg.lst its)] σ1 H' s₅ ∧ Vals ys its ∧ tn i s₅.heap ∧ (∀ b ∈ fp, H' b = none) ∧ ys.length ≤ sizeLine ∧ W i m ys σ1 H') (fun _ _ => False) s₄) (fun _ _ => False) s7 := fun {s7 H7} I7 q7 => by
        have q8 := elB _ s7 σ6 H7 _ I7 q7
        rw [pB, wB, aB, eB, xB] at q8
        refine thn q8 fun uy s8 ⟨y, H8, I8, r8, m', hm', w8⟩ => ?_
        have pD := (I8.pin (s2.heap.objs.size, LCg.lst its) (List.mem_append_right _ (List.mem_append_left _ List.mem_cons_self)))
        refine append_at (its := its.toArray) (n := its.length) pD.1 (fun h9 hs9 hd9 => ?_) (by rw [List.size_toArray, ← rl]; exact hz)
        have dropped : Inv B (pinsAt fp s5.heap) σ6 H8 s8 := I8.pins_of fun p hp => I8.pin p (List.mem_append_right _ (List.mem_append_right _ hp))
        have apart : ∀ p ∈ B.pn ++ pinsAt fp s5.heap, p.1 ≠ s2.heap.objs.size := fun p hp => by
          rw [pnB] at hp
          exact Nat.ne_of_lt (fo _ (of_pinsAt (show p ∈ pinsAt fp s5.heap from hp)).1)
        have I9 : Inv B (pinsAt fp s5.heap) σ6 H8 { s8 with heap := h9 } := dropped.turned (t' := s8.toks) (fun b o hb e => hs9.extBut b o hb e) pD.2.1 pD.2.2.1 (.inr (by rw [sB]; exact Nat.le_refl _)) (fun x c e => by
          intro z
          obtain ⟨v, o, ho, hd⟩ := I8.cell x c e
          rw [z, pD.1] at ho
          cases ho
          cases hd) apart
        have I9' : Inv B [(s2.heap.objs.size, LCg.lst (its ++ [uy]))] σ6 H8 { s8 with heap := h9 } := I9.pins_of fun p hp => by
          have e := List.mem_singleton.mp hp
          subst e
          exact ⟨hd9.trans (congrArg some (LCg.lst_snoc its uy)), pD.2.1, pD.2.2.1, pD.2.2.2.1, by intro v hv; cases hv⟩
        refine ⟨m', hm', i + 1, ys' ++ [y], its ++ [uy], σ6, H8, I9', Vals.append rv (.cons r8 .nil), T.keep _ _ _ st5 fun b hb o e => ?_, fun b hb => ?_, by rw [List.length_append]; exact hz', w8⟩
        · exact (I9.pin (b, o) (List.mem_append_right _ (mem_pinsAt hb e))).1
        · obtain ⟨o, e, d⟩ := T.obj _ _ st5 b hb
          exact (I9.pin (b, o) (List.mem_append_right _ (mem_pinsAt hb e))).2.1
      have again : ∀ {s7 : Shared} {H7 : Hp}, Inv B ([(s2.heap.objs.size, LCg.lst its)] ++ pinsAt fp s5.heap) σ6 H7 s7 → (∃ m', m' < n ∧ W (i + 1) m' ys' σ6 H7) → ∃ m, m < n ∧
          ∃ i ys its σ1 H', Inv B [(s2.heap.objs.size, LCg.lst its)] σ1 H' s7 ∧ Vals ys its ∧ tn i s7.heap ∧ (∀ b ∈ fp, H' b = none) ∧ ys.length ≤ sizeLine ∧ W i m ys σ1 H' := fun {s7 H7} I7 ⟨m', hm', w7⟩ => by
        refine ⟨m', hm', i + 1, ys', its, σ6, H7, I7.unpinned, rv, T.keep _ _ _ st5 fun b hb o e => (I7.pin (b, o) (List.mem_append_right _ (List.mem_append_right _ (mem_pinsAt hb e)))).1, fun b hb => ?_, hz, w7⟩
        obtain ⟨o, e, d⟩ := T.obj _ _ st5 b hb
        exact (I7.pin (b, o) (List.mem_append_right _ (List.mem_append_right _ (mem_pinsAt hb e)))).2.1
      match ifs, tc, iB, q6 with
      | [], none, _, q6 =>
        refine wpAny_tests_nil ?_
        rw [if_pos rfl]
        exact last I6 q6
      | [c], some t, iB, q6 =>
        have iB : PT B c t := iB
        have q7 := iB _ s6 σ6 H6 _ I6 q6
        rw [pB, wB, aB, eB, xB] at q7
        refine wpAny_tests_one (thn q7 fun b s7 ⟨H7, I7, q7⟩ => ?_)
        cases b with
        | true => rw [if_pos rfl] at q7 ⊢; exact last I7 q7
        | false => rw [if_neg Bool.false_ne_true] at q7 ⊢; exact again I7 q7
  exact codeAny_compStart_list (loop _ rfl) (T.self _ 0 _ _ _ st₁ (loop _ rfl))
theorem pe_lc (hc : X.calm = true) (S : LcScope xs ys scope X.env.scope) (hj : Caps X ys js) (hi : PI X tg iter wi)
    (hg : ∀ C s₀ H₀ fp, PG (blockCx X xs ys scope C s₀ H₀ fp) tg g) (hif : ∀ C s₀ H₀ fp, PIf (blockCx X xs ys scope C s₀ H₀ fp) ifs tc) (he : ∀ C s₀ H₀ fp, PE (blockCx X xs ys scope C s₀ H₀ fp) elt te)
    (hs : ∀ x, foldedSetIterable iter X.env x = pure x := by intro _; rfl) : PE X (.ListComp elt [⟨tg, iter, ifs, 0⟩] scope pos) (tLC xs js wi g tc te) := by
  intro pins s σ H Q I h
  rw [eval_ListComp]
  refine wpAny_comprehension_free (use := none) rfl hs (closureFor_is (clos_ok I S)) S.kind S.names ?_
  refine lc_core (RR := fun acc C => compPost (model X.prog X.w) X.A X.xe none (EP X pins σ Q) acc C) hc S hj hi hg hif he I h fun D C H' s' L q => ?_
  obtain ⟨m, hn⟩ := L.ns
  exact ⟨m, hn, fun h'' hs'' => ⟨.ref D, H', L.gone hs'', rfl, q⟩⟩
theorem ps_setLC {i : Nat} {x : Str} {p' p : Pos} (hN : X.N.Nodup) (hx : X.N[i]? = some x) (hl : X.env.scope.names.lookup x = some .local) (hc : X.calm = true) (S : LcScope xs ys scope X.env.scope) (hj : Caps X ys js) (hi : PI X tg iter wi)
    (hg : ∀ C s₀ H₀ fp, PG (blockCx X xs ys scope C s₀ H₀ fp) tg g) (hif : ∀ C s₀ H₀ fp, PIf (blockCx X xs ys scope C s₀ H₀ fp) ifs tc) (he : ∀ C s₀ H₀ fp, PE (blockCx X xs ys scope C s₀ H₀ fp) elt te)
    (hsw : swapsWith (.ListComp elt [⟨tg, iter, ifs, 0⟩] scope pos) (some (.Name x p')) p.line X.env = pure true := by rfl)
    (hs : ∀ x, foldedSetIterable iter X.env x = pure x := by intro _; rfl) : PS X (.Assign [.Name x p'] (.ListComp elt [⟨tg, iter, ifs, 0⟩] scope pos) p) (tAsg (tLC xs js wi g tc te) (gName i)) := by
  intro pins s σ H D I h
  rw [exec_Assign_Name_used _ _ _ _ hsw]
  refine wpAny_bind (wpAny_standAt (wpAny_bind ?_))
  show wpAny _ X.A (do let _ ← comprehension (.ListComp elt [⟨tg, iter, ifs, 0⟩] scope pos) scope X.env _ (newList []) false (eval iter X.env) (some (assign (.Name x p') X.env))) _ _ s
  refine wpAny_bind (wpAny_mono (wpAny_comprehension_free (use := some (assign (.Name x p') X.env)) (Q := fun _ s' => SP X pins D .next s') rfl hs (closureFor_is (clos_ok I S)) S.kind S.names ?_) (fun _ s' hq => wpAny_pure (wpAny_pure hq)) fun _ _ e => e)
  refine lc_core (Q := fun v H' => gName i v σ H' D.nx) (RR := fun acc C => compPost (model X.prog X.w) X.A X.xe (some (assign (.Name x p') X.env)) (fun _ s' => SP X pins D .next s') acc C) hc S hj hi hg hif he I h fun A C H' s' L q => ?_
  show wpAny _ X.A (assign (.Name x p') X.env (.ref A)) _ _ _
  refine wpAny_assign_Name (store_ok2 (v := .ref A) L.inv hN hx (.inl hl) rfl (fun s'' I'' ⟨a, sb, ha⟩ => ?_) (.inr hl))
  have cne : ∀ {b : Addr}, (b = X.env.locals ∨ X.env.cells.lookup x = some b) → C ≠ b := fun z e => by
    rcases z with z | z
    · exact L.ne (e.trans z)
    · exact L.cells x _ z e.symm
  obtain ⟨m, hn⟩ := L.ns
  refine ⟨m, hn.sameBut sb (cne ha), fun h'' hs'' => ⟨_, _, ?_, q⟩⟩
  exact LcEnd.gone ⟨I'', ⟨m, hn.sameBut sb (cne ha)⟩, L.free, L.ne, L.up, L.cells, L.pin⟩ hs''
end
end L2
set_option Elab.async false
set_option linter.all false
set_option maxRecDepth 100000
namespace L2
open PySem PySem.Spec PyProof.Rows
def Its (x : Str) : It := ⟨fun i _ => i < x.cps.size, fun i H v H' => H' = H ∧ ∃ c, x.cps[i]? = some c ∧ v = .str ⟨#[c]⟩, fun i _ => x.cps.size ≤ i⟩
section
variable {X : Cx} {tg : Expr}
theorem turn_walk {P : Program} {w : World} {K : PySem.W.Frag} {tg : Expr} {it : Addr} {n : Nat} {Pv : Nat → Value → Prop} {St : Nat → Heap → Prop} {J : It} {T : String}
    (W : ∀ A' : Around, A'.handled = none → Walks P w A' it [it] [it] n Pv St) (ho : ∀ i h, St i h → ∃ o vs, h.get? it = some o ∧ o.cls = .type T ∧ o.data = .fields vs)
    (hT : ["enumerate", "zip", "dict_itemiterator", "dict_reverseitemiterator", "odict_iterator", "itertools.zip_longest", "itertools.pairwise"].contains T = false)
    (hgo : ∀ i H, J.go i H → i < n) (hst : ∀ i H, J.stop i H → n ≤ i) (hy : ∀ i H u, Pv i u → ∃ x, RelV x u ∧ J.yld i H x H) (hself : ∀ (A : Around) (i : Nat) (s : Shared) (Q : Value → Shared → Prop) (E : Value → Shared → Prop), St i s.heap → Q (.ref it) s → wpAny (model P w) A (pyIter (.ref it)) Q E s) : Turn P w K tg J [it] it (fun i h => St i h ∧ i ≤ n) where
  mem := by simp
  obj := fun i h st b hb => by
    have e : b = it := by simpa using hb
    subst e
    obtain ⟨o, vs, e, c, d⟩ := ho i h st.1
    exact ⟨o, e, fun v z => by rw [d] at z; cases z⟩
  keep := fun i h h' st k => ⟨(W {} rfl).frame i h h' st.1 k, st.2⟩
  item := by
    intro X hP hw hK hc i pins s σ H E I hf st hg
    subst hP hw hK
    obtain ⟨f0, f1, f2, f3, f4, f5⟩ := hf it (by simp)
    refine (W X.A (I.ok.hd hc)).item i s _ _ (hgo i H hg) st.1 fun v h' tk hv st' k => ?_
    have I1 : Inv X pins σ H { s with heap := h', toks := tk } := I.turned (fun b o hb e => k b o (by simpa using hb) e) f0 f1 f3 f4 f5
    obtain ⟨o, vs, e, c, d⟩ := ho _ _ st'
    obtain ⟨x, rx, yx⟩ := hy i H v hv
    exact ⟨v, rfl, go_of (s := { s with heap := h', toks := tk }) e c d hT ⟨x, H, I1, rx, yx, ⟨st', hgo i H hg⟩, fun b hb => (hf b hb).1⟩⟩
  done := by
    intro X hP hw hK hc i pins s σ H E I hf st hg
    subst hP hw hK
    obtain ⟨f0, f1, f2, f3, f4, f5⟩ := hf it (by simp)
    have e : i = n := Nat.le_antisymm st.2 (hst i H hg)
    subst e
    exact (W X.A (I.ok.hd hc)).done s _ _ st.1 fun h' tk k => ⟨rfl, I.turned (fun b o hb e => k b o (by simpa using hb) e) f0 f1 f3 f4 f5⟩
  self := fun A i s Q E st q => hself A i s Q E st.1 q
def iStr (tl : TE) : TI := fun σ H R => tl σ H fun x H1 => ∃ z, x = .str z ∧ R (Its z) H1
theorem pi_str {l : Expr} {tl : TE} (hl : PE X l tl) : PI X tg l (iStr tl) := by
  intro pins s σ H R I h
  refine thn (hl pins s σ H _ I h) fun v s1 ⟨x, H1, I1, r1, z, e, q⟩ => ?_
  subst e
  obtain ⟨t, rfl⟩ := r1
  have go : ∀ (T : String) (o : Obj) (St : Nat → Heap → Prop), (∀ A' : Around, A'.handled = none → Walks X.prog X.w A' s1.heap.objs.size [s1.heap.objs.size] [s1.heap.objs.size] z.cps.size (SignAt z) St) →
      (∀ i h, St i h → ∃ o vs, h.get? s1.heap.objs.size = some o ∧ o.cls = .type T ∧ o.data = .fields vs) →
      (["enumerate", "zip", "dict_itemiterator", "dict_reverseitemiterator", "odict_iterator", "itertools.zip_longest", "itertools.pairwise"].contains T = false) → St 0 (s1.heap.push o) →
      (∀ (A : Around) (i : Nat) (s : Shared) (Q : Value → Shared → Prop) (E : Value → Shared → Prop), St i s.heap → Q (.ref s1.heap.objs.size) s → wpAny (model X.prog X.w) A (pyIter (.ref s1.heap.objs.size)) Q E s) →
      PIE X pins σ tg R (.ref s1.heap.objs.size) { s1 with heap := s1.heap.push o } := fun T o St W ho hT st hself => by
    have I2 : Inv X pins σ H1 { s1 with heap := s1.heap.push o } := I1.kept (t' := s1.toks) fun b u e => Heap.get?_push_of_some _ e
    refine ⟨_, [s1.heap.objs.size], _, Its z, H1, rfl, I2, turn_walk (J := Its z) W ho hT (fun _ _ h => h) (fun _ _ h => h) (fun i H u ⟨c, t', hc, hu⟩ => ⟨.str ⟨#[c]⟩, ⟨t', hu⟩, rfl, c, hc, rfl⟩) hself, ⟨st, Nat.zero_le _⟩, fun b hb => ?_, q⟩
    have e : b = s1.heap.objs.size := by simpa using hb
    subst e
    exact I1.fpOk (Nat.le_refl _) (I1.hok.fresh (Nat.le_refl _))
  cases ha : z.cps.all (· < 128)
  · exact wpAny_pyIter_wide ha (go _ _ _ (fun A' hA => Walks.strWide hA _ z t) (fun i h ⟨o, e, c, d⟩ => ⟨o, _, e, c, d⟩) (by decide) ⟨_, Heap.get?_push_size _ rfl, rfl, rfl⟩ fun A i s Q E st q => wpAny_pyIter_striter_wide st q)
  · exact wpAny_pyIter_ascii ha (go _ _ _ (fun A' hA => Walks.strAscii hA _ z t) (fun i h ⟨o, e, c, d⟩ => ⟨o, _, e, c, d⟩) (by decide) ⟨_, Heap.get?_push_size _ rfl, rfl, rfl⟩ fun A i s Q E st q => wpAny_pyIter_striter_ascii st q)
end
def rSlS : V → Option Int → Option Int → Hp → VK → Prop := fun x lo hi H Q => ∃ z, x = .str z ∧ z.length ≤ sizeLine ∧ Q (.str (Txt.slice z lo hi)) H
section
variable {X : Cx}
theorem call_all : CallR X (.builtin "all") (fun xs H Q => X.calm = true ∧ ∃ (p : Addr) (bs : List Bool), xs = [.ref p] ∧ SqL X.K H p (bs.map V.bl) ∧ Q (.bl (bs.all id)) H) := by
  intro pins s σ H xs us Q I r h
  obtain ⟨hc, p, bs, rfl, hp, q⟩ := h
  obtain ⟨u, rfl, ru⟩ := vals1 r
  cases ru
  obtain ⟨its, rv, hl, hz⟩ := I.list hp
  have hlt : p < s.heap.objs.size := by obtain ⟨_, e, _⟩ := hl.isList; exact Heap.lt_size e
  have hlen := rv.length
  rw [List.length_map] at hlen
  refine call_all_walk (wpAny_pyIter_list hl.isList ?_)
  refine ⟨_, _, _, _, _, _, fun i => bs.getD i false, rfl, Walks.list (A := X.A.in1) (I.ok.hd hc) s.heap.objs.size p (Nat.ne_of_lt hlt) its.toArray, ⟨⟨_, Heap.get?_push_size _ rfl, rfl, rfl⟩, hl.isList.push _⟩, fun i v s' Q' E' hv q' => ?_, fun h' tk k => ?_⟩
  · have hv : its[i]? = some v := by simpa using hv
    have hi : i < bs.length := by
      have := (List.getElem?_eq_some_iff.mp hv).1
      omega
    obtain ⟨u', hu', ru'⟩ := rv.get (i := i) (x := .bl bs[i]) (by rw [List.getElem?_map, List.getElem?_eq_getElem hi]; rfl)
    rw [hv] at hu'
    cases hu'
    have e : v = Value.bool bs[i] := ru'
    subst e
    refine wpAny_truthy_bool ?_
    have e2 : bs.getD i false = bs[i] := by rw [List.getD_eq_getElem?_getD, List.getElem?_eq_getElem hi]; rfl
    rw [← e2]
    exact q'
  · refine ⟨.bl (bs.all id), H, ?_, ?_, q⟩
    · exact I.kept (h' := h') (t' := tk) fun b o e => k b o (by intro hm; have := List.mem_singleton.mp hm; exact absurd (this ▸ Heap.lt_size e) (Nat.lt_irrefl _)) (Heap.get?_push_of_some _ e)
    · have e : (List.range its.toArray.size).all (fun i => bs.getD i false) = bs.all id := by
        rw [List.size_toArray, ← hlen]
        rw [Bool.eq_iff_iff, List.all_eq_true, List.all_eq_true]
        constructor
        · intro a b hb
          obtain ⟨i, hi, rfl⟩ := List.getElem_of_mem hb
          have := a i (List.mem_range.mpr hi)
          rw [List.getD_eq_getElem?_getD, List.getElem?_eq_getElem hi] at this
          exact this
        · intro a i hi
          have hi := List.mem_range.mp hi
          rw [List.getD_eq_getElem?_getD, List.getElem?_eq_getElem hi]
          exact a _ (List.getElem_mem hi)
      show Value.bool _ = _
      rw [e]
theorem call_isi {T : String} : CallR X (.builtin "isinstance") (fun xs H Q => ∃ x t b, xs = [x, .ty T] ∧ TyOf X.K H x t ∧ PySem.W.kitOne X.K t (.type T) = some b ∧ Q (.bl b) H) := by
  intro pins s σ H xs us Q I r h
  obtain ⟨x, t, b, rfl, ty, e, q⟩ := h
  obtain ⟨u, w', rfl, ru, rw'⟩ := vals2 r
  cases rw'
  exact isinst_ok I ru ty e fun tk => ⟨.bl b, H, I.tok tk, rfl, q⟩
theorem strsAre_of : ∀ {ys : List Str} {us : List Value}, Vals (ys.map V.str) us → StrsAre us ys
  | [], us, r => by
    rw [List.map_nil] at r
    cases r
    exact .nil
  | y :: ys, us, r => by
    rw [List.map_cons] at r
    cases r with
    | @cons a b as bs h t =>
      obtain ⟨tk, hb⟩ := (show ∃ tk, b = Value.str y tk from h)
      subst hb
      exact .cons y tk (strsAre_of t)
theorem mt_join : MtR X "str.join" (fun x xs H Q => ∃ (z : Str) (p : Addr) (ys : List Str), x = .str z ∧ xs = [.ref p] ∧ SqL X.K H p (ys.map V.str) ∧ (ys.map (·.length)).sum + ys.length * z.length ≤ 16777216 ∧ Q (.str (Txt.join z ys)) H) := by
  intro pins s σ H x xs v us Q I rx rs h
  obtain ⟨z, p, ys, rfl, rfl, hp, hb, q⟩ := h
  obtain ⟨tz, rfl⟩ := rx
  obtain ⟨u, rfl, ru⟩ := vals1 rs
  cases ru
  obtain ⟨its, rv, hl, hz⟩ := I.list hp
  exact join_list hl.isList (strsAre_of rv) hb fun t' k => ⟨.str (Txt.join z ys), H, I.tok k, ⟨t', rfl⟩, q⟩
end
end L2
set_option Elab.async false
set_option linter.all false
set_option maxRecDepth 100000
namespace L2
open PySem PySem.Spec PyProof.Rows
structure Has (P : Program) (w : World) (K : PySem.W.Frag) (mg : Str → Option Value) (base : Heap) (k : Nat) (x : Str) (ps : List Str) (sp : Sp) : Prop where
  ex : ∃ f fd, FnOk P w K mg base CX0 k f fd ps sp ∧ Binds K fd ps [] ∧ PySem.W.keepIn K (.ref f) = true ∧ mg x = some (.ref f)
def Gc (mg : Str → Option Value) (x : Str) (v : V) : Prop := ∃ u, mg x = some u ∧ RelV v u
section
variable {X : Cx} {k : Nat} {x : Str} {ps : List Str} {sp : Sp} {p pos : Pos} {e : Expr} {es : List Expr} {t : TA} {v : V}
theorem Has.mono {P : Program} {w : World} {K : PySem.W.Frag} {mg : Str → Option Value} {base : Heap} {j k : Nat} (h : Has P w K mg base j x ps sp) (hk : j ≤ k) : Has P w K mg base k x ps sp := by
  obtain ⟨f, fd, F, r⟩ := h.ex
  exact ⟨f, fd, F.mono hk, r⟩
theorem Has.imp {P : Program} {w : World} {K : PySem.W.Frag} {mg : Str → Option Value} {base : Heap} {k : Nat} {sp' : Sp} (h : Has P w K mg base k x ps sp) (hs : ∀ vs H Q E, sp' vs H Q E → sp vs H Q E) : Has P w K mg base k x ps sp' := by
  obtain ⟨f, fd, F, r⟩ := h.ex
  exact ⟨f, fd, F.imp hs, r⟩
theorem pe_callH (h : Has X.prog X.w X.K X.mg X.base k x ps sp) (hr : Room k X.A) (hg : Gl X x) (ha : PA X (e :: es) t) (hdb : (x == ("__debug__" : Str)) = false := by decide)
    (he : starEach (e :: es) X.env = (false, eval e X.env) :: starEach es X.env := by rfl) (hpl : (backTo pos (starEach es X.env)).any (·.1) = false := by rfl) : PE X (.Call (.Name x p) (e :: es) [] pos) (tCall sp [] E0 t) := by
  obtain ⟨f, fd, F, b, kp, m⟩ := h.ex
  exact pe_call F hr hg m kp b .nil pass0 ha hdb he hpl
theorem pe_gc (h : Gc X.mg x v) (hg : Gl X x) (hd : (x == ("__debug__" : Str)) = false := by decide) : PE X (.Name x pos) (tC v) := by
  obtain ⟨u, m, r⟩ := h
  exact pe_glob hg m r hd
theorem pe_ty {T : String} (hm : X.mg x = none) (hv : bootBuiltins x = some (.type T)) (hg : Gl X x) (hn : x ≠ "__name__" := by decide) (hd : (x == ("__debug__" : Str)) = false := by decide) : PE X (.Name x pos) (tC (.ty T)) :=
  pe_bltn hg hm hv rfl hn hd
end
theorem pif_nil {X : Cx} : PIf X [] none := trivial
def lcOk (xs ys : List Str) (scope around : Scope) : Bool :=
  (scope.kind == .function) && decide (xs ++ ys).Nodup && xs.all (fun x => scope.names.lookup x == some .local) &&
  ys.all (fun y => (scope.names.lookup y == some .free) && ((around.names.lookup y == some .cell) || (around.names.lookup y == some .free))) &&
  scope.names.all (fun y => (y.2 != .cell) && ((y.2 != .local) || (scope.names.lookup y.1 == some .local)) && ((y.2 != .free) || ys.contains y.1))
theorem lcOk.scope {xs ys : List Str} {scope around : Scope} (h : lcOk xs ys scope around = true) : LcScope xs ys scope around := by
  unfold lcOk at h
  simp only [Bool.and_eq_true, beq_iff_eq, decide_eq_true_eq, List.all_eq_true, Bool.or_eq_true, bne_iff_ne, List.contains_iff_mem] at h
  obtain ⟨⟨⟨⟨h1, h2⟩, h3⟩, h4⟩, h5⟩ := h
  exact ⟨h1, h2, h3, h4, fun y hy => (h5 y hy).1.1, fun y hy hl => (h5 y hy).1.2.resolve_left (fun z => z hl), fun y hy hf => (h5 y hy).2.resolve_left (fun z => z hf)⟩
def capOk (N ys : List Str) (js : List Nat) : Bool := (js.length == ys.length) && (ys.zip js).all fun p => N[p.2]? == some p.1
theorem capOk.caps {X : Cx} {ys : List Str} {js : List Nat} (h : capOk X.N ys js = true) : Caps X ys js := by
  unfold capOk at h
  simp only [Bool.and_eq_true, beq_iff_eq, List.all_eq_true] at h
  refine ⟨h.1, fun i y j hy hj => ?_⟩
  refine h.2 (y, j) (List.mem_of_getElem? (i := i) ?_)
  rw [List.getElem?_zip_eq_some]
  exact ⟨hy, hj⟩
section
variable {X : Cx} {xs ys : List Str} {scope : Scope} {js : List Nat} {tg iter elt : Expr} {ifs : List Expr} {pos : Pos} {wi : TI} {g : TG} {tc : Option TT} {te : TE}
theorem pe_comp (xs ys : List Str) (js : List Nat) (hi : PI X tg iter wi)
    (hg : ∀ C s₀ H₀ fp, (xs ++ ys).Nodup → PG (blockCx X xs ys scope C s₀ H₀ fp) tg g) (hif : ∀ C s₀ H₀ fp, PIf (blockCx X xs ys scope C s₀ H₀ fp) ifs tc) (he : ∀ C s₀ H₀ fp, PE (blockCx X xs ys scope C s₀ H₀ fp) elt te)
    (hc : X.calm = true := by rfl) (S : lcOk xs ys scope X.env.scope = true := by rfl) (hj : capOk X.N ys js = true := by rfl)
    (hs : ∀ x, foldedSetIterable iter X.env x = pure x := by intro _; rfl) : PE X (.ListComp elt [⟨tg, iter, ifs, 0⟩] scope pos) (tLC xs js wi g tc te) :=
  pe_lc hc (lcOk.scope S) (capOk.caps hj) hi (fun C s₀ H₀ fp => hg C s₀ H₀ fp (lcOk.scope S).nd) hif he hs
theorem ps_comp {i : Nat} {x : Str} {p' p : Pos} (xs ys : List Str) (js : List Nat) (hN : X.N.Nodup) (hx : X.N[i]? = some x) (hi : PI X tg iter wi)
    (hg : ∀ C s₀ H₀ fp, (xs ++ ys).Nodup → PG (blockCx X xs ys scope C s₀ H₀ fp) tg g) (hif : ∀ C s₀ H₀ fp, PIf (blockCx X xs ys scope C s₀ H₀ fp) ifs tc) (he : ∀ C s₀ H₀ fp, PE (blockCx X xs ys scope C s₀ H₀ fp) elt te)
    (hl : X.env.scope.names.lookup x = some .local := by rfl) (hc : X.calm = true := by rfl) (S : lcOk xs ys scope X.env.scope = true := by rfl) (hj : capOk X.N ys js = true := by rfl)
    (hsw : swapsWith (.ListComp elt [⟨tg, iter, ifs, 0⟩] scope pos) (some (.Name x p')) p.line X.env = pure true := by rfl)
    (hs : ∀ x, foldedSetIterable iter X.env x = pure x := by intro _; rfl) : PS X (.Assign [.Name x p'] (.ListComp elt [⟨tg, iter, ifs, 0⟩] scope pos) p) (tAsg (tLC xs js wi g tc te) (gName i)) :=
  ps_setLC hN hx hl hc (lcOk.scope S) (capOk.caps hj) hi (fun C s₀ H₀ fp => hg C s₀ H₀ fp (lcOk.scope S).nd) hif he hsw hs
end
theorem bt_len : bootBuiltins "len" = some (.builtin "len") := by decide +kernel
theorem bt_isinstance : bootBuiltins "isinstance" = some (.builtin "isinstance") := by decide +kernel
theorem bt_max : bootBuiltins "max" = some (.builtin "max") := by decide +kernel
theorem bt_all : bootBuiltins "all" = some (.builtin "all") := by decide +kernel
theorem bt_sorted : bootBuiltins "sorted" = some (.builtin "sorted") := by decide +kernel
theorem bt_list : bootBuiltins "list" = some (.type "list") := by decide +kernel
theorem bt_set : bootBuiltins "set" = some (.type "set") := by decide +kernel
theorem bt_int : bootBuiltins "int" = some (.type "int") := by decide +kernel
theorem bt_bool : bootBuiltins "bool" = some (.type "bool") := by decide +kernel
theorem cx_K {CX : CXT} {P : Program} {w : World} {K : PySem.W.Frag} {mg : Str → Option Value} {base : Heap} {N : List Str} {qual : Str} {scope : Scope} {f : Addr} {cd : Value} {A : Around} {outer : List Env} {s : Shared} {H : Hp} {E : XK} : (cxOf CX P w K mg base N qual scope f cd A outer s H E).K = K := rfl
theorem cx_calm {CX : CXT} {P : Program} {w : World} {K : PySem.W.Frag} {mg : Str → Option Value} {base : Heap} {N : List Str} {qual : Str} {scope : Scope} {f : Addr} {cd : Value} {A : Around} {outer : List Env} {s : Shared} {H : Hp} {E : XK} : (cxOf CX P w K mg base N qual scope f cd A outer s H E).calm = true := rfl
theorem bk_calm {X : Cx} {xs ys : List Str} {scope : Scope} {C : Addr} {s₀ : Shared} {H₀ : Hp} {fp : List Addr} : (blockCx X xs ys scope C s₀ H₀ fp).calm = X.calm := rfl
theorem lenV_str {K : PySem.W.Frag} {y : Str} {H : Hp} {n : Nat} : LenV K (.str y) H n ↔ (y.length ≤ sizeLine ∧ n = y.length) := Iff.rfl
theorem eqV_str (a b : Str) : eqV (.str a) (.str b) = decide (b = a) := by
  show (a == b) = _
  rw [Bool.eq_iff_iff, beq_iff_eq, decide_eq_true_eq, eq_comm]
theorem bk_K {X : Cx} {xs ys : List Str} {scope : Scope} {C : Addr} {s₀ : Shared} {H₀ : Hp} {fp : List Addr} : (blockCx X xs ys scope C s₀ H₀ fp).K = X.K := rfl
theorem lc_by {J : It} {n : Nat} {ns : List Str} {js : List Nat} {g : TG} {te : TE} {σ : St} {H : Hp} {Q : VK} (Pv : Nat → List V → St → Hp → Prop) (h0 : Pv 0 [] (lcSt ns js σ) H) (hn : n ≤ sizeLine) (hl : ∀ i ys σ H, Pv i ys σ H → ys.length ≤ i)
    (hgo : ∀ i ys σ H, i < n → Pv i ys σ H → J.go i H) (hst : ∀ ys σ H, Pv n ys σ H → J.stop n H)
    (hs : ∀ i ys σ H x H' (C : V → St → Hp → Prop), i < n → Pv i ys σ H → J.yld i H x H' → (∀ y σ2 H3, Pv (i + 1) (ys ++ [y]) σ2 H3 → C y σ2 H3) → g x σ H' fun σ2 H2 => te σ2 H2 fun y H3 => C y σ2 H3)
    (hd : ∀ ys σ H, Pv n ys σ H → ∀ p, H p = none → Q (.ref p) (upd H p (.lst ys))) :
    LcW J ns js g none te σ H Q := by
  refine ⟨fun i m ys σ H => i + m = n ∧ Pv i ys σ H, ⟨n, by omega, h0⟩, fun i m ys σ H ⟨e, w⟩ => ?_⟩
  by_cases hi : i < n
  · refine .inr ⟨hgo i ys σ H hi w, Nat.lt_of_le_of_lt (hl _ _ _ _ w) (by omega), fun x H' hy => ?_⟩
    exact hs i ys σ H x H' (fun y σ2 H3 => ∃ m', m' < m ∧ i + 1 + m' = n ∧ Pv (i + 1) (ys ++ [y]) σ2 H3) hi w hy fun y σ2 H3 q => ⟨m - 1, by omega, by omega, q⟩
  · have : i = n := by omega
    subst this
    exact .inl ⟨hst ys σ H w, hd ys σ H w⟩
theorem lc_str {z : Str} {ns : List Str} {js : List Nat} {g : TG} {te : TE} {σ : St} {H : Hp} {Q : VK} (Pv : Nat → List V → St → Hp → Prop) (h0 : Pv 0 [] (lcSt ns js σ) H) (hz : z.cps.size ≤ sizeLine) (hl : ∀ i ys σ H, Pv i ys σ H → ys.length ≤ i)
    (hs : ∀ (i c : Nat) ys σ H (C : V → St → Hp → Prop), z.cps[i]? = some c → Pv i ys σ H → (∀ y σ2 H3, Pv (i + 1) (ys ++ [y]) σ2 H3 → C y σ2 H3) → g (.str ⟨#[c]⟩) σ H fun σ2 H2 => te σ2 H2 fun y H3 => C y σ2 H3)
    (hd : ∀ ys σ H, Pv z.cps.size ys σ H → ∀ p, H p = none → Q (.ref p) (upd H p (.lst ys))) :
    LcW (Its z) ns js g none te σ H Q :=
  lc_by (n := z.cps.size) Pv h0 hz hl (fun _ _ _ _ h _ => h) (fun _ _ _ _ => Nat.le_refl _) (fun i ys σ H x H' C hi w ⟨e, c, hc, hx⟩ hC => by subst e; subst hx; exact hs i c ys σ _ C hc w hC) hd
theorem lc_range {lo : Int} {n : Nat} {ns : List Str} {js : List Nat} {g : TG} {te : TE} {σ : St} {H : Hp} {Q : VK} (Pv : Nat → List V → St → Hp → Prop) (h0 : Pv 0 [] (lcSt ns js σ) H) (hz : n ≤ sizeLine) (hl : ∀ i ys σ H, Pv i ys σ H → ys.length ≤ i)
    (hs : ∀ (i : Nat) ys σ H (C : V → St → Hp → Prop), i < n → Pv i ys σ H → (∀ y σ2 H3, Pv (i + 1) (ys ++ [y]) σ2 H3 → C y σ2 H3) → g (.int (lo + i)) σ H fun σ2 H2 => te σ2 H2 fun y H3 => C y σ2 H3)
    (hd : ∀ ys σ H, Pv n ys σ H → ∀ p, H p = none → Q (.ref p) (upd H p (.lst ys))) :
    LcW (Itr lo n) ns js g none te σ H Q :=
  lc_by (n := n) Pv h0 hz hl (fun _ _ _ _ h _ => h) (fun _ _ _ _ => Nat.le_refl _) (fun i ys σ H x H' C hi w ⟨e, hx⟩ hC => by subst e; subst hx; exact hs i ys σ _ C hi w hC) hd
theorem lc_tup {K : PySem.W.Frag} {a : Addr} {xs : List V} {ns : List Str} {js : List Nat} {g : TG} {te : TE} {σ : St} {H : Hp} {Q : VK} (Pv : Nat → List V → St → Hp → Prop) (h0 : Pv 0 [] (lcSt ns js σ) H) (hz : xs.length ≤ sizeLine) (hl : ∀ i ys σ H, Pv i ys σ H → ys.length ≤ i)
    (hK : ∀ i ys σ H, Pv i ys σ H → SqT K H a xs)
    (hs : ∀ (i : Nat) x ys σ H (C : V → St → Hp → Prop), xs[i]? = some x → Pv i ys σ H → (∀ y σ2 H3, Pv (i + 1) (ys ++ [y]) σ2 H3 → C y σ2 H3) → g x σ H fun σ2 H2 => te σ2 H2 fun y H3 => C y σ2 H3)
    (hd : ∀ ys σ H, Pv xs.length ys σ H → ∀ p, H p = none → Q (.ref p) (upd H p (.lst ys))) :
    LcW (Itt K a) ns js g none te σ H Q :=
  lc_by (n := xs.length) Pv h0 hz hl (fun i ys σ H hi w => ⟨xs, xs[i], hK i ys σ H w, List.getElem?_eq_getElem hi⟩) (fun ys σ H w => ⟨xs, hK _ ys σ H w, Nat.le_refl _⟩)
    (fun i ys σ H x H' C hi w ⟨e, hx⟩ hC => by subst e; exact hs i x ys σ _ C (hx xs (hK i ys σ _ w)) w hC) hd
theorem lc_list {K : PySem.W.Frag} {a : Addr} {xs : List V} {ns : List Str} {js : List Nat} {g : TG} {te : TE} {σ : St} {H : Hp} {Q : VK} (Pv : Nat → List V → St → Hp → Prop) (h0 : Pv 0 [] (lcSt ns js σ) H) (hz : xs.length ≤ sizeLine) (hl : ∀ i ys σ H, Pv i ys σ H → ys.length ≤ i)
    (hK : ∀ i ys σ H, Pv i ys σ H → SqL K H a xs)
    (hs : ∀ (i : Nat) x ys σ H (C : V → St → Hp → Prop), xs[i]? = some x → Pv i ys σ H → (∀ y σ2 H3, Pv (i + 1) (ys ++ [y]) σ2 H3 → C y σ2 H3) → g x σ H fun σ2 H2 => te σ2 H2 fun y H3 => C y σ2 H3)
    (hd : ∀ ys σ H, Pv xs.length ys σ H → ∀ p, H p = none → Q (.ref p) (upd H p (.lst ys))) :
    LcW (Itl K a) ns js g none te σ H Q :=
  lc_by (n := xs.length) Pv h0 hz hl (fun i ys σ H hi w => ⟨xs, xs[i], hK i ys σ H w, List.getElem?_eq_getElem hi⟩) (fun ys σ H w => ⟨xs, hK _ ys σ H w, Nat.le_refl _⟩)
    (fun i ys σ H x H' C hi w ⟨e, hx⟩ hC => by subst e; exact hs i x ys σ _ C (hx xs (hK i ys σ _ w)) w hC) hd
def ForW (J : It) (g : TG) (tb : TS) (D : Ends) (σ : St) (H : Hp) : Prop := ∃ W : Nat → Nat → St → Hp → Prop, (∃ m, W 0 m σ H) ∧ ∀ i m σ H, W i m σ H →
  (J.stop i H ∧ D.nx σ H) ∨ (J.go i H ∧ ∃ N : St → Hp → Prop, (∀ σ' H', N σ' H' → ∃ m', m' < m ∧ W (i + 1) m' σ' H') ∧ ∀ x H', J.yld i H x H' → g x σ H' fun σ2 H2 => tb { D with nx := N, ct := N, bk := D.nx } σ2 H2)
theorem tFor_eq {wi : TI} {g : TG} {tb : TS} {D : Ends} {σ : St} {H : Hp} : tFor wi g tb D σ H = wi σ H fun J H1 => ForW J g tb D σ H1 := rfl
theorem tLC_eq {n : List Str} {js : List Nat} {wi : TI} {g : TG} {tc : Option TT} {te : TE} {σ : St} {H : Hp} {Q : VK} : tLC n js wi g tc te σ H Q = wi σ H fun J H1 => LcW J n js g tc te σ H1 Q := rfl
theorem fw_list {K : PySem.W.Frag} {a : Addr} {xs : List V} {g : TG} {tb : TS} {D : Ends} {σ : St} {H : Hp} (Pv : Nat → St → Hp → Prop) (h0 : Pv 0 σ H) (hl : ∀ i σ H, i ≤ xs.length → Pv i σ H → SqL K H a xs)
    (hs : ∀ i x σ H, xs[i]? = some x → Pv i σ H → g x σ H fun σ2 H2 => tb { D with nx := Pv (i + 1), ct := Pv (i + 1), bk := D.nx } σ2 H2) (hd : ∀ σ H, Pv xs.length σ H → D.nx σ H) : ForW (Itl K a) g tb D σ H := for_list Pv h0 hl hs hd
theorem fw_range {lo : Int} {n : Nat} {g : TG} {tb : TS} {D : Ends} {σ : St} {H : Hp} (Pv : Nat → St → Hp → Prop) (h0 : Pv 0 σ H)
    (hs : ∀ i σ H, i < n → Pv i σ H → g (.int (lo + i)) σ H fun σ2 H2 => tb { D with nx := Pv (i + 1), ct := Pv (i + 1), bk := D.nx } σ2 H2) (hd : ∀ σ H, Pv n σ H → D.nx σ H) : ForW (Itr lo n) g tb D σ H := for_range Pv h0 hs hd
theorem seq_abs {t u : TS} {D : Ends} {σ : St} {H : Hp} (h : ∀ N : St → Hp → Prop, (∀ σ H, u D σ H → N σ H) → t { D with nx := N } σ H) : tSeq t u D σ H := h (u D) fun _ _ z => z
theorem seq_join {t u : TS} {D : Ends} {σ : St} {H : Hp} (J : St → Hp → Prop) (h1 : ∀ N : St → Hp → Prop, (∀ σ H, J σ H → N σ H) → t { D with nx := N } σ H) (h2 : ∀ σ H, J σ H → u D σ H) : tSeq t u D σ H := h1 (u D) h2
structure Bi (mg : Str → Option Value) : Prop where
  len : mg "len" = none
  range : mg "range" = none
  isinstance : mg "isinstance" = none
  max : mg "max" = none
  sum : mg "sum" = none
  all : mg "all" = none
  tuple : mg "tuple" = none
  list : mg "list" = none
  sorted : mg "sorted" = none
  set : mg "set" = none
  int : mg "int" = none
  bool : mg "bool" = none
  str : mg "str" = none
  dict : mg "dict" = none
theorem has_of {P : Program} {w : World} {K : PySem.W.Frag} {mg : Str → Option Value} {base : Heap} {k : Nat} {x : Str} {ps : List Str} {sp : Sp} {st : Stmt} {f : Addr} {fd : FuncData} (F : Fun K x x st f fd) (ok : FnOk P w K mg base CX0 k f fd ps sp) (b : Binds K fd ps [])
    (m : mg x = some (.ref f)) : Has P w K mg base k x ps sp := ⟨f, fd, ok, b, F.kp, m⟩
end L2
set_option Elab.async false
set_option linter.all false
set_option maxRecDepth 100000
namespace L2
open PySem PySem.Spec PyProof.Rows
inductive Dt where
  | non | bl (b : Bool) | int (i : Int) | str (x : Str) | tup (ds : List Dt) | lst (ds : List Dt)
mutual
def DAt (H : Hp) : Dt → V → Prop
  | .non, v => v = .non
  | .bl b, v => v = .bl b
  | .int i, v => v = .int i
  | .str x, v => v = .str x
  | .tup ds, v => ∃ a vs, v = .ref a ∧ H a = some (.tup vs) ∧ DAts H ds vs
  | .lst ds, v => ∃ a vs, v = .ref a ∧ H a = some (.lst vs) ∧ DAts H ds vs
def DAts (H : Hp) : List Dt → List V → Prop
  | [], vs => vs = []
  | d :: ds, vs => ∃ v r, vs = v :: r ∧ DAt H d v ∧ DAts H ds r
end
mutual
theorem DAt.same {H H' : Hp} (e : Same H H') : ∀ {d : Dt} {v : V}, DAt H d v → DAt H' d v
  | .non, _, h => h
  | .bl _, _, h => h
  | .int _, _, h => h
  | .str _, _, h => h
  | .tup ds, v, h => by
    obtain ⟨a, vs, e1, e2, e3⟩ := h
    exact ⟨a, vs, e1, e _ _ e2, DAts.same e e3⟩
  | .lst ds, v, h => by
    obtain ⟨a, vs, e1, e2, e3⟩ := h
    exact ⟨a, vs, e1, e _ _ e2, DAts.same e e3⟩
theorem DAts.same {H H' : Hp} (e : Same H H') : ∀ {ds : List Dt} {vs : List V}, DAts H ds vs → DAts H' ds vs
  | [], _, h => h
  | d :: ds, vs, h => by
    obtain ⟨v, r, e1, e2, e3⟩ := h
    exact ⟨v, r, e1, DAt.same e e2, DAts.same e e3⟩
end
theorem DAts.length {H : Hp} : ∀ {ds : List Dt} {vs : List V}, DAts H ds vs → vs.length = ds.length
  | [], vs, h => by
    have h : vs = [] := h
    rw [h]
    rfl
  | d :: ds, vs, h => by
    obtain ⟨v, r, e1, e2, e3⟩ := h
    rw [e1, List.length_cons, List.length_cons, DAts.length e3]
theorem DAts.get {H : Hp} : ∀ {ds : List Dt} {vs : List V} {i : Nat} {d : Dt}, DAts H ds vs → ds[i]? = some d → ∃ v, vs[i]? = some v ∧ DAt H d v
  | [], vs, i, d, _, e => by simp at e
  | d :: ds, vs, 0, d', h, e => by
    obtain ⟨v, r, e1, e2, e3⟩ := h
    simp at e
    subst e; subst e1
    exact ⟨v, rfl, e2⟩
  | d :: ds, vs, i + 1, d', h, e => by
    obtain ⟨v, r, e1, e2, e3⟩ := h
    subst e1
    simp at e
    obtain ⟨u, h1, h2⟩ := DAts.get e3 e
    exact ⟨u, by simpa using h1, h2⟩
theorem DAts.append {H : Hp} : ∀ {ds es : List Dt} {vs us : List V}, DAts H ds vs → DAts H es us → DAts H (ds ++ es) (vs ++ us)
  | [], es, vs, us, h, h' => by
    have h : vs = [] := h
    subst h
    exact h'
  | d :: ds, es, vs, us, h, h' => by
    obtain ⟨v, r, e1, e2, e3⟩ := h
    subst e1
    exact ⟨v, r ++ us, rfl, e2, DAts.append e3 h'⟩
theorem DAts.take {H : Hp} : ∀ {ds : List Dt} {vs : List V} (n : Nat), DAts H ds vs → DAts H (ds.take n) (vs.take n)
  | ds, vs, 0, _ => rfl
  | [], vs, n + 1, h => by
    have h : vs = [] := h
    subst h
    rfl
  | d :: ds, vs, n + 1, h => by
    obtain ⟨v, r, e1, e2, e3⟩ := h
    subst e1
    exact ⟨v, r.take n, rfl, e2, DAts.take n e3⟩
theorem DAts.drop {H : Hp} : ∀ {ds : List Dt} {vs : List V} (n : Nat), DAts H ds vs → DAts H (ds.drop n) (vs.drop n)
  | ds, vs, 0, h => by simpa using h
  | [], vs, n + 1, h => by
    have h : vs = [] := h
    subst h
    rfl
  | d :: ds, vs, n + 1, h => by
    obtain ⟨v, r, e1, e2, e3⟩ := h
    subst e1
    simpa using DAts.drop n e3
theorem DAts.one {H : Hp} {d : Dt} {v : V} (h : DAt H d v) : DAts H [d] [v] := ⟨v, [], rfl, h, rfl⟩
def DFit : Nat → Dt → Prop
  | n + 1, .tup ds => ds.length ≤ 1000 ∧ ∀ d ∈ ds, DFit n d
  | n + 1, .lst ds => ds.length ≤ 1000 ∧ ∀ d ∈ ds, DFit n d
  | 0, .tup _ => False
  | 0, .lst _ => False
  | _, _ => True
inductive Tm where
  | name (x : Str)
  | node (w : Str) (ts : List Tm)
mutual
def toD : Tm → Dt
  | .name x => .tup [.str "name", .str x]
  | .node w ts => .tup (.str w :: toDs ts)
def toDs : List Tm → List Dt
  | [] => []
  | t :: ts => toD t :: toDs ts
end
theorem toDs_map : ∀ ts : List Tm, toDs ts = ts.map toD
  | [] => rfl
  | t :: ts => by rw [toDs, toDs_map ts, List.map_cons]
theorem toD_node (w : Str) (ts : List Tm) : toD (.node w ts) = .tup (.str w :: ts.map toD) := by rw [toD, toDs_map]
abbrev TAt (H : Hp) (t : Tm) (v : V) : Prop := DAt H (toD t) v
abbrev TAts (H : Hp) (ts : List Tm) (vs : List V) : Prop := DAts H (ts.map toD) vs
theorem TAt.name {H : Hp} {x : Str} {v : V} (h : TAt H (.name x) v) : ∃ a, v = .ref a ∧ H a = some (.tup [.str "name", .str x]) := by
  obtain ⟨a, vs, e1, e2, u, r, e3, e4, e5⟩ := h
  obtain ⟨u2, r2, e6, e7, e8⟩ := e5
  have e4 : u = .str "name" := e4
  have e7 : u2 = .str x := e7
  have e8 : r2 = [] := e8
  subst e3; subst e4; subst e6; subst e7; subst e8
  exact ⟨a, e1, e2⟩
theorem TAt.mkName {H : Hp} {x : Str} {a : Addr} (h : H a = some (.tup [.str "name", .str x])) : TAt H (.name x) (.ref a) :=
  ⟨a, _, rfl, h, _, _, rfl, rfl, _, _, rfl, rfl, rfl⟩
theorem TAt.node {H : Hp} {w : Str} {ts : List Tm} {v : V} (h : TAt H (.node w ts) v) : ∃ a vs, v = .ref a ∧ H a = some (.tup (.str w :: vs)) ∧ TAts H ts vs := by
  unfold TAt at h
  rw [toD_node] at h
  obtain ⟨a, vs, e1, e2, u, r, e3, e4, e5⟩ := h
  have e4 : u = .str w := e4
  subst e3; subst e4
  exact ⟨a, r, e1, e2, e5⟩
theorem TAt.mkNode {H : Hp} {w : Str} {ts : List Tm} {a : Addr} {vs : List V} (h : H a = some (.tup (.str w :: vs))) (hs : TAts H ts vs) : TAt H (.node w ts) (.ref a) := by
  unfold TAt
  rw [toD_node]
  exact ⟨a, _, rfl, h, _, _, rfl, rfl, hs⟩
def Wrd (w : Str) : Prop := w = "none" ∨ w = "all" ∨ w = "not" ∨ w = "both" ∨ w = "either"
theorem Wrd.ne {w : Str} (h : Wrd w) : w ≠ "name" := by
  rcases h with rfl | rfl | rfl | rfl | rfl <;> decide +kernel
def Sh (w : Str) (n : Nat) : Prop := (w = "none" ∧ n = 0) ∨ (w = "all" ∧ n = 0) ∨ (w = "not" ∧ n = 1) ∨ (w = "both" ∧ 2 ≤ n) ∨ (w = "either" ∧ 2 ≤ n)
structure Nm (x : Str) : Prop where
  pos : 1 ≤ x.length
  most : x.length ≤ 8
  low : ∀ c ∈ x.cps.toList, 97 ≤ c ∧ c ≤ 122
  nn : x ≠ "none"
  na : x ≠ "all"
def Fit : Nat → Tm → Prop
  | _, .name x => Nm x
  | 0, .node w ts => Sh w ts.length ∧ ts = []
  | n + 1, .node w ts => Sh w ts.length ∧ ∀ t ∈ ts, Fit n t
theorem Fit.up : ∀ {n : Nat} {t : Tm}, Fit n t → Fit (n + 1) t
  | n, .name _, h => by unfold Fit at h ⊢; exact h
  | 0, .node w ts, h => by
    unfold Fit at h
    obtain ⟨h1, h2⟩ := h
    subst h2
    exact ⟨h1, fun _ z => nomatch z⟩
  | n + 1, .node w ts, h => by
    unfold Fit at h ⊢
    exact ⟨h.1, fun t ht => Fit.up (h.2 t ht)⟩
theorem Fit.mono {n m : Nat} {t : Tm} (h : Fit n t) (hm : n ≤ m) : Fit m t := by
  obtain ⟨k, rfl⟩ := Nat.le.dest hm
  induction k with
  | zero => exact h
  | succ k ih => exact Fit.up (ih (by omega))
mutual
def wt : Tm → Nat
  | .name _ => 1
  | .node _ ts => 1 + wts ts
def wts : List Tm → Nat
  | [] => 0
  | t :: ts => wt t + wts ts
end
theorem same_new {H : Hp} {p : Addr} (h : H p = none) (o : HO) : Same H (upd H p o) := fun b u q => by rw [upd_ne (ne_of_none q h)]; exact q
theorem str_ext {x y : Str} (h : x.cps = y.cps) : x = y := by
  cases x; cases y; cases h; rfl
theorem len_app (p q : Str) : (p ++ q).length = p.length + q.length := by
  show (p.cps ++ q.cps).size = p.cps.size + q.cps.size
  rw [Array.size_append]
theorem cps_app (p q : Str) : (p ++ q).cps.toList = p.cps.toList ++ q.cps.toList := by
  show (p.cps ++ q.cps).toList = _
  rw [Array.toList_append]
theorem small {n : Nat} (h : n ≤ 1000) : n ≤ sizeLine := Nat.le_of_lt (small1000 h)
theorem TAts.one {H : Hp} {t : Tm} {v : V} (h : TAt H t v) : TAts H [t] [v] := DAts.one h
theorem TAts.append {H : Hp} {ts us : List Tm} {vs ws : List V} (h : TAts H ts vs) (h' : TAts H us ws) : TAts H (ts ++ us) (vs ++ ws) := by
  unfold TAts
  rw [List.map_append]
  exact DAts.append h h'
theorem TAts.take {H : Hp} {ts : List Tm} {vs : List V} (n : Nat) (h : TAts H ts vs) : TAts H (ts.take n) (vs.take n) := by
  unfold TAts
  rw [List.map_take]
  exact DAts.take n h
theorem TAts.drop {H : Hp} {ts : List Tm} {vs : List V} (n : Nat) (h : TAts H ts vs) : TAts H (ts.drop n) (vs.drop n) := by
  unfold TAts
  rw [List.map_drop]
  exact DAts.drop n h
theorem TAts.length {H : Hp} {ts : List Tm} {vs : List V} (h : TAts H ts vs) : vs.length = ts.length := by
  have := DAts.length h
  rw [List.length_map] at this
  exact this
theorem TAts.get {H : Hp} {ts : List Tm} {vs : List V} {i : Nat} {t : Tm} (h : TAts H ts vs) (ht : ts[i]? = some t) : ∃ v, vs[i]? = some v ∧ TAt H t v :=
  DAts.get (d := toD t) h (by rw [List.getElem?_map, ht]; rfl)
def TupSame (H H' : Hp) : Prop := ∀ b xs, H b = some (.tup xs) → H' b = some (.tup xs)
theorem TupSame.refl (H : Hp) : TupSame H H := fun _ _ h => h
theorem TupSame.trans {H H1 H2 : Hp} (a : TupSame H H1) (b : TupSame H1 H2) : TupSame H H2 := fun c o h => b c o (a c o h)
theorem Same.tups {H H' : Hp} (e : Same H H') : TupSame H H' := fun b xs h => e b _ h
theorem TupSame.upd_lst {H H' : Hp} {a : Addr} {o : HO} {xs : List V} (e : TupSame H H') (h : H' a = some (.lst xs)) : TupSame H (upd H' a o) := fun b ys hb => by
  rw [upd_ne (ne_of (e _ _ hb) h (by intro z; cases z))]
  exact e _ _ hb
theorem Same.upd {H H1 : Hp} {a : Addr} {o : HO} (e : Same H H1) (h : H a = none) : Same H (upd H1 a o) := fun b u hb => by
  rw [upd_ne (ne_of_none hb h)]
  exact e _ _ hb
mutual
theorem TAt.tups {H H' : Hp} (e : TupSame H H') : ∀ {t : Tm} {v : V}, TAt H t v → TAt H' t v
  | .name x, v, h => by
    obtain ⟨a, e1, h2⟩ := TAt.name h
    subst e1
    exact TAt.mkName (e _ _ h2)
  | .node w ts, v, h => by
    obtain ⟨a, vs, e1, h2, hs⟩ := TAt.node h
    subst e1
    exact TAt.mkNode (e _ _ h2) (TAts.tups e hs)
theorem TAts.tups {H H' : Hp} (e : TupSame H H') : ∀ {ts : List Tm} {vs : List V}, TAts H ts vs → TAts H' ts vs
  | [], vs, h => h
  | t :: ts, vs, h => by
    obtain ⟨v, r, e1, e2, e3⟩ := h
    exact ⟨v, r, e1, TAt.tups e e2, TAts.tups e e3⟩
end
end L2
set_option Elab.async false
set_option linter.all false
set_option maxRecDepth 100000
namespace L2
open PySem PySem.Spec PyProof.Rows
structure KD (w : World) (K : PySem.W.Frag) (a : Addr) (kvs : List (Key × V)) : Prop where
  dict : ∀ (P : Program) (h : Heap), K.In h → ∃ vs, KV kvs vs ∧ h.DictOf (mixKind P w) a vs
def tKGet (w : World) (K : PySem.W.Frag) (td ty : TE) : TE := fun σ H Q => td σ H fun x H1 => ty σ H1 fun y H2 => ∃ a kvs k v, x = .ref a ∧ y = kV k ∧ KD w K a kvs ∧ valV kvs k = some v ∧ Q v H2
def entOk (w : World) : List DictEntry → List (Str × Str) → Prop
  | [], r => r = []
  | e :: es, r => ∃ x y t u r', r = (x, y) :: r' ∧ e.hash = hashStr w x ∧ e.key = .str x t ∧ e.val = .str y u ∧ entOk w es r'
theorem entOk.keys {w : World} {P : Program} : ∀ {es : List DictEntry} {r : List (Str × Str)}, entOk w es r → ∀ e ∈ es, ∃ k, (mixKind P w).is k e.key = true ∧ e.hash = (mixKind P w).hash k
  | [], _, _, e, he => nomatch he
  | e :: es, r, h, e', he => by
    obtain ⟨x, y, t, u, r', _, h1, h2, _, h4⟩ := h
    rcases List.mem_cons.mp he with rfl | he
    · exact ⟨.inr x, by rw [h2]; exact mixKind_str P w x t, h1⟩
    · exact entOk.keys h4 e' he
theorem entOk.pairs {w : World} {P : Program} : ∀ {es : List DictEntry} {r : List (Str × Str)}, entOk w es r → ∃ vs : List (Key × Value), KV (r.map fun p => ((.inr p.1 : Key), V.str p.2)) vs ∧ Pairs (mixKind P w) es vs ∧ vs.map (·.1) = r.map fun p => (.inr p.1 : Key)
  | [], r, h => by
    have h : r = [] := h
    subst h
    exact ⟨[], .nil, .nil, rfl⟩
  | e :: es, r, h => by
    obtain ⟨x, y, t, u, r', rfl, h1, h2, h3, h4⟩ := h
    obtain ⟨vs, a, b, c⟩ := entOk.pairs (P := P) h4
    refine ⟨(.inr x, .str y u) :: vs, .cons ⟨rfl, u, rfl⟩ a, .cons (by rw [h2]; exact mixKind_str P w x t) h3 b, ?_⟩
    rw [List.map_cons, List.map_cons, c]
theorem KD.of {w : World} {K : PySem.W.Frag} {a : Addr} {es : Array DictEntry} {ep : Nat} {r : List (Str × Str)} (o : K.lookup a = some ⟨.type "dict", none, .dict es ep, #[]⟩) (e : entOk w es.toList r) (n : (r.map fun p => (.inr p.1 : Key)).Nodup) :
    KD w K a (r.map fun p => ((.inr p.1 : Key), V.str p.2)) := ⟨fun P h X => by
  obtain ⟨vs, h1, h2, h3⟩ := entOk.pairs (P := P) e
  exact ⟨vs, h1, _, es, ep, X _ _ o, ⟨rfl, rfl, rfl⟩, rfl, fun x hx => entOk.keys e x (by simpa using hx), h2, by rw [h3]; exact n⟩⟩
theorem cx_w {CX : CXT} {P : Program} {w : World} {K : PySem.W.Frag} {mg : Str → Option Value} {base : Heap} {N : List Str} {qual : Str} {scope : Scope} {f : Addr} {cd : Value} {A : Around} {outer : List Env} {s : Shared} {H : Hp} {E : XK} : (cxOf CX P w K mg base N qual scope f cd A outer s H E).w = w := rfl
theorem bk_w {X : Cx} {xs ys : List Str} {scope : Scope} {C : Addr} {s₀ : Shared} {H₀ : Hp} {fp : List Addr} : (blockCx X xs ys scope C s₀ H₀ fp).w = X.w := rfl
theorem kit_same {K : PySem.W.Frag} {T : String} : PySem.W.kitOne K (.type T) (.type T) = some true := by
  unfold PySem.W.kitOne
  rw [if_pos (by simp)]
def kitF (S T : String) : Bool := !(Value.type S == Value.type T) && PySem.W.kitMeta T && ((PySem.fastBuiltinMro S).map (·.contains (.type T)) == some false)
theorem kit_f {K : PySem.W.Frag} {S T : String} (h : kitF S T = true) : PySem.W.kitOne K (.type S) (.type T) = some false := by
  unfold kitF at h
  simp only [Bool.and_eq_true, Bool.not_eq_true', beq_iff_eq] at h
  unfold PySem.W.kitOne
  rw [if_neg (by rw [h.1.1]; decide)]
  show (if PySem.W.kitMeta T = true then PySem.W.subIn K (.type S) (.type T) else none) = _
  rw [if_pos h.1.2]
  exact h.2
theorem kit_ib {K : PySem.W.Frag} : PySem.W.kitOne K (.type "int") (.type "bool") = some false := kit_f (by decide +kernel)
def mw (w : Str) : Str := if w = "none" then "all" else if w = "all" then "none" else if w = "both" then "either" else if w = "either" then "both" else w
mutual
def mir : Tm → Tm
  | .name x => .name x
  | .node w ts => .node (mw w) (mirs ts)
def mirs : List Tm → List Tm
  | [] => []
  | t :: ts => mir t :: mirs ts
end
theorem mirs_map : ∀ ts : List Tm, mirs ts = ts.map mir
  | [] => rfl
  | t :: ts => by rw [mirs, mirs_map ts, List.map_cons]
theorem mir_node (w : Str) (ts : List Tm) : mir (.node w ts) = .node (mw w) (ts.map mir) := by rw [mir, mirs_map]
theorem Sh.mw {w : Str} {n : Nat} (h : Sh w n) : Sh (mw w) n ∧ L2.mw (L2.mw w) = w := by
  rcases h with ⟨rfl, h⟩ | ⟨rfl, h⟩ | ⟨rfl, h⟩ | ⟨rfl, h⟩ | ⟨rfl, h⟩
  · exact ⟨.inr (.inl ⟨by decide +kernel, h⟩), by decide +kernel⟩
  · exact ⟨.inl ⟨by decide +kernel, h⟩, by decide +kernel⟩
  · exact ⟨.inr (.inr (.inl ⟨by decide +kernel, h⟩)), by decide +kernel⟩
  · exact ⟨.inr (.inr (.inr (.inr ⟨by decide +kernel, h⟩))), by decide +kernel⟩
  · exact ⟨.inr (.inr (.inr (.inl ⟨by decide +kernel, h⟩))), by decide +kernel⟩
mutual
theorem wt_mir : ∀ t : Tm, wt (mir t) = wt t
  | .name x => by rw [mir]
  | .node w ts => by rw [mir, wt, wt, wts_mirs ts]
theorem wts_mirs : ∀ ts : List Tm, wts (mirs ts) = wts ts
  | [] => by rw [mirs]
  | t :: ts => by rw [mirs, wts, wts, wt_mir t, wts_mirs ts]
end
theorem Fit.mir : ∀ {n : Nat} {t : Tm}, Fit n t → Fit n (mir t) ∧ L2.mir (L2.mir t) = t
  | n, .name x, h => by rw [L2.mir, L2.mir]; exact ⟨h, rfl⟩
  | 0, .node w ts, h => by
    have h2 : ts = [] := h.2
    subst h2
    rw [mir_node, mir_node]
    exact ⟨⟨h.1.mw.1, rfl⟩, by rw [h.1.mw.2]; rfl⟩
  | n + 1, .node w ts, h => by
    have a : ∀ t ∈ ts, Fit n (L2.mir t) ∧ L2.mir (L2.mir t) = t := fun t ht => Fit.mir (h.2 t ht)
    rw [mir_node, mir_node]
    refine ⟨⟨by rw [List.length_map]; exact h.1.mw.1, fun t ht => ?_⟩, ?_⟩
    · obtain ⟨u, hu, rfl⟩ := List.mem_map.mp ht
      exact (a u hu).1
    · rw [h.1.mw.2]
      have e : (ts.map L2.mir).map L2.mir = ts := by
        have go : ∀ us : List Tm, (∀ t ∈ us, L2.mir (L2.mir t) = t) → (us.map L2.mir).map L2.mir = us := by
          intro us
          induction us with
          | nil => intro _; rfl
          | cons u r ih =>
            intro hu
            rw [List.map_cons, List.map_cons, hu u (by simp), ih fun t ht => hu t (by simp [ht])]
        exact go ts fun t ht => (a t ht).2
      rw [e]
theorem cut_tail (x : V) (xs : List V) : cutV (x :: xs) (some 1) none = xs := by
  unfold cutV
  have e : HT.sIx (x :: xs).length 0 (some ((1 : Nat) : Int)) = 1 := by rw [HT.sIx_nat, List.length_cons]; omega
  have e : HT.sIx (x :: xs).length 0 (some 1) = 1 := e
  rw [e, HT.sIx_none, List.drop_one, List.tail_cons, List.take_of_length_le (by rw [List.length_cons]; omega)]
theorem tail_not_whole (x : V) (xs : List V) : ¬ (HT.sIx (x :: xs).length 0 (some 1) = 0 ∧ HT.sIx (x :: xs).length (x :: xs).length none = (x :: xs).length) := by
  have e : HT.sIx (x :: xs).length 0 (some ((1 : Nat) : Int)) = 1 := by rw [HT.sIx_nat, List.length_cons]; omega
  have e : HT.sIx (x :: xs).length 0 (some 1) = 1 := e
  rw [e]
  omega
theorem TAts.snoc {H : Hp} {ts : List Tm} {vs : List V} {i : Nat} {t : Tm} {v : V} (ht : ts[i]? = some t) (h : TAts H (ts.take i) vs) (h1 : TAt H t v) : TAts H (ts.take (i + 1)) (vs ++ [v]) := by
  obtain ⟨hi, e⟩ := List.getElem?_eq_some_iff.mp ht
  rw [List.take_succ_eq_append_getElem hi, e]
  exact TAts.append h (TAts.one h1)
theorem Same.tup {K : PySem.W.Frag} {H H' : Hp} {a : Addr} {xs : List V} (e : Same H H') (h : SqT K H a xs) : SqT K H' a xs := by
  rcases h with (h | ⟨o, h⟩) | h
  · exact .inl (.inl (e _ _ h))
  · exact .inl (.inr ⟨o, e _ _ h⟩)
  · exact .inr h
theorem at0 {α : Type} {x : α} {xs : List α} : atI (x :: xs) 0 = some x := atI_nat (j := 0) (xs := x :: xs) rfl
theorem at1 {α : Type} {x y : α} {xs : List α} : atI (x :: y :: xs) 1 = some y := atI_nat (j := 1) (xs := x :: y :: xs) rfl
def dSay (p : Tm × Tm) : Dt := .tup [toD p.1, toD p.2]
def dRule (r : List (Tm × Tm) × (Tm × Tm)) : Dt := .tup [.lst (r.1.map dSay), dSay r.2]
abbrev SAt (H : Hp) (p : Tm × Tm) (v : V) : Prop := DAt H (dSay p) v
abbrev SAts (H : Hp) (ps : List (Tm × Tm)) (vs : List V) : Prop := DAts H (ps.map dSay) vs
abbrev RAt (H : Hp) (r : List (Tm × Tm) × (Tm × Tm)) (v : V) : Prop := DAt H (dRule r) v
theorem SAt.out {H : Hp} {p : Tm × Tm} {v : V} (h : SAt H p v) : ∃ a v1 v2, v = .ref a ∧ H a = some (.tup [v1, v2]) ∧ TAt H p.1 v1 ∧ TAt H p.2 v2 := by
  obtain ⟨a, vs, e1, e2, u, r, e3, h1, u2, r2, e4, h2, e5⟩ := h
  have e5 : r2 = [] := e5
  subst e5; subst e4; subst e3
  exact ⟨a, u, u2, e1, e2, h1, h2⟩
theorem RAt.out {H : Hp} {r : List (Tm × Tm) × (Tm × Tm)} {v : V} (h : RAt H r v) : ∃ a l s vs, v = .ref a ∧ H a = some (.tup [.ref l, s]) ∧ H l = some (.lst vs) ∧ SAts H r.1 vs ∧ SAt H r.2 s := by
  obtain ⟨a, vs, e1, e2, u, q, e3, ⟨l, ws, e6, e7, h1⟩, u2, r2, e4, h2, e5⟩ := h
  have e5 : r2 = [] := e5
  subst e5; subst e4; subst e3; subst e6
  exact ⟨a, l, u2, ws, e1, e2, e7, h1, h2⟩
theorem SAts.length {H : Hp} {ps : List (Tm × Tm)} {vs : List V} (h : SAts H ps vs) : vs.length = ps.length := by
  have := DAts.length h
  rw [List.length_map] at this
  exact this
theorem SAts.snoc {H : Hp} {ps : List (Tm × Tm)} {vs : List V} {i : Nat} {p : Tm × Tm} {v : V} (ht : ps[i]? = some p) (h : SAts H (ps.take i) vs) (h1 : SAt H p v) : SAts H (ps.take (i + 1)) (vs ++ [v]) := by
  obtain ⟨hi, e⟩ := List.getElem?_eq_some_iff.mp ht
  unfold SAts
  rw [List.take_succ_eq_append_getElem hi, e, List.map_append]
  exact DAts.append h (DAts.one h1)
def FitS (n m : Nat) (p : Tm × Tm) : Prop := (Fit n p.1 ∧ wt p.1 ≤ m) ∧ Fit n p.2 ∧ wt p.2 ≤ m
theorem DFit.up : ∀ {n : Nat} {d : Dt}, DFit n d → DFit (n + 1) d
  | n, .non, _ => by cases n <;> trivial
  | n, .bl _, _ => by cases n <;> trivial
  | n, .int _, _ => by cases n <;> trivial
  | n, .str _, _ => by cases n <;> trivial
  | 0, .tup _, h => h.elim
  | 0, .lst _, h => h.elim
  | n + 1, .tup ds, h => ⟨h.1, fun d hd => DFit.up (h.2 d hd)⟩
  | n + 1, .lst ds, h => ⟨h.1, fun d hd => DFit.up (h.2 d hd)⟩
def mirP (p : Tm × Tm) : Tm × Tm := (mir p.2, mir p.1)
theorem FitS.mir {n m : Nat} {p : Tm × Tm} (h : FitS n m p) : FitS n m (mirP p) := by
  refine ⟨⟨h.2.1.mir.1, ?_⟩, h.1.1.mir.1, ?_⟩
  · show wt (L2.mir p.2) ≤ m
    rw [wt_mir]
    exact h.2.2
  · show wt (L2.mir p.1) ≤ m
    rw [wt_mir]
    exact h.1.2
def cutI (ns : List Int) (lo hi : Option Int) : List Int := (ns.drop (HT.sIx ns.length 0 lo)).take (HT.sIx ns.length ns.length hi - HT.sIx ns.length 0 lo)
theorem cut_ints (ns : List Int) (lo hi : Option Int) : cutV (ns.map V.int) lo hi = (cutI ns lo hi).map V.int := by
  unfold cutV cutI
  rw [List.length_map, List.map_take, List.map_drop]
theorem cutI_len (ns : List Int) (lo hi : Option Int) : (cutI ns lo hi).length ≤ ns.length := by
  unfold cutI
  rw [List.length_take, List.length_drop]
  omega
theorem DFit.mono {n m : Nat} {d : Dt} (h : DFit n d) (hm : n ≤ m) : DFit m d := by
  obtain ⟨k, rfl⟩ := Nat.le.dest hm
  induction k with
  | zero => exact h
  | succ k ih => exact DFit.up (ih (by omega))
theorem FitS.mono {n m n' m' : Nat} {p : Tm × Tm} (h : FitS n m p) (h1 : n ≤ n') (h2 : m ≤ m') : FitS n' m' p := ⟨⟨h.1.1.mono h1, Nat.le_trans h.1.2 h2⟩, h.2.1.mono h1, Nat.le_trans h.2.2 h2⟩
end L2
set_option Elab.async false
set_option linter.all false
set_option maxRecDepth 100000
namespace L2
open PySem PySem.Spec PyProof.Rows
section
variable {X : Cx} (K : PySem.W.Frag)
theorem ix_listK (h : X.K = K := by rfl) : IxR X (rIxL K) := by subst h; exact ix_list
theorem ix_tupK (h : X.K = K := by rfl) : IxR X (rIxT K) := by subst h; exact ix_tup
theorem sl_listK (h : X.K = K := by rfl) : SlR X (rSlL K) := by subst h; exact sl_list
theorem call_list_ofK (h : X.K = K := by rfl) : CallR X (.type "list") (fun xs H Q => ∃ p ys, xs = [.ref p] ∧ (SqL K H p ys ∨ SqT K H p ys) ∧ ∀ l, H l = none → Q (.ref l) (upd H l (.lst ys))) := by subst h; exact call_list_of
end
end L2
set_option maxRecDepth 100000
namespace L2
open PySem
abbrev Cs := List Nat
def glue (j : Cs) : List Cs → Cs
  | [] => []
  | [s] => s
  | s :: r :: q => s ++ j ++ glue j (r :: q)
def jAnd : Cs := [32, 38, 32]
def jOr : Cs := [32, 124, 32]
def jOf (w : Str) : Cs := if w = "both" then jAnd else jOr
def wrN (w : Str) (ss : List Cs) : Cs := if w = "not" then 33 :: ss.headD [] else if ss = [] then w.cps.toList else 40 :: (glue (jOf w) ss ++ [41])
mutual
def wr : Tm → Cs
  | .name x => x.cps.toList
  | .node w ts => wrN w (wrs ts)
def wrs : List Tm → List Cs
  | [] => []
  | t :: ts => wr t :: wrs ts
end
def isL (c : Nat) : Bool := decide (97 ≤ c) && decide (c ≤ 122)
theorem isL_iff {c : Nat} : isL c = true ↔ 97 ≤ c ∧ c ≤ 122 := by
  unfold isL
  simp
def tailOf (j : Cs) : List Cs → Cs
  | [] => []
  | s :: r => j ++ s ++ tailOf j r
theorem glue_tail (j : Cs) : ∀ (s : Cs) (r : List Cs), glue j (s :: r) = s ++ tailOf j r
  | s, [] => by simp [glue, tailOf]
  | s, a :: r => by
    rw [glue, glue_tail j a r, tailOf]
    simp
end L2
set_option maxRecDepth 100000
namespace L2
open PySem
def toS (s : Cs) : Str := ⟨s.toArray⟩
theorem glued_fold (j : Cs) : ∀ (r : List Cs) (acc : Cs), ((r.map toS).foldl (fun acc p => acc ++ (toS j).cps ++ p.cps) acc.toArray) = (acc ++ tailOf j r).toArray
  | [], acc => by simp [tailOf]
  | s :: r, acc => by
    rw [List.map_cons, List.foldl_cons]
    have e : acc.toArray ++ (toS j).cps ++ (toS s).cps = (acc ++ j ++ s).toArray := by simp [toS]
    rw [e, glued_fold j r, tailOf]
    simp
theorem glued_toS (j : Cs) (ss : List Cs) : Builtin.Str.glued (toS j) (ss.map toS) = toS (glue j ss) := by
  cases ss with
  | nil => rfl
  | cons s r =>
    show (⟨(r.map toS).foldl (fun acc p => acc ++ (toS j).cps ++ p.cps) (toS s).cps⟩ : Str) = _
    rw [glue_tail, show (toS s).cps = s.toArray from rfl, glued_fold]
    rfl
mutual
def lvs : Tm → Nat
  | .name _ => 1
  | .node _ ts => if ts.isEmpty then 1 else lvss ts
def lvss : List Tm → Nat
  | [] => 0
  | t :: ts => lvs t + lvss ts
end
end L2
set_option maxRecDepth 100000
namespace L2
open PySem PySem.Builtin PySem.Builtin.Str PySem.StrLaws
structure Mark (y : Cs) (k m : Nat) : Prop where
  at_ : y[k]? = some m
  once : ∀ j, y[j]? = some m → j = k
end L2
set_option Elab.async false
set_option linter.all false
set_option maxRecDepth 100000
namespace L2
open PySem PySem.Spec PyProof.Rows PySem.Builtin PySem.Builtin.Str
section
variable {X : Cx}
end
structure HasM (P : Program) (w : World) (K : PySem.W.Frag) (mg : Str → Option Value) (base : Heap) (k : Nat) (C : Addr) (m : Str) (ps : List Str) (sp : Sp) : Prop where
  ex : ∃ f fd, FnOk P w K mg base CX0 k f fd ps sp ∧ Binds K fd ps [] ∧ Meth K C m f
structure HasI (P : Program) (w : World) (K : PySem.W.Frag) (mg : Str → Option Value) (base : Heap) (k : Nat) (C : Addr) (x : Str) (ps : List Str) (sp : Sp) : Prop where
  ex : ∃ f fd, FnOk P w K mg base CX0 k f fd ps sp ∧ Binds K fd ps [] ∧ Mk K C f ∧ mg x = some (.ref C)
section
variable {X : Cx} {k : Nat} {C : Addr} {x m : Str} {ps : List Str} {sp : Sp} {p pos apos : Pos} {e o : Expr} {es : List Expr} {ta : TE} {t : TA}
theorem pe_methH {pl : Sem Bool} (h : HasM X.prog X.w X.K X.mg X.base k C m ps sp) (c : Cls X.K C) (hr : Room k X.A) (he : PE X o ta) (ha : PA X (e :: es) t)
    (hst : starEach (e :: es) X.env = (false, eval e X.env) :: starEach es X.env := by rfl) (hpl : (backTo pos (starEach es X.env)).any (·.1) = false := by rfl)
    (ht : eval (.Call (.Attribute o m apos) (e :: es) [] pos) X.env = (do
      let ov ← eval o X.env
      standAt apos.atName
      let (f, first) ← holding [ov] (getMethod ov m pl)
      callWith pos f first (backTo pos (starEach (e :: es) X.env)) (backToKw pos (keywordEach [] X.env))) := by rfl) :
    PE X (.Call (.Attribute o m apos) (e :: es) [] pos) (tMeth C m sp [] E0 ta t) := by
  obtain ⟨f, fd, F, b, mm⟩ := h.ex
  exact pe_meth (pl := pl) he c mm F hr b .nil pass0 ha hst hpl ht
theorem pe_makeH (h : HasI X.prog X.w X.K X.mg X.base k C x ps sp) (hr : Room (k + 1) X.A) (hg : Gl X x) (ha : PA X (e :: es) t) (hdb : (x == ("__debug__" : Str)) = false := by decide)
    (he : starEach (e :: es) X.env = (false, eval e X.env) :: starEach es X.env := by rfl) (hpl : (backTo pos (starEach es X.env)).any (·.1) = false := by rfl) :
    PE X (.Call (.Name x p) (e :: es) [] pos) (tMake C sp [] E0 t) := by
  obtain ⟨f, fd, F, b, M, m⟩ := h.ex
  exact pe_make M F hr hg m b .nil pass0 ha hdb he hpl
end
def rdF (x : Cs) (k : Nat) : List (Str × V) := [("text", .str (toS x)), ("at", .int k)]
def RdAt (C : Addr) (H : Hp) (r : Addr) (x : Cs) (k : Nat) : Prop := ∃ dx, H r = some (.ins C dx (rdF x k))
def SameX (r : Addr) (H H' : Hp) : Prop := ∀ b o, H b = some o → b ≠ r → H' b = some o
theorem SameX.refl (r : Addr) (H : Hp) : SameX r H H := fun _ _ h _ => h
theorem SameX.trans {r : Addr} {H H1 H2 : Hp} (a : SameX r H H1) (b : SameX r H1 H2) : SameX r H H2 := fun c o h n => b c o (a c o h n) n
theorem Same.x {r : Addr} {H H' : Hp} (a : Same H H') : SameX r H H' := fun c o h _ => a c o h
theorem SameX.upd {r : Addr} {H H1 : Hp} {o : HO} (a : SameX r H H1) : SameX r H (L2.upd H1 r o) := fun c o' h n => by
  rw [upd_ne n]
  exact a c o' h n
theorem SameX.tups {r : Addr} {H H' : Hp} {C : Addr} {x : Cs} {k : Nat} (a : SameX r H H') (h : RdAt C H r x k) : TupSame H H' := fun b xs e => by
  obtain ⟨dx, h⟩ := h
  exact a b _ e (ne_of e h (by intro z; cases z))
theorem RdAt.same {C : Addr} {H H' : Hp} {r : Addr} {x : Cs} {k : Nat} (h : RdAt C H r x k) (e : Same H H') : RdAt C H' r x k := by
  obtain ⟨dx, h⟩ := h
  exact ⟨dx, e _ _ h⟩
theorem SameX.new {r p : Addr} {H H1 : Hp} {o : HO} (a : SameX r H H1) (h : H p = none) : SameX r H (L2.upd H1 p o) := fun c o' hc n => by
  rw [upd_ne (ne_of_none hc h)]
  exact a c o' hc n
end L2
set_option Elab.async false
set_option linter.all false
set_option maxRecDepth 100000
namespace L2
open PySem PySem.Spec PyProof.Rows
section
variable {prog : Program} {w : World} {A : Around} {E : Value → Shared → Prop} {s : Shared} {a : Addr} {its : Array Value} {n : Nat} {sl : Array (Option Value)}
end
section
variable {prog : Program} {w : World} {A : Around} {E : Value → Shared → Prop} {h : Heap} {g : Array GenState} {d : Drawn} {t : Nat} {os : OsState} {a : Addr} {its : Array Value} {n : Nat} {sl : Array (Option Value)}
end
section
variable {prog : Program} {w : World} {Kt : Type} [DecidableEq Kt] {knd : KeyKind prog w Kt} {A : Around} {E : Value → Shared → Prop} {s : Shared}
end
end L2
set_option Elab.async false
set_option linter.all false
set_option maxRecDepth 100000
namespace L2
open PySem PySem.Spec PyProof.Rows
section
variable {X : Cx}
end
end L2
set_option Elab.async false
set_option linter.all false
set_option maxRecDepth 100000
namespace L2
open PySem PySem.Spec PyProof.Rows PySem.W
section
variable {prog : Program} {w : World} {A : Around} {E : Value → Shared → Prop} {s : Shared} {T : String} {r d : Addr} {n : Nat} {P : Nat → Value → Prop} {OK : Heap → Prop}
end
section
variable {X : Cx}
end
end L2
set_option Elab.async false
set_option linter.all false
set_option maxRecDepth 100000
namespace L2
open PySem PySem.Spec PyProof.Rows
section
variable {X : Cx}
end
end L2
set_option Elab.async false
set_option linter.all false
set_option maxRecDepth 100000
namespace L2
open PySem PyProof.Rows
def txv : Value → Option Str
  | .str z _ => some z
  | _ => none
def txs (l : List (Int × Value)) : List Str := l.filterMap fun e => txv e.2
def byTx (w : World) : Bool := w.params.followText "set-order"
section
variable {prog : Program} {w : World} {A : Around} {E : Value → Shared → Prop} {s : Shared}
def TxSet (prog : Program) (w : World) (h : Heap) (a : Addr) (zs : List Str) : Prop :=
  ∃ o es ep t, h.get? a = some o ∧ o.ExactSet ∧ o.data = .set es ep t ∧ ElemsOf (strKind prog w) es.toList ∧ zs = txs es.toList ∧ zs.Nodup ∧ es.size < scanBound ∧ t.fits es.size = true ∧
    (byTx w = true ∨ t.led = true ∧ (es.size = 0 ∨ t.plain = false))
theorem lay_led (t : SetTable) (es : Array (Int × Value)) (h : Int) (x : Value) : (layNew t es h x).2.1.led = t.led := by
  unfold layNew
  split
  · dsimp only
    unfold SetTable.orStandIn
    split <;> rfl
  · rfl
theorem relaid_flags {t t' : SetTable} {hs : Array Int} {n : Nat} {o : Array Nat} (h : t.relaid hs n = some (t', o)) : t'.led = t.led ∧ t'.plain = t.plain := by
  unfold SetTable.relaid SetTable.laid at h
  cases hc : SetTable.layClean (SetTable.sizeAbove n - 1) hs with
  | none => rw [hc] at h; cases h
  | some ow =>
    rw [hc] at h
    have h := Option.some.inj h
    have e := congrArg Prod.fst h
    dsimp only at e
    rw [← e]
    exact ⟨rfl, rfl⟩
theorem relay_led (t : SetTable) (es : Array (Int × Value)) (n : Nat) : (relayAll t es n).2.1.led = t.led := by
  unfold relayAll
  split
  · rename_i t' o hr
    dsimp only
    split
    · exact (relaid_flags hr).1
    · rfl
  · rfl
theorem TxSet.kept {h h' : Heap} {a : Addr} {zs : List Str} (hS : TxSet prog w h a zs) (k : ∀ o, h.get? a = some o → h'.get? a = some o) : TxSet prog w h' a zs := by
  obtain ⟨o, es, ep, t, ho, r⟩ := hS
  exact ⟨o, es, ep, t, k _ ho, r⟩
end
end L2
set_option Elab.async false
set_option linter.all false
set_option maxRecDepth 100000
namespace L2
open PySem PyProof.Rows
theorem slot_setit : Slot "set_iterator" "__next__" "set_iterator.__next__" :=
  .of (owner := "set_iterator") (n := "__next__") (by rw [typeLookup_type, builtinLookup_eq_fast]; kernel_rfl) (by decide +kernel) (by decide +kernel) (by decide +kernel)
    (by first | exact .inl (by decide +kernel) | exact .inr (by decide +kernel)) (by rw [isSubtype_type]; kernel_rfl)
theorem slot_setit2 : Slot "set_iterator" "__iter__" "set_iterator.__iter__" :=
  .of (owner := "set_iterator") (n := "__iter__") (by rw [typeLookup_type, builtinLookup_eq_fast]; kernel_rfl) (by decide +kernel) (by decide +kernel) (by decide +kernel)
    (by first | exact .inl (by decide +kernel) | exact .inr (by decide +kernel)) (by rw [isSubtype_type]; kernel_rfl)
theorem entry_setit : entryFor table "set_iterator.__next__" = some Builtin.«set_iterator.__next__» := entryFor_of_tree (by kernel_rfl)
theorem entry_setit2 : entryFor table "set_iterator.__iter__" = some Builtin.«dict_keyiterator.__iter__» :=
  entryFor_alias (id' := "dict_keyiterator.__iter__") (by kernel_rfl) rfl (by decide +kernel) (by kernel_rfl)
theorem entry_setiter : entryFor table "set.__iter__" = some Builtin.«frozenset.__iter__» :=
  entryFor_alias (id' := "frozenset.__iter__") (by kernel_rfl) rfl (by decide +kernel) (by kernel_rfl)
theorem owner_setit : Manifest.owners.lookup (String.ofList ['r', 'o', 't', 'a', 'r', 'e', 't', 'i', '_', 't', 'e', 's'].reverse) = some Manifest.sig_set_iterator := by kernel_rfl
theorem args_setit (a : Value) : argsOk "set_iterator.__next__" ⟨[a], []⟩ := by
  unfold argsOk; rw [signature?_of (id := "set_iterator.__next__") (n := ['_', '_', 't', 'x', 'e', 'n', '_', '_']) (o := ['r', 'o', 't', 'a', 'r', 'e', 't', 'i', '_', 't', 'e', 's']) (by kernel_rfl) owner_setit]; kernel_rfl
theorem args_setit2 (a : Value) : argsOk "set_iterator.__iter__" ⟨[a], []⟩ := by
  unfold argsOk; rw [signature?_of (id := "set_iterator.__iter__") (n := ['_', '_', 'r', 'e', 't', 'i', '_', '_']) (o := ['r', 'o', 't', 'a', 'r', 'e', 't', 'i', '_', 't', 'e', 's']) (by kernel_rfl) owner_setit]; kernel_rfl
theorem erase_perm {α : Type} : ∀ (l : List α) (i : Nat) (h : i < l.length), (l[i] :: l.eraseIdx i).Perm l
  | [], i, h => by simp at h
  | x :: l, 0, h => List.Perm.refl _
  | x :: l, i + 1, h => by
    have := erase_perm l i (by simpa using h)
    simp only [List.getElem_cons_succ, List.eraseIdx_cons_succ]
    exact (List.Perm.swap _ _ _).trans (List.Perm.cons _ this)
theorem pick_perm {α : Type} (f : Nat → Nat) (xs : Array α) : (pickOrder f xs).toList.Perm xs.toList := by
  have key : ∀ (n k : Nat) (left : List α) (out : Array α), left.length = n → (pickOrder.go f n k left out).toList.Perm (out.toList ++ left) := by
    intro n
    induction n with
    | zero =>
      intro k left out hl
      have : left = [] := List.length_eq_zero_iff.mp hl
      subst this
      unfold pickOrder.go
      simp
    | succ n ih =>
      intro k left out hl
      unfold pickOrder.go
      have hlt : f k % left.length < left.length := Nat.mod_lt _ (by omega)
      rw [List.getElem?_eq_getElem hlt]
      dsimp only
      refine (ih (k + 1) _ _ (by rw [List.length_eraseIdx_of_lt hlt]; omega)).trans ?_
      rw [Array.toList_push, List.append_assoc]
      refine List.Perm.append_left _ ?_
      exact erase_perm _ _ hlt
  unfold pickOrder
  have := key xs.size 0 xs.toList #[] (by simp)
  simpa using this
section
variable {prog : Program} {w : World} {A : Around} {E : Value → Shared → Prop} {s : Shared}
theorem wp_choose {M : Model} {src : Source} {n : Nat} {Q : Nat → Shared → Prop} (hn : n ≠ 0) (h : ∀ i d, i < n → Q i { s with drawn := d }) : wpAny M A (choose src n) Q E s :=
  fun Γ p _ => ⟨hn, h _ _ (Nat.mod_lt _ (Nat.pos_of_ne_zero hn))⟩
theorem draw_perm {M : Model} {α : Type} : ∀ (n : Nat) (xs : List α) {Q : List α → Shared → Prop} {s : Shared}, xs.length = n → (∀ ys d, ys.Perm xs → Q ys { s with drawn := d }) → wpAny M A (drawOrder n xs) Q E s
  | 0, xs, Q, s, hl, h => by
    have : xs = [] := List.length_eq_zero_iff.mp hl
    subst this
    unfold drawOrder
    have := h [] s.drawn (List.Perm.refl _)
    cases s
    exact wpAny_pure this
  | n + 1, [], Q, s, hl, h => by simp at hl
  | n + 1, x :: xs, Q, s, hl, h => by
    unfold drawOrder
    refine wpAny_bind (wp_choose (by simp) fun i d hi => ?_)
    rw [List.getElem?_eq_getElem hi]
    dsimp only
    refine wpAny_bind (draw_perm n _ (by rw [List.length_eraseIdx_of_lt hi]; simp at hl ⊢; omega) fun ys d2 hp => ?_)
    refine wpAny_pure (h _ d2 ?_)
    exact (List.Perm.cons _ hp).trans (erase_perm _ _ hi)
def SetIt (h : Heap) (I a : Addr) (fst : Value) (i n ep : Nat) : Prop := h.get? I = some { cls := .type "set_iterator", data := .fields #[fst, .int i 0, .ref a, .int n 0, .int ep 0] }
theorem fits_size {t : SetTable} {n : Nat} (h : t.fits n = true) : t.place.size = n := by
  simp only [SetTable.fits, Bool.and_eq_true, beq_iff_eq] at h
  exact h.1
theorem wp_setDrawn {a : Addr} {o : Obj} {es : Array (Int × Value)} {ep : Nat} {t : SetTable} {Q : Bool → Shared → Prop} (ho : s.heap.get? a = some o) (hd : o.data = .set es ep t) (hf : t.fits es.size = true)
    (h : Q (!byTx w && (!t.plain && decide (es.size > 1))) s) : wpAny (model prog w) A (setDrawn a) Q E s := by
  unfold setDrawn
  refine wpAny_bind (wpAny_setState_of ho hd hf ?_)
  dsimp only
  unfold setsByText
  refine wpAny_bind (wpAny_bind (wpAny_askSetting (wpAny_pure ?_)))
  exact wpAny_pure h
theorem wp_sizeOf {a : Addr} {o : Obj} {es : Array (Int × Value)} {ep : Nat} {t : SetTable} {Q : Nat → Shared → Prop} (ho : s.heap.get? a = some o) (hd : o.data = .set es ep t) (hf : t.fits es.size = true)
    (h : Q es.size s) : wpAny (model prog w) A (Builtin.Frozenset.sizeOf a) Q E s := by
  unfold Builtin.Frozenset.sizeOf setEntries
  refine wpAny_bind (wpAny_bind (wpAny_setState_of ho hd hf (wpAny_pure ?_)))
  exact wpAny_pure h
end
end L2
set_option Elab.async false
set_option linter.all false
set_option maxRecDepth 100000
namespace L2
open PySem PyProof.Rows
section
variable {prog : Program} {w : World} {A : Around} {E : Value → Shared → Prop} {s : Shared}
theorem next_by {a : Addr} {o : Obj} {es : Array (Int × Value)} {ep slot g : Nat} {t : SetTable} {Q : Option (Value × Nat) → Shared → Prop} (ho : s.heap.get? a = some o) (hd : o.data = .set es ep t) (hf : t.fits es.size = true) (hB : byTx w = true)
    (h : Q (((pickOrder (w.params.setOrder a ep) es)[g]?).map fun e => (e.2, slot)) s) : wpAny (model prog w) A (setNext a slot g ep) Q E s := by
  have hB' : w.params.followText "set-order" = true := hB
  unfold setNext
  refine wpAny_bind (wpAny_setState_of ho hd hf ?_)
  dsimp only
  unfold setsByText
  refine wpAny_bind (wpAny_bind (wpAny_askSetting (wpAny_pure ?_)))
  show wpAny _ _ (if w.params.followText "set-order" = true then _ else _) _ _ _
  rw [if_pos hB', if_neg (by simp)]
  unfold setWalk
  refine wpAny_bind (wpAny_bind (wpAny_setState_of ho hd hf ?_))
  dsimp only
  unfold setsByText
  refine wpAny_bind (wpAny_bind (wpAny_askSetting (wpAny_pure ?_)))
  show wpAny _ _ (if w.params.followText "set-order" = true then _ else _) _ _ _
  rw [if_pos hB']
  refine wpAny_bind (wpAny_askSetting (wpAny_pure ?_))
  exact wpAny_pure h
end
end L2
set_option Elab.async false
set_option linter.all false
set_option maxRecDepth 100000
namespace L2
open PySem PyProof.Rows
section
variable {prog : Program} {w : World} {A : Around} {R : Result → Shared → Prop} {I : Addr} {fp wr : List Addr} {G : Array GenState → Array GenState → Prop} {n : Nat} {P : Nat → Value → Prop} {St : Nat → Shared → Prop}
end
section
variable {prog : Program} {w : World} {A : Around} {E : Value → Shared → Prop} {s : Shared}
theorem tx_new (a : Value) {Q₁ : Value → Shared → Prop}
    (h : ∀ led : Bool, (byTx w = true ∨ led = true) → Q₁ (.ref s.heap.objs.size) { s with heap := s.heap.push { cls := .type "set", dict := none, data := .set #[] 0 (.fresh 0 0 led) } }) :
    codeAny (model prog w) A (.call (.builtin "set.__new__") ⟨[.type "set", a], []⟩) (wants Q₁ E) s := by
  refine codeAny_of_tree ?_
  show wpAny _ A.in1 (do checkBuiltinCall "set.__new__" ⟨[.type "set", a], []⟩; again (.builtin "set.__new__" ⟨[.type "set", a], []⟩)) _ _ s
  refine wpAny_bind (wpAny_of_eq (PySem.F.newCall_set_1 a) (wpAny_pure ⟨plainId_quiet PySem.F.plain_set_new _, codeAny_builtin PySem.F.entry_set_new ?_⟩))
  rw [Around.under_plainId PySem.F.plain_set_new _]
  unfold Builtin.«set.__new__» Builtin.Frozenset.newClass
  have hsub := sub_set_self
  obtain ⟨hp, g, d, tk, os⟩ := s
  dsimp only
  wp_walk
  refine wpAny_askSetting (wpAny_pure ?_)
  dsimp only
  simp only [newObj]
  refine wpAny_bind (wpAny_alloc (wpAny_pure ?_))
  refine wpAny_pure (h _ ?_)
  show w.params.followText "set-order" = true ∨ (!w.params.followText "set-order") = true
  cases w.params.followText "set-order"
  · exact .inr rfl
  · exact .inl rfl
end
end L2
set_option Elab.async false
set_option linter.all false
set_option maxRecDepth 100000
namespace L2
open PySem PyProof.Rows
section
variable {prog : Program} {w : World} {A : Around} {E : Value → Shared → Prop} {s : Shared}
theorem hint_tx {r : Addr} {Q : Bool → Shared → Prop} (hT : s.TypeIs (.ref r) "set") (h : Q false s) : wpAny (model prog w) A (Builtin.List.listLengthHint (.ref r)) Q E s := by
  unfold Builtin.List.listLengthHint
  refine wpAny_bind (wpAny_specialOf hT PySem.F.slot_set_len.lookup ?_)
  generalize hid : ("set.__len__" : String) = id0
  wp_delta
  rw [show splitId id0 = some ("set", "__len__") from by subst hid; decide +kernel]
  subst hid
  refine wpAny_bind (wpAny_isInstance (T := "set") (b := true) hT (by rw [isSubtype_type]; kernel_rfl) ?_)
  refine wpAny_ite_split (fun hab => absurd hab (by decide)) (fun _ => ?_)
  refine wpAny_ite_split (fun _ => ?_) (fun hab => absurd (by decide +kernel) hab)
  refine wpAny_bind (wpAny_typeOf hT ?_)
  exact wpAny_pure h
end
end L2
set_option Elab.async false
set_option linter.all false
set_option maxRecDepth 100000
namespace L2
open PySem PySem.Spec PyProof.Rows PySem.SeqAt
mutual
def deq : Dt → Dt → Bool
  | .non, .non => true
  | .bl a, .bl b => a == b
  | .int a, .int b => a == b
  | .bl a, .int b => (if a then 1 else 0) == b
  | .int a, .bl b => a == (if b then 1 else 0)
  | .str a, .str b => a == b
  | .tup xs, .tup ys => deqs xs ys
  | .lst xs, .lst ys => deqs xs ys
  | _, _ => false
def deqs : List Dt → List Dt → Bool
  | [], [] => true
  | x :: xs, y :: ys => deq x y && deqs xs ys
  | _, _ => false
end
mutual
theorem deq_refl : ∀ d : Dt, deq d d = true
  | .non => rfl
  | .bl a => by simp [deq]
  | .int a => by simp [deq]
  | .str a => by simp [deq]
  | .tup ds => by rw [deq]; exact deqs_refl ds
  | .lst ds => by rw [deq]; exact deqs_refl ds
theorem deqs_refl : ∀ ds : List Dt, deqs ds ds = true
  | [] => rfl
  | d :: ds => by rw [deqs, deq_refl d, deqs_refl ds]; rfl
end
def eat (xs ys : List Dt) (j : Nat) : Bool :=
  match xs[j]?, ys[j]? with
  | some x, some y => deq x y
  | _, _ => false
theorem deqs_all : ∀ xs ys : List Dt, ((List.range (min xs.length ys.length)).all (eat xs ys) && xs.length == ys.length) = deqs xs ys
  | [], [] => rfl
  | [], y :: ys => by simp [deqs]
  | x :: xs, [] => by simp [deqs]
  | x :: xs, y :: ys => by
    rw [deqs, ← deqs_all xs ys, List.length_cons, List.length_cons, Nat.succ_min_succ, List.range_succ_eq_map, List.all_cons, List.all_map]
    have e1 : eat (x :: xs) (y :: ys) 0 = deq x y := rfl
    have e2 : eat (x :: xs) (y :: ys) ∘ Nat.succ = eat xs ys := by funext j; simp [eat]
    rw [e1, e2, Bool.and_assoc]
    congr 2
    rw [Bool.eq_iff_iff]
    simp
mutual
theorem DAt.one_of {H : Hp} : ∀ {d d' : Dt} {v : V}, DAt H d v → DAt H d' v → d = d'
  | d, .non, v, h, h' => by have h' : v = .non := h'; subst h'; cases d <;> simp_all [DAt]
  | d, .bl b, v, h, h' => by have h' : v = .bl b := h'; subst h'; cases d <;> simp_all [DAt]
  | d, .int b, v, h, h' => by have h' : v = .int b := h'; subst h'; cases d <;> simp_all [DAt]
  | d, .str b, v, h, h' => by have h' : v = .str b := h'; subst h'; cases d <;> simp_all [DAt]
  | d, .tup ds', v, h, h' => by
    obtain ⟨a, vs, rfl, e2, e3⟩ := h'
    cases d with
    | tup ds =>
      obtain ⟨a', vs', e1', e2', e3'⟩ := h
      cases e1'
      rw [e2] at e2'
      cases e2'
      rw [DAts.one_of e3' e3]
    | lst ds =>
      obtain ⟨a', vs', e1', e2', e3'⟩ := h
      cases e1'
      rw [e2] at e2'
      cases e2'
    | _ => cases h
  | d, .lst ds', v, h, h' => by
    obtain ⟨a, vs, rfl, e2, e3⟩ := h'
    cases d with
    | lst ds =>
      obtain ⟨a', vs', e1', e2', e3'⟩ := h
      cases e1'
      rw [e2] at e2'
      cases e2'
      rw [DAts.one_of e3' e3]
    | tup ds =>
      obtain ⟨a', vs', e1', e2', e3'⟩ := h
      cases e1'
      rw [e2] at e2'
      cases e2'
    | _ => cases h
theorem DAts.one_of {H : Hp} : ∀ {ds ds' : List Dt} {vs : List V}, DAts H ds vs → DAts H ds' vs → ds = ds'
  | ds, [], vs, h, h' => by
    have h' : vs = [] := h'
    subst h'
    cases ds with
    | nil => rfl
    | cons d ds => obtain ⟨v, r, e, _⟩ := h; cases e
  | ds, d' :: ds', vs, h, h' => by
    obtain ⟨v, r, rfl, e2, e3⟩ := h'
    cases ds with
    | nil => cases h
    | cons d ds =>
      obtain ⟨v', r', e, e2', e3'⟩ := h
      cases e
      rw [DAt.one_of e2' e2, DAts.one_of e3' e3]
end
section
variable {P : Program} {w : World} {H : Hp} {s : Shared}
theorem DAts.tup_of (ok : HOk P w H s.heap) {a : Addr} {vs : List V} (h : H a = some (.tup vs)) : ∃ its : List Value, Vals vs its ∧ s.heap.IsTuple a its.toArray := by
  obtain ⟨z, its, r, p⟩ := ok a _ h
  exact ⟨its, r, p⟩
theorem DAts.lst_of (ok : HOk P w H s.heap) {a : Addr} {vs : List V} (h : H a = some (.lst vs)) : ∃ its : List Value, Vals vs its ∧ s.heap.IsList a its.toArray := by
  obtain ⟨z, its, n, r, p⟩ := ok a _ h
  exact ⟨its, r, _, p, rfl, n, rfl⟩
theorem vals_at : ∀ {xs : List V} {us : List Value} {i : Nat} {x : V} {u : Value}, Vals xs us → xs[i]? = some x → us[i]? = some u → RelV x u
  | _, _, _, _, _, .nil, h, _ => by simp at h
  | _, _, 0, _, _, .cons r q, h, h' => by
    simp at h h'
    subst h
    subst h'
    exact r
  | _, _, i + 1, _, _, .cons r q, h, h' => vals_at q (by simpa using h) (by simpa using h')
theorem rc_lists (ok : HOk P w H s.heap) {n : Nat} {A : Around} (ih : ∀ {A : Around} {d d' : Dt} {v v' : V} {u u' : Value}, DAt H d v → DAt H d' v' → RelV v u → RelV v' u' → DFit n d → A.units + n < cLine → EqAt A s u u' (deq d d'))
    {l l' : Addr} {ds ds' : List Dt} {vs vs' : List V} {its its' : List Value} (hs : DAts H ds vs) (hs' : DAts H ds' vs') (rv : Vals vs its) (rv' : Vals vs' its') (hl : s.heap.IsList l its.toArray) (hl' : s.heap.IsList l' its'.toArray)
    (f : ∀ d ∈ ds, DFit n d) (hu : A.units + (n + 1) < cLine) : RcAt A s (.ref l) (.ref l') (deqs ds ds') := by
  have k1 := hs.length
  have k2 := hs'.length
  have k3 := rv.length
  have k4 := rv'.length
  by_cases hz : ds.length = ds'.length
  · have key := RcAt.lists (A := A) (e := eat ds ds') hl hl' (by rw [List.size_toArray, List.size_toArray]; omega) (by omega) fun j h1 h2 => ?_
    · rw [← deqs_all, hz, Nat.min_self, beq_self_eq_true, Bool.and_true]
      rw [List.size_toArray] at key
      rw [show ds'.length = its.length by omega]
      exact key
    · rw [List.size_toArray] at h1 h2
      have hj : j < ds.length := by omega
      have hj' : j < ds'.length := by omega
      obtain ⟨x, x1, x2⟩ := hs.get (List.getElem?_eq_getElem hj)
      obtain ⟨y, y1, y2⟩ := hs'.get (List.getElem?_eq_getElem hj')
      have e1 : eat ds ds' j = deq ds[j] ds'[j] := by unfold eat; rw [List.getElem?_eq_getElem hj, List.getElem?_eq_getElem hj']
      rw [e1]
      refine ih x2 y2 ?_ ?_ (f _ (List.getElem_mem hj)) (by show A.units + 1 + n < cLine; omega)
      · exact vals_at rv x1 (by rw [List.getElem_toArray]; exact List.getElem?_eq_getElem h1)
      · exact vals_at rv' y1 (by rw [List.getElem_toArray]; exact List.getElem?_eq_getElem h2)
  · have hf : deqs ds ds' = false := by rw [← deqs_all, show (ds.length == ds'.length) = false by simpa using hz, Bool.and_false]
    rw [hf]
    exact RcAt.lists_lengths hl hl' (by rw [List.size_toArray, List.size_toArray]; simp; omega) (by omega)
theorem deq_same (ok : HOk P w H s.heap) {A : Around} {d : Dt} {v : V} {u u' : Value} (h : DAt H d v) (r : RelV v u) (r' : RelV v u') : EqAt A s u u' true := by
  cases d with
  | non => have h : v = .non := h; subst h; cases r; cases r'; exact EqAt.same _
  | bl a => have h : v = .bl a := h; subst h; cases r; cases r'; exact EqAt.same _
  | int a =>
    have h : v = .int a := h
    subst h
    obtain ⟨t, rfl⟩ := r
    obtain ⟨t', rfl⟩ := r'
    have := EqAt.int_int (A := A) (s := s) a t a t'
    rwa [beq_self_eq_true] at this
  | str a =>
    have h : v = .str a := h
    subst h
    obtain ⟨t, rfl⟩ := r
    obtain ⟨t', rfl⟩ := r'
    have := EqAt.str_str (A := A) (s := s) a t a t'
    rwa [beq_self_eq_true] at this
  | tup ds => obtain ⟨l, vs, rfl, _⟩ := h; cases r; cases r'; exact EqAt.same _
  | lst ds => obtain ⟨l, vs, rfl, _⟩ := h; cases r; cases r'; exact EqAt.same _
theorem deq_sc (ok : HOk P w H s.heap) {A : Around} {d d' : Dt} {v v' : V} {u u' : Value} (h : DAt H d v) (h' : DAt H d' v') (r : RelV v u) (r' : RelV v' u') (hu : A.units < cLine) (hk : ∀ ds ds', ¬ (d = .tup ds ∧ d' = .tup ds') ∧ ¬ (d = .lst ds ∧ d' = .lst ds')) : EqAt A s u u' (deq d d') := by
  cases d with
  | non =>
    have h : v = .non := h
    subst h
    cases r
    cases d' with
    | non =>
      have h' : v' = .non := h'
      subst h'
      cases r'
      simp only [deq]
      exact EqAt.same _
    | bl b =>
      have h' : v' = .bl b := h'
      subst h'
      cases r'
      simp only [deq]
      exact EqAt.none_bool _
    | int b =>
      have h' : v' = .int b := h'
      subst h'
      obtain ⟨t', rfl⟩ := r'
      simp only [deq]
      exact EqAt.none_int _ _
    | str b =>
      have h' : v' = .str b := h'
      subst h'
      obtain ⟨t', rfl⟩ := r'
      simp only [deq]
      exact EqAt.none_str _ _
    | tup ds' =>
      obtain ⟨l', vs', rfl, e', hs'⟩ := h'
      cases r'
      obtain ⟨its', rv', hl'⟩ := DAts.tup_of ok e'
      simp only [deq]
      exact EqAt.none_tuple hl' hu
    | lst ds' =>
      obtain ⟨l', vs', rfl, e', hs'⟩ := h'
      cases r'
      obtain ⟨its', rv', hl'⟩ := DAts.lst_of ok e'
      simp only [deq]
      exact EqAt.none_list hl' hu
  | bl a =>
    have h : v = .bl a := h
    subst h
    cases r
    cases d' with
    | non =>
      have h' : v' = .non := h'
      subst h'
      cases r'
      simp only [deq]
      exact EqAt.bool_none _
    | bl b =>
      have h' : v' = .bl b := h'
      subst h'
      cases r'
      simp only [deq]
      exact EqAt.bool_bool _ _
    | int b =>
      have h' : v' = .int b := h'
      subst h'
      obtain ⟨t', rfl⟩ := r'
      simp only [deq]
      exact EqAt.bool_int _ _ _
    | str b =>
      have h' : v' = .str b := h'
      subst h'
      obtain ⟨t', rfl⟩ := r'
      simp only [deq]
      exact EqAt.bool_str _ _ _
    | tup ds' =>
      obtain ⟨l', vs', rfl, e', hs'⟩ := h'
      cases r'
      obtain ⟨its', rv', hl'⟩ := DAts.tup_of ok e'
      simp only [deq]
      exact EqAt.bool_tuple _ hl' hu
    | lst ds' =>
      obtain ⟨l', vs', rfl, e', hs'⟩ := h'
      cases r'
      obtain ⟨its', rv', hl'⟩ := DAts.lst_of ok e'
      simp only [deq]
      exact EqAt.bool_list _ hl' hu
  | int a =>
    have h : v = .int a := h
    subst h
    obtain ⟨t, rfl⟩ := r
    cases d' with
    | non =>
      have h' : v' = .non := h'
      subst h'
      cases r'
      simp only [deq]
      exact EqAt.int_none _ _
    | bl b =>
      have h' : v' = .bl b := h'
      subst h'
      cases r'
      simp only [deq]
      exact EqAt.int_bool _ _ _
    | int b =>
      have h' : v' = .int b := h'
      subst h'
      obtain ⟨t', rfl⟩ := r'
      simp only [deq]
      exact EqAt.int_int _ _ _ _
    | str b =>
      have h' : v' = .str b := h'
      subst h'
      obtain ⟨t', rfl⟩ := r'
      simp only [deq]
      exact EqAt.int_str _ _ _ _
    | tup ds' =>
      obtain ⟨l', vs', rfl, e', hs'⟩ := h'
      cases r'
      obtain ⟨its', rv', hl'⟩ := DAts.tup_of ok e'
      simp only [deq]
      exact EqAt.int_tuple _ _ hl' hu
    | lst ds' =>
      obtain ⟨l', vs', rfl, e', hs'⟩ := h'
      cases r'
      obtain ⟨its', rv', hl'⟩ := DAts.lst_of ok e'
      simp only [deq]
      exact EqAt.int_list _ _ hl' hu
  | str a =>
    have h : v = .str a := h
    subst h
    obtain ⟨t, rfl⟩ := r
    cases d' with
    | non =>
      have h' : v' = .non := h'
      subst h'
      cases r'
      simp only [deq]
      exact EqAt.str_none _ _
    | bl b =>
      have h' : v' = .bl b := h'
      subst h'
      cases r'
      simp only [deq]
      exact EqAt.str_bool _ _ _
    | int b =>
      have h' : v' = .int b := h'
      subst h'
      obtain ⟨t', rfl⟩ := r'
      simp only [deq]
      exact EqAt.str_int _ _ _ _
    | str b =>
      have h' : v' = .str b := h'
      subst h'
      obtain ⟨t', rfl⟩ := r'
      simp only [deq]
      exact EqAt.str_str _ _ _ _
    | tup ds' =>
      obtain ⟨l', vs', rfl, e', hs'⟩ := h'
      cases r'
      obtain ⟨its', rv', hl'⟩ := DAts.tup_of ok e'
      simp only [deq]
      exact EqAt.str_tuple _ _ hl' hu
    | lst ds' =>
      obtain ⟨l', vs', rfl, e', hs'⟩ := h'
      cases r'
      obtain ⟨its', rv', hl'⟩ := DAts.lst_of ok e'
      simp only [deq]
      exact EqAt.str_list _ _ hl' hu
  | tup ds =>
    obtain ⟨l, vs, rfl, e, hs⟩ := h
    cases r
    obtain ⟨its, rv, hl⟩ := DAts.tup_of ok e
    cases d' with
    | non =>
      have h' : v' = .non := h'
      subst h'
      cases r'
      simp only [deq]
      exact EqAt.tuple_none hl hu
    | bl b =>
      have h' : v' = .bl b := h'
      subst h'
      cases r'
      simp only [deq]
      exact EqAt.tuple_bool _ hl hu
    | int b =>
      have h' : v' = .int b := h'
      subst h'
      obtain ⟨t', rfl⟩ := r'
      simp only [deq]
      exact EqAt.tuple_int _ _ hl hu
    | str b =>
      have h' : v' = .str b := h'
      subst h'
      obtain ⟨t', rfl⟩ := r'
      simp only [deq]
      exact EqAt.tuple_str _ _ hl hu
    | tup ds' => exact absurd ⟨rfl, rfl⟩ (hk _ _).1
    | lst ds' =>
      obtain ⟨l', vs', rfl, e', hs'⟩ := h'
      cases r'
      obtain ⟨its', rv', hl'⟩ := DAts.lst_of ok e'
      simp only [deq]
      exact EqAt.tuple_list hl hl' hu
  | lst ds =>
    obtain ⟨l, vs, rfl, e, hs⟩ := h
    cases r
    obtain ⟨its, rv, hl⟩ := DAts.lst_of ok e
    cases d' with
    | non =>
      have h' : v' = .non := h'
      subst h'
      cases r'
      simp only [deq]
      exact EqAt.list_none hl hu
    | bl b =>
      have h' : v' = .bl b := h'
      subst h'
      cases r'
      simp only [deq]
      exact EqAt.list_bool _ hl hu
    | int b =>
      have h' : v' = .int b := h'
      subst h'
      obtain ⟨t', rfl⟩ := r'
      simp only [deq]
      exact EqAt.list_int _ _ hl hu
    | str b =>
      have h' : v' = .str b := h'
      subst h'
      obtain ⟨t', rfl⟩ := r'
      simp only [deq]
      exact EqAt.list_str _ _ hl hu
    | tup ds' =>
      obtain ⟨l', vs', rfl, e', hs'⟩ := h'
      cases r'
      obtain ⟨its', rv', hl'⟩ := DAts.tup_of ok e'
      simp only [deq]
      exact EqAt.list_tuple hl hl' hu
    | lst ds' => exact absurd ⟨rfl, rfl⟩ (hk _ _).2
theorem deq_at (ok : HOk P w H s.heap) : ∀ (n : Nat) {A : Around} {d d' : Dt} {v v' : V} {u u' : Value}, DAt H d v → DAt H d' v' → RelV v u → RelV v' u' → DFit n d → A.units + n < cLine → EqAt A s u u' (deq d d') := by
  intro n
  induction n with
  | zero =>
    intro A d d' v v' u u' h h' r r' f hu
    exact deq_sc ok h h' r r' hu fun ds ds' => ⟨fun e => by rw [e.1] at f; exact f, fun e => by rw [e.1] at f; exact f⟩
  | succ n ih =>
    intro A d d' v v' u u' h h' r r' f hu
    by_cases hvv : v = v'
    · subst hvv
      rw [DAt.one_of h h', deq_refl]
      have hd : d = d' := DAt.one_of h h'
      subst hd
      have hx := deq_same ok (A := A) h r r'
      exact hx
    cases d with
    | tup ds =>
      cases d' with
      | tup ds' =>
        obtain ⟨l, vs, rfl, e, hs⟩ := h
        obtain ⟨l', vs', rfl, e', hs'⟩ := h'
        cases r
        cases r'
        obtain ⟨its, rv, hl⟩ := DAts.tup_of ok e
        obtain ⟨its', rv', hl'⟩ := DAts.tup_of ok e'
        have k1 := hs.length
        have k2 := hs'.length
        have k3 := rv.length
        have k4 := rv'.length
        have key := RcAt.tuples (A := A) (e := eat ds ds') hl hl' (by omega) fun j h1 h2 => ?_
        · simp only [deq]
          rw [← deqs_all]
          refine EqAt.of_refs (fun z => hvv (by rw [z])) ?_
          rw [List.size_toArray, List.size_toArray] at key
          rw [← k1, ← k2, k3, k4]
          exact key
        · rw [List.size_toArray] at h1 h2
          have hj : j < ds.length := by omega
          have hj' : j < ds'.length := by omega
          obtain ⟨x, x1, x2⟩ := hs.get (List.getElem?_eq_getElem hj)
          obtain ⟨y, y1, y2⟩ := hs'.get (List.getElem?_eq_getElem hj')
          have e1 : eat ds ds' j = deq ds[j] ds'[j] := by unfold eat; rw [List.getElem?_eq_getElem hj, List.getElem?_eq_getElem hj']
          rw [e1]
          refine ih x2 y2 ?_ ?_ (f.2 _ (List.getElem_mem hj)) (by show A.units + 1 + n < cLine; omega)
          · exact vals_at rv x1 (by rw [List.getElem_toArray]; exact List.getElem?_eq_getElem h1)
          · exact vals_at rv' y1 (by rw [List.getElem_toArray]; exact List.getElem?_eq_getElem h2)
      | _ => exact deq_sc ok h h' r r' (by omega) fun ds ds' => ⟨fun e => (by cases e.2), fun e => (by cases e.1)⟩
    | lst ds =>
      cases d' with
      | lst ds' =>
        obtain ⟨l, vs, rfl, e, hs⟩ := h
        obtain ⟨l', vs', rfl, e', hs'⟩ := h'
        cases r
        cases r'
        obtain ⟨its, rv, hl⟩ := DAts.lst_of ok e
        obtain ⟨its', rv', hl'⟩ := DAts.lst_of ok e'
        simp only [deq]
        exact EqAt.of_refs (fun z => hvv (by rw [z])) (rc_lists ok ih hs hs' rv rv' hl hl' f.2 hu)
      | _ => exact deq_sc ok h h' r r' (by omega) fun ds ds' => ⟨fun e => (by cases e.1), fun e => (by cases e.2)⟩
    | _ => exact deq_sc ok h h' r r' (by omega) fun ds ds' => ⟨fun e => (by cases e.1), fun e => (by cases e.1)⟩
end
section
variable {X : Cx}
end
end L2
set_option Elab.async false
set_option linter.all false
set_option maxRecDepth 100000
namespace L2
open PySem PySem.Spec PyProof.Rows PySem.SeqAt
section
variable {X : Cx}
theorem Inv.drawn {pins : List (Addr × Obj)} {σ : St} {H : Hp} {s : Shared} (I : Inv X pins σ H s) (d : _) : Inv X pins σ H { s with drawn := d } := ⟨I.ok, I.os, I.bare, I.base, I.loc, I.cell, I.free, I.freeC, I.pin, I.hok, I.len⟩
end
end L2
set_option Elab.async false
set_option linter.all false
set_option maxRecDepth 100000
namespace L2
open PySem PySem.Spec PyProof.Rows
theorem cx_P {CX : CXT} {P : Program} {w : World} {K : PySem.W.Frag} {mg : Str → Option Value} {base : Heap} {N : List Str} {qual : Str} {scope : Scope} {f : Addr} {cd : Value} {A : Around} {outer : List Env} {s : Shared} {H : Hp} {E : XK} : (cxOf CX P w K mg base N qual scope f cd A outer s H E).prog = P := rfl
end L2
set_option Elab.async false
set_option linter.all false
set_option maxRecDepth 100000
namespace L2
open PySem PySem.Spec PyProof.Rows PySem.SeqAt
section
variable {P : Program} {w : World} {H : Hp} {s : Shared}
theorem rn_tups (ok : HOk P w H s.heap) {n : Nat} {A : Around} (ih : ∀ {A : Around} {d d' : Dt} {v v' : V} {u u' : Value}, DAt H d v → DAt H d' v' → RelV v u → RelV v' u' → DFit n d → A.units + n < cLine → EqAt A s u u' (deq d d'))
    {l l' : Addr} {ds ds' : List Dt} {vs vs' : List V} {its its' : List Value} (hs : DAts H ds vs) (hs' : DAts H ds' vs') (rv : Vals vs its) (rv' : Vals vs' its') (hl : s.heap.IsTuple l its.toArray) (hl' : s.heap.IsTuple l' its'.toArray)
    (f : ∀ d ∈ ds, DFit n d) (hu : A.units + (n + 1) < cLine) : RcNeAt A s (.ref l) (.ref l') (!deqs ds ds') := by
  have k1 := hs.length
  have k2 := hs'.length
  have k3 := rv.length
  have k4 := rv'.length
  have at_ : ∀ j (h1 : j < its.toArray.size) (h2 : j < its'.toArray.size), EqAt A.in1 s its.toArray[j] its'.toArray[j] (eat ds ds' j) := fun j h1 h2 => by
    rw [List.size_toArray] at h1 h2
    have hj : j < ds.length := by omega
    have hj' : j < ds'.length := by omega
    obtain ⟨x, x1, x2⟩ := hs.get (List.getElem?_eq_getElem hj)
    obtain ⟨y, y1, y2⟩ := hs'.get (List.getElem?_eq_getElem hj')
    have e1 : eat ds ds' j = deq ds[j] ds'[j] := by unfold eat; rw [List.getElem?_eq_getElem hj, List.getElem?_eq_getElem hj']
    rw [e1]
    refine ih x2 y2 ?_ ?_ (f _ (List.getElem_mem hj)) (by show A.units + 1 + n < cLine; omega)
    · exact vals_at rv x1 (by rw [List.getElem_toArray]; exact List.getElem?_eq_getElem h1)
    · exact vals_at rv' y1 (by rw [List.getElem_toArray]; exact List.getElem?_eq_getElem h2)
  have key := RcNeAt.tuples (A := A) (e := eat ds ds') hl hl' (by omega) at_
  rw [List.size_toArray, List.size_toArray] at key
  rw [← deqs_all, ← k1, ← k2, k3, k4]
  exact key
theorem rn_lists (ok : HOk P w H s.heap) {n : Nat} {A : Around} (ih : ∀ {A : Around} {d d' : Dt} {v v' : V} {u u' : Value}, DAt H d v → DAt H d' v' → RelV v u → RelV v' u' → DFit n d → A.units + n < cLine → EqAt A s u u' (deq d d'))
    {l l' : Addr} {ds ds' : List Dt} {vs vs' : List V} {its its' : List Value} (hs : DAts H ds vs) (hs' : DAts H ds' vs') (rv : Vals vs its) (rv' : Vals vs' its') (hl : s.heap.IsList l its.toArray) (hl' : s.heap.IsList l' its'.toArray)
    (f : ∀ d ∈ ds, DFit n d) (hu : A.units + (n + 1) < cLine) : RcNeAt A s (.ref l) (.ref l') (!deqs ds ds') := by
  have k1 := hs.length
  have k2 := hs'.length
  have k3 := rv.length
  have k4 := rv'.length
  have at_ : ∀ j (h1 : j < its.toArray.size) (h2 : j < its'.toArray.size), EqAt A.in1 s its.toArray[j] its'.toArray[j] (eat ds ds' j) := fun j h1 h2 => by
    rw [List.size_toArray] at h1 h2
    have hj : j < ds.length := by omega
    have hj' : j < ds'.length := by omega
    obtain ⟨x, x1, x2⟩ := hs.get (List.getElem?_eq_getElem hj)
    obtain ⟨y, y1, y2⟩ := hs'.get (List.getElem?_eq_getElem hj')
    have e1 : eat ds ds' j = deq ds[j] ds'[j] := by unfold eat; rw [List.getElem?_eq_getElem hj, List.getElem?_eq_getElem hj']
    rw [e1]
    refine ih x2 y2 ?_ ?_ (f _ (List.getElem_mem hj)) (by show A.units + 1 + n < cLine; omega)
    · exact vals_at rv x1 (by rw [List.getElem_toArray]; exact List.getElem?_eq_getElem h1)
    · exact vals_at rv' y1 (by rw [List.getElem_toArray]; exact List.getElem?_eq_getElem h2)
  by_cases hz : ds.length = ds'.length
  · have key := RcNeAt.lists (A := A) (e := eat ds ds') hl hl' (by rw [List.size_toArray, List.size_toArray]; omega) (by omega) at_
    rw [← deqs_all, hz, Nat.min_self, beq_self_eq_true, Bool.and_true]
    rw [List.size_toArray] at key
    rw [show ds'.length = its.length by omega]
    exact key
  · have hf : deqs ds ds' = false := by rw [← deqs_all, show (ds.length == ds'.length) = false by simpa using hz, Bool.and_false]
    rw [hf]
    exact RcNeAt.lists_lengths hl hl' (by rw [List.size_toArray, List.size_toArray]; simp; omega) (by omega)
theorem rn_at (ok : HOk P w H s.heap) {n : Nat} {A : Around} {d d' : Dt} {v v' : V} {u u' : Value} (h : DAt H d v) (h' : DAt H d' v') (r : RelV v u) (r' : RelV v' u') (f : DFit (n + 1) d) (hu : A.units + (n + 1) < cLine) : RcNeAt A s u u' (!deq d d') := by
  have hu0 : A.units < cLine := by omega
  cases d with
  | non =>
    have h : v = .non := h
    subst h
    cases r
    cases d' with
    | non =>
      have h' : v' = .non := h'
      subst h'
      cases r'
      simp only [deq, Bool.not_false, Bool.not_true]
      exact RcNeAt.none_none
    | bl b =>
      have h' : v' = .bl b := h'
      subst h'
      cases r'
      simp only [deq, Bool.not_false, Bool.not_true]
      exact RcNeAt.none_bool _
    | int b =>
      have h' : v' = .int b := h'
      subst h'
      obtain ⟨t', rfl⟩ := r'
      simp only [deq, Bool.not_false, Bool.not_true]
      exact RcNeAt.none_int _ _
    | str b =>
      have h' : v' = .str b := h'
      subst h'
      obtain ⟨t', rfl⟩ := r'
      simp only [deq, Bool.not_false, Bool.not_true]
      exact RcNeAt.none_str _ _
    | tup ds' =>
      obtain ⟨l', vs', rfl, e', hs'⟩ := h'
      cases r'
      obtain ⟨its', rv', hl'⟩ := DAts.tup_of ok e'
      simp only [deq, Bool.not_false, Bool.not_true]
      exact RcNeAt.none_tuple hl' hu0
    | lst ds' =>
      obtain ⟨l', vs', rfl, e', hs'⟩ := h'
      cases r'
      obtain ⟨its', rv', hl'⟩ := DAts.lst_of ok e'
      simp only [deq, Bool.not_false, Bool.not_true]
      exact RcNeAt.none_list hl' hu0
  | bl a =>
    have h : v = .bl a := h
    subst h
    cases r
    cases d' with
    | non =>
      have h' : v' = .non := h'
      subst h'
      cases r'
      simp only [deq, Bool.not_false, Bool.not_true]
      exact RcNeAt.bool_none _
    | bl b =>
      have h' : v' = .bl b := h'
      subst h'
      cases r'
      simp only [deq, Bool.not_false, Bool.not_true]
      exact RcNeAt.bool_bool _ _
    | int b =>
      have h' : v' = .int b := h'
      subst h'
      obtain ⟨t', rfl⟩ := r'
      simp only [deq, Bool.not_false, Bool.not_true]
      exact RcNeAt.bool_int _ _ _
    | str b =>
      have h' : v' = .str b := h'
      subst h'
      obtain ⟨t', rfl⟩ := r'
      simp only [deq, Bool.not_false, Bool.not_true]
      exact RcNeAt.bool_str _ _ _
    | tup ds' =>
      obtain ⟨l', vs', rfl, e', hs'⟩ := h'
      cases r'
      obtain ⟨its', rv', hl'⟩ := DAts.tup_of ok e'
      simp only [deq, Bool.not_false, Bool.not_true]
      exact RcNeAt.bool_tuple _ hl' hu0
    | lst ds' =>
      obtain ⟨l', vs', rfl, e', hs'⟩ := h'
      cases r'
      obtain ⟨its', rv', hl'⟩ := DAts.lst_of ok e'
      simp only [deq, Bool.not_false, Bool.not_true]
      exact RcNeAt.bool_list _ hl' hu0
  | int a =>
    have h : v = .int a := h
    subst h
    obtain ⟨t, rfl⟩ := r
    cases d' with
    | non =>
      have h' : v' = .non := h'
      subst h'
      cases r'
      simp only [deq, Bool.not_false, Bool.not_true]
      exact RcNeAt.int_none _ _
    | bl b =>
      have h' : v' = .bl b := h'
      subst h'
      cases r'
      simp only [deq, Bool.not_false, Bool.not_true]
      exact RcNeAt.int_bool _ _ _
    | int b =>
      have h' : v' = .int b := h'
      subst h'
      obtain ⟨t', rfl⟩ := r'
      simp only [deq, Bool.not_false, Bool.not_true]
      exact RcNeAt.int_int _ _ _ _
    | str b =>
      have h' : v' = .str b := h'
      subst h'
      obtain ⟨t', rfl⟩ := r'
      simp only [deq, Bool.not_false, Bool.not_true]
      exact RcNeAt.int_str _ _ _ _
    | tup ds' =>
      obtain ⟨l', vs', rfl, e', hs'⟩ := h'
      cases r'
      obtain ⟨its', rv', hl'⟩ := DAts.tup_of ok e'
      simp only [deq, Bool.not_false, Bool.not_true]
      exact RcNeAt.int_tuple _ _ hl' hu0
    | lst ds' =>
      obtain ⟨l', vs', rfl, e', hs'⟩ := h'
      cases r'
      obtain ⟨its', rv', hl'⟩ := DAts.lst_of ok e'
      simp only [deq, Bool.not_false, Bool.not_true]
      exact RcNeAt.int_list _ _ hl' hu0
  | str a =>
    have h : v = .str a := h
    subst h
    obtain ⟨t, rfl⟩ := r
    cases d' with
    | non =>
      have h' : v' = .non := h'
      subst h'
      cases r'
      simp only [deq, Bool.not_false, Bool.not_true]
      exact RcNeAt.str_none _ _
    | bl b =>
      have h' : v' = .bl b := h'
      subst h'
      cases r'
      simp only [deq, Bool.not_false, Bool.not_true]
      exact RcNeAt.str_bool _ _ _
    | int b =>
      have h' : v' = .int b := h'
      subst h'
      obtain ⟨t', rfl⟩ := r'
      simp only [deq, Bool.not_false, Bool.not_true]
      exact RcNeAt.str_int _ _ _ _
    | str b =>
      have h' : v' = .str b := h'
      subst h'
      obtain ⟨t', rfl⟩ := r'
      simp only [deq, Bool.not_false, Bool.not_true]
      exact RcNeAt.str_str _ _ _ _
    | tup ds' =>
      obtain ⟨l', vs', rfl, e', hs'⟩ := h'
      cases r'
      obtain ⟨its', rv', hl'⟩ := DAts.tup_of ok e'
      simp only [deq, Bool.not_false, Bool.not_true]
      exact RcNeAt.str_tuple _ _ hl' hu0
    | lst ds' =>
      obtain ⟨l', vs', rfl, e', hs'⟩ := h'
      cases r'
      obtain ⟨its', rv', hl'⟩ := DAts.lst_of ok e'
      simp only [deq, Bool.not_false, Bool.not_true]
      exact RcNeAt.str_list _ _ hl' hu0
  | tup ds =>
    obtain ⟨l, vs, rfl, e, hs⟩ := h
    cases r
    obtain ⟨its, rv, hl⟩ := DAts.tup_of ok e
    cases d' with
    | non =>
      have h' : v' = .non := h'
      subst h'
      cases r'
      simp only [deq, Bool.not_false, Bool.not_true]
      exact RcNeAt.tuple_none hl hu0
    | bl b =>
      have h' : v' = .bl b := h'
      subst h'
      cases r'
      simp only [deq, Bool.not_false, Bool.not_true]
      exact RcNeAt.tuple_bool _ hl hu0
    | int b =>
      have h' : v' = .int b := h'
      subst h'
      obtain ⟨t', rfl⟩ := r'
      simp only [deq, Bool.not_false, Bool.not_true]
      exact RcNeAt.tuple_int _ _ hl hu0
    | str b =>
      have h' : v' = .str b := h'
      subst h'
      obtain ⟨t', rfl⟩ := r'
      simp only [deq, Bool.not_false, Bool.not_true]
      exact RcNeAt.tuple_str _ _ hl hu0
    | tup ds' =>
      obtain ⟨l', vs', rfl, e', hs'⟩ := h'
      cases r'
      obtain ⟨its', rv', hl'⟩ := DAts.tup_of ok e'
      simp only [deq, Bool.not_false, Bool.not_true]
      exact rn_tups ok (deq_at ok n) hs hs' rv rv' hl hl' f.2 hu
    | lst ds' =>
      obtain ⟨l', vs', rfl, e', hs'⟩ := h'
      cases r'
      obtain ⟨its', rv', hl'⟩ := DAts.lst_of ok e'
      simp only [deq, Bool.not_false, Bool.not_true]
      exact RcNeAt.tuple_list hl hl' hu0
  | lst ds =>
    obtain ⟨l, vs, rfl, e, hs⟩ := h
    cases r
    obtain ⟨its, rv, hl⟩ := DAts.lst_of ok e
    cases d' with
    | non =>
      have h' : v' = .non := h'
      subst h'
      cases r'
      simp only [deq, Bool.not_false, Bool.not_true]
      exact RcNeAt.list_none hl hu0
    | bl b =>
      have h' : v' = .bl b := h'
      subst h'
      cases r'
      simp only [deq, Bool.not_false, Bool.not_true]
      exact RcNeAt.list_bool _ hl hu0
    | int b =>
      have h' : v' = .int b := h'
      subst h'
      obtain ⟨t', rfl⟩ := r'
      simp only [deq, Bool.not_false, Bool.not_true]
      exact RcNeAt.list_int _ _ hl hu0
    | str b =>
      have h' : v' = .str b := h'
      subst h'
      obtain ⟨t', rfl⟩ := r'
      simp only [deq, Bool.not_false, Bool.not_true]
      exact RcNeAt.list_str _ _ hl hu0
    | tup ds' =>
      obtain ⟨l', vs', rfl, e', hs'⟩ := h'
      cases r'
      obtain ⟨its', rv', hl'⟩ := DAts.tup_of ok e'
      simp only [deq, Bool.not_false, Bool.not_true]
      exact RcNeAt.list_tuple hl hl' hu0
    | lst ds' =>
      obtain ⟨l', vs', rfl, e', hs'⟩ := h'
      cases r'
      obtain ⟨its', rv', hl'⟩ := DAts.lst_of ok e'
      simp only [deq, Bool.not_false, Bool.not_true]
      exact rn_lists ok (deq_at ok n) hs hs' rv rv' hl hl' f.2 hu
end
section
variable {X : Cx}
def rNeG : R2 := fun x y H Q => ∃ n d d', DAt H d x ∧ DAt H d' y ∧ DFit (n + 1) d ∧ n ≤ 60 ∧ Q (.bl (!deq d d')) H
theorem op_neG (hu : X.A.units + 64 < cLine) : OpR X (compareOp .NotEq) rNeG := by
  intro pins s σ H x y v u Q I rx ry h
  obtain ⟨n, d, d', h1, h2, f, hn, q⟩ := h
  exact rn_at I.hok h1 h2 rx ry f (by omega) X.prog X.w _ _ (fin_bl I q rfl)
end
end L2
set_option Elab.async false
set_option linter.all false
set_option maxRecDepth 100000
namespace L2
open PySem PySem.Spec PyProof.Rows PySem.SeqAt
section
variable {prog : Program} {w : World} {A : Around} {E : Value → Shared → Prop} {s : Shared}
theorem nextT_item {it t : Addr} {i : Nat} {xs : Array Value} {x : Value} {Q : Value → Shared → Prop} (hr : s.heap.IsTupleIter it t i) (ht : s.heap.IsTuple t xs) (hx : xs[i]? = some x)
    (q : ∀ h', h'.IsTupleIter it t (i + 1) → Heap.SameBut it s.heap h' → Q x { s with heap := h' }) : wpAny (model prog w) A (Builtin.SmallTypes.nextOf (.ref it)) Q E s := by
  obtain ⟨o, g1, g2, g3⟩ := id hr
  obtain ⟨ot, g4, _, m, g5⟩ := ht
  unfold Builtin.SmallTypes.nextOf
  refine wpAny_bind (wpAny_callSpecial?_slot (name := Str.ofString "__next__") hr.typeIs F.slot_tuple_iterator_next (wpAny_call_entry F.slot_tuple_iterator_next hr.typeIs F.entry_tuple_iterator_next ?_ (F.args_tuple_iterator_next_1 _)))
  refine wpAny_bind (m := field (.ref it) 0) (wpAny_field g1 g3 (x := .ref t) rfl ?_)
  refine (if_neg (c := (Value.ref t == Value.none) = true) Bool.false_ne_true) ▸ ?_
  refine wpAny_bind (m := field (.ref it) 1) (wpAny_field g1 g3 (x := .int i 0) rfl ?_)
  refine wpAny_bind (m := seqItems? (.ref t)) (wpAny_seqItems g4 g5 ?_)
  simp only [Int.toNat_natCast, hx]
  refine wpAny_bind (wpAny_setField g1 g3 (by simp) (wpAny_pure ⟨x, rfl, wpAny_pure (q _ ⟨_, Heap.get?_update_self _ g1 (Obj.isFreed_of_fields (Obj.data_mapFields g3 _)), (Obj.cls_mapFields ..).trans g2, ?_⟩ (Heap.SameBut.update ..))⟩))
  rw [Obj.data_mapFields g3]
  simp [rawInt]
theorem nextT_end {it t : Addr} {i : Nat} {xs : Array Value} {Q : Value → Shared → Prop} (hh : A.handled = none) (hr : s.heap.IsTupleIter it t i) (ht : s.heap.IsTuple t xs) (hx : xs[i]? = none)
    (q : ∀ h' e, Heap.ExtBut it s.heap h' → (∃ o, h'.get? e = some o ∧ o.cls = .type "StopIteration") → E (.ref e) { s with heap := h' }) : wpAny (model prog w) A (Builtin.SmallTypes.nextOf (.ref it)) Q E s := by
  obtain ⟨o, g1, g2, g3⟩ := id hr
  obtain ⟨ot, g4, _, m, g5⟩ := ht
  unfold Builtin.SmallTypes.nextOf
  refine wpAny_bind (wpAny_callSpecial?_slot (name := Str.ofString "__next__") hr.typeIs F.slot_tuple_iterator_next (wpAny_call_entry F.slot_tuple_iterator_next hr.typeIs F.entry_tuple_iterator_next ?_ (F.args_tuple_iterator_next_1 _)))
  refine wpAny_bind (m := field (.ref it) 0) (wpAny_field g1 g3 (x := .ref t) rfl ?_)
  refine (if_neg (c := (Value.ref t == Value.none) = true) Bool.false_ne_true) ▸ ?_
  refine wpAny_bind (m := field (.ref it) 1) (wpAny_field g1 g3 (x := .int i 0) rfl ?_)
  refine wpAny_bind (m := seqItems? (.ref t)) (wpAny_seqItems g4 g5 ?_)
  simp only [Int.toNat_natCast, hx]
  refine wpAny_bind (wpAny_rule (wpAny_bind (wpAny_setField g1 g3 (by simp) ?_)))
  refine wpAny_bind (m := newExc (.type "StopIteration") []) ?_
  simp only [newExc, newTuple]
  refine wpAny_bind (wpAny_newObj_type (wpAny_bind (m := firstArgMember _ _) (wpAny_of_eq (a := Value.none) (by first | rfl | (simp only [firstArgMember]; rfl)) (wpAny_newObj_type (wpAny_raiseNew_none (A := A.in1) hh ?_) (by size_fits)))) (by size_fits))
  exact q _ _ (((Heap.SameBut.update ..).extBut.push _).push _) ⟨_, Heap.get?_push_size _ rfl, rfl⟩
structure Apt (z TI TO i1 i2 l1 l2 : Addr) : Prop where
  nd : [z, TI, TO, i1, i2].Nodup
  a1 : l1 ≠ z ∧ l1 ≠ TO ∧ l1 ≠ i1 ∧ l1 ≠ i2
  a2 : l2 ≠ z ∧ l2 ≠ TO ∧ l2 ≠ i1 ∧ l2 ≠ i2
theorem Apt.ne {z TI TO i1 i2 l1 l2 : Addr} (d : Apt z TI TO i1 i2 l1 l2) : (z ≠ TI ∧ z ≠ TO ∧ z ≠ i1 ∧ z ≠ i2) ∧ (TI ≠ TO ∧ TI ≠ i1 ∧ TI ≠ i2) ∧ (TO ≠ i1 ∧ TO ≠ i2) ∧ i1 ≠ i2 := by
  have := d.nd
  simp only [List.nodup_cons, List.mem_cons, List.not_mem_nil, or_false, not_or] at this
  exact ⟨this.1, this.2.1, this.2.2.1, this.2.2.2.1⟩
end
section
variable {X : Cx} {pins : List (Addr × Obj)} {σ : St} {H : Hp} {s : Shared} {h' : Heap}
theorem Inv.turnedL {t' : Nat} {ch : List Addr} (I : Inv X pins σ H s) (k : ∀ b o, b ∉ ch → s.heap.get? b = some o → h'.get? b = some o) (hf : ∀ b ∈ ch, FpOk X pins H b) : Inv X pins σ H { s with heap := h', toks := t' } := by
  have nit : ∀ b u, H b = some u → b ∉ ch := fun b u e z => by rw [(hf b z).1] at e; cases e
  have hL : X.env.locals ∉ ch := fun z => (hf _ z).2.1 rfl
  refine I.step (g' := s.gens) (d' := s.drawn) (ch := ch) (fun b hb => ?_) (fun b o _ _ hc e _ => k b o hc e) (fun b o _ _ hc e _ => ⟨o.slots, k b o hc e⟩) (fun _ _ _ _ n => n) (fun b o hc e => ⟨o, k b o hc e⟩) (fun _ _ e => e) (fun _ _ _ e => e) (fun b ps e => ⟨#[], by rw [e]; simp⟩) (fun m hm => ?_) (fun b u e => ?_) I.bare
  · obtain ⟨f0, f1, f2, f3, f4, f5⟩ := hf b hb
    exact ⟨f3, f1, f4, f5⟩
  · obtain ⟨o, es, ep, ho, r⟩ := hm
    exact ⟨o, es, ep, k _ o hL ho, r⟩
  · refine (I.hok b u e).stay (fun c v hc q => k c v ?_ q) (fun _ q => q) fun _ _ q => q
    rcases hc with z | z
    · rw [z]; exact nit b u e
    · exact nit c _ z
theorem Inv.turnedN {t' : Nat} {ch : List Addr} {p : Addr} {o : HO} (I : Inv X pins σ H s) (k : ∀ b o, b ∉ ch → s.heap.get? b = some o → h'.get? b = some o) (hf : ∀ b ∈ ch, FpOk X pins H b) (hp : s.heap.objs.size ≤ p) (new : ObjOk X.prog X.w (upd H p o) h' p o) :
    Inv X pins σ (upd H p o) { s with heap := h', toks := t' } := by
  have nit : ∀ b u, H b = some u → b ∉ ch := fun b u e z => by rw [(hf b z).1] at e; cases e
  have hL : X.env.locals ∉ ch := fun z => (hf _ z).2.1 rfl
  have hn := I.hok.fresh hp
  have nep : ∀ {b : Addr} {u : HO}, H b = some u → b ≠ p := fun e z => by rw [z, hn] at e; cases e
  refine I.step (g' := s.gens) (d' := s.drawn) (ch := ch) (fun b hb => ?_) (fun b o _ _ hc e _ => k b o hc e) (fun b o _ _ hc e _ => ⟨o.slots, k b o hc e⟩) (fun b u _ e n => ?_) (fun b o hc e => ⟨o, k b o hc e⟩) (fun _ _ e => by rw [upd_ne (nep e)]; exact e) (fun _ _ _ e => by rw [upd_ne (nep e)]; exact e) (fun b ps e => ⟨#[], by rw [upd_ne (nep e), e]; simp⟩) (fun m hm => ?_) (fun b u e => ?_) I.bare
  · obtain ⟨f0, f1, f2, f3, f4, f5⟩ := hf b hb
    exact ⟨f3, f1, f4, f5⟩
  · rw [upd_ne (Nat.ne_of_lt (Nat.lt_of_lt_of_le (Heap.lt_size e) hp))]
    exact n
  · obtain ⟨o, es, ep, ho, r⟩ := hm
    exact ⟨o, es, ep, k _ o hL ho, r⟩
  · by_cases hb : b = p
    · subst hb
      rw [upd_same] at e
      cases e
      exact new
    · rw [upd_ne hb] at e
      refine (I.hok b u e).stay (fun c v hc q => k c v ?_ q) (fun c q => by rw [upd_ne (nep q)]; exact q) fun c _ q => by rw [upd_ne (nep q)]; exact q
      rcases hc with z | z
      · rw [z]; exact nit b u e
      · exact nit c _ z
end
section
variable {X : Cx}
theorem boot_zip : bootBuiltins "zip" = some (.type "zip") := by rfl
end
end L2
set_option Elab.async false
set_option linter.all false
set_option maxRecDepth 100000
namespace L2
open PySem PySem.Spec PyProof.Rows PySem.SeqAt
def entI (w : World) : List DictEntry → List (Str × Int) → Prop
  | [], r => r = []
  | e :: es, r => ∃ x y t u r', r = (x, y) :: r' ∧ e.hash = hashStr w x ∧ e.key = .str x t ∧ e.val = .int y u ∧ entI w es r'
theorem entI.all {w : World} {P : Program} : ∀ {es : List DictEntry} {r : List (Str × Int)}, entI w es r → (∀ e ∈ es, ∃ k, (mixKind P w).is k e.key = true ∧ e.hash = (mixKind P w).hash k) ∧
    ∃ vs : List (Key × Value), KV (r.map fun p => ((.inr p.1 : Key), V.int p.2)) vs ∧ Pairs (mixKind P w) es vs ∧ vs.map (·.1) = r.map fun p => (.inr p.1 : Key)
  | [], r, h => by
    have h : r = [] := h
    subst h
    exact ⟨fun e he => (nomatch he), [], .nil, .nil, rfl⟩
  | e :: es, r, h => by
    obtain ⟨x, y, t, u, r', rfl, h1, h2, h3, h4⟩ := h
    obtain ⟨g, vs, a, b, c⟩ := entI.all (P := P) h4
    refine ⟨fun e' he => ?_, (.inr x, .int y u) :: vs, .cons ⟨rfl, u, rfl⟩ a, .cons (by rw [h2]; exact mixKind_str P w x t) h3 b, ?_⟩
    · rcases List.mem_cons.mp he with rfl | he
      · exact ⟨.inr x, by rw [h2]; exact mixKind_str P w x t, h1⟩
      · exact g e' he
    · rw [List.map_cons, List.map_cons, c]
end L2
set_option Elab.async false
set_option linter.all false
set_option maxRecDepth 100000
namespace L2
open PySem PySem.Spec PyProof.Rows PySem.SeqAt
inductive Rw where
  | no | nm (x : Str) | bo (i j : Int)
inductive Wt where
  | n (i : Int) | ps (l : List Int)
structure Ln where
  i : Int
  j : Int
  w : Str
  as : List Wt
end L2
set_option Elab.async false
set_option linter.all false
set_option maxRecDepth 100000
namespace L2
open PySem PySem.Spec PyProof.Rows PySem.SeqAt
section
variable {prog : Program} {w : World} {A : Around} {E : Value → Shared → Prop} {s : Shared}
end
section
variable {X : Cx}
end
end L2
set_option Elab.async false
set_option linter.all false
set_option maxRecDepth 100000
namespace L2
open PySem PySem.Spec PyProof.Rows PySem.SeqAt
section
variable {X : Cx}
end
end L2
set_option Elab.async false
set_option linter.all false
set_option maxRecDepth 100000
namespace L2
open PySem
def Ris (xs : Array Nat) : Prop := xs.toList.Pairwise (· < ·)
theorem Ris.mono {xs : Array Nat} (h : Ris xs) : ∀ a b, a < b → b < xs.size → xs.getD a 0 < xs.getD b 0 := by
  intro a b hab hb
  have := List.pairwise_iff_getElem.mp h a b (by rw [Array.length_toList]; omega) (by rw [Array.length_toList]; exact hb) hab
  simpa [Array.getD, hb, Nat.lt_trans hab hb] using this
theorem getD_any (xs : Array Nat) {k : Nat} (a b : Nat) (h : k < xs.size) : xs.getD k a = xs.getD k b := by simp [Array.getD, h]
theorem below_go (xs : Array Nat) (j : Nat) (mono : ∀ a b, a < b → b < xs.size → xs.getD a 0 < xs.getD b 0) :
    ∀ (fuel lo hi : Nat), hi - lo ≤ fuel → lo ≤ hi → hi ≤ xs.size → (∀ k, k < lo → xs.getD k 0 < j) → (∀ k, hi ≤ k → k < xs.size → j ≤ xs.getD k 0) →
      SetTable.below.go xs j fuel lo hi ≤ xs.size ∧ (∀ k, k < SetTable.below.go xs j fuel lo hi → xs.getD k 0 < j) ∧ (∀ k, SetTable.below.go xs j fuel lo hi ≤ k → k < xs.size → j ≤ xs.getD k 0) := by
  intro fuel
  induction fuel with
  | zero =>
    intro lo hi h1 h2 h3 h4 h5
    have : lo = hi := by omega
    subst this
    unfold SetTable.below.go
    exact ⟨h3, h4, h5⟩
  | succ n ih =>
    intro lo hi h1 h2 h3 h4 h5
    unfold SetTable.below.go
    by_cases hl : lo < hi
    · rw [if_pos hl]
      dsimp only
      have hm : (lo + hi) / 2 < xs.size := by omega
      rw [getD_any xs j 0 hm]
      by_cases hc : xs.getD ((lo + hi) / 2) 0 < j
      · rw [if_pos hc]
        refine ih _ _ (by omega) (by omega) h3 (fun k hk => ?_) h5
        by_cases e : k = (lo + hi) / 2
        · rw [e]; exact hc
        · exact Nat.lt_trans (mono k _ (by omega) hm) hc
      · rw [if_neg hc]
        refine ih _ _ (by omega) (by omega) (by omega) h4 (fun k hk hks => ?_)
        by_cases e : k = (lo + hi) / 2
        · rw [e]; omega
        · have := mono ((lo + hi) / 2) k (by omega) hks
          omega
    · rw [if_neg hl]
      have : lo = hi := by omega
      subst this
      exact ⟨h3, h4, h5⟩
theorem below_spec {xs : Array Nat} (h : Ris xs) (j : Nat) : SetTable.below xs j ≤ xs.size ∧ (∀ k, k < SetTable.below xs j → xs.getD k 0 < j) ∧ (∀ k, SetTable.below xs j ≤ k → k < xs.size → j ≤ xs.getD k 0) :=
  below_go xs j h.mono xs.size 0 xs.size (by omega) (by omega) (Nat.le_refl _) (fun k hk => absurd hk (Nat.not_lt_zero _)) (fun k h1 h2 => absurd h2 (by omega))
def turnSlot (xs : Array Nat) (i : Nat) : Nat := if i = 0 then 0 else xs.getD (i - 1) 0 + 1
theorem below_turn {xs : Array Nat} (h : Ris xs) {i : Nat} (hi : i ≤ xs.size) : SetTable.below xs (turnSlot xs i) = i := by
  obtain ⟨h1, h2, h3⟩ := below_spec h (turnSlot xs i)
  unfold turnSlot at *
  by_cases h0 : i = 0
  · subst h0
    rw [if_pos rfl] at *
    by_cases e : SetTable.below xs 0 = 0
    · exact e
    · have := h2 0 (by omega)
      omega
  · rw [if_neg h0] at *
    generalize SetTable.below xs (xs.getD (i - 1) 0 + 1) = r at *
    have a1 : ¬ r ≤ i - 1 := fun hr => by have := h3 (i - 1) hr (by omega); omega
    have a2 : ¬ i < r := fun hr => by
      have e1 := h2 i hr
      have e2 := h.mono (i - 1) i (by omega) (by omega)
      omega
    omega
theorem insertAt_toList {α : Type} (xs : Array α) (p : Nat) (x : α) (hp : p ≤ xs.size) : (SetTable.insertAt xs p x).toList = xs.toList.take p ++ x :: xs.toList.drop p := by
  unfold SetTable.insertAt
  simp [Array.toList_extract, List.extract]
  exact List.take_of_length_le (by rw [List.length_drop, Array.length_toList]; omega)
theorem ris_insert {xs : Array Nat} (h : Ris xs) {j : Nat} (hj : xs[SetTable.below xs j]? ≠ some j) : Ris (SetTable.insertAt xs (SetTable.below xs j) j) := by
  obtain ⟨h1, h2, h3⟩ := below_spec h j
  unfold Ris
  rw [insertAt_toList _ _ _ h1]
  have hg : ∀ k (hk : k < xs.toList.length), xs.toList[k] = xs.getD k 0 := fun k hk => by
    rw [Array.length_toList] at hk
    simp [Array.getD, hk]
  have up : ∀ b, b ∈ xs.toList.drop (SetTable.below xs j) → j < b := by
    intro b hb
    obtain ⟨k, hk, rfl⟩ := List.getElem_of_mem hb
    rw [List.length_drop] at hk
    rw [List.getElem_drop, hg _ (by omega)]
    have hs : SetTable.below xs j + k < xs.size := by rw [← Array.length_toList]; omega
    have hle := h3 (SetTable.below xs j) (Nat.le_refl _) (by omega)
    have hne : xs.getD (SetTable.below xs j) 0 ≠ j := fun e => hj (by
      have hb : SetTable.below xs j < xs.size := by omega
      rw [Array.getElem?_eq_getElem hb]
      simpa [Array.getD, hb] using e)
    by_cases hk0 : k = 0
    · subst hk0
      simp only [Nat.add_zero]
      omega
    · have := h.mono (SetTable.below xs j) (SetTable.below xs j + k) (by omega) hs
      omega
  have lo : ∀ a, a ∈ xs.toList.take (SetTable.below xs j) → a < j := by
    intro a ha
    obtain ⟨k, hk, rfl⟩ := List.getElem_of_mem ha
    rw [List.length_take] at hk
    rw [List.getElem_take, hg _ (by omega)]
    exact h2 k (by omega)
  refine List.pairwise_append.mpr ⟨h.sublist (List.take_sublist _ _), List.pairwise_cons.mpr ⟨fun b hb => up b hb, h.sublist (List.drop_sublist _ _)⟩, fun a ha b hb => ?_⟩
  rcases List.mem_cons.mp hb with rfl | hb
  · exact lo a ha
  · exact Nat.lt_trans (lo a ha) (up b hb)
theorem adv_dummy (t : SetTable) (p : SetTable.Probe) : (t.advance p).dummy = p.dummy := by
  unfold SetTable.advance
  split <;> rfl
theorem slot_not {t : SetTable} {j : Nat} (h : ∀ i, t.slot j ≠ .live i) : t.place[SetTable.below t.place j]? ≠ some j := by
  intro e
  apply h (SetTable.below t.place j)
  unfold SetTable.slot
  simp [e]
theorem probe_empty (t : SetTable) (hashAt : Nat → Int) (hh : Int) : ∀ (fuel : Nat) (p : SetTable.Probe) (j : Nat) (d : Option Nat), (∀ e, p.dummy = some e → t.place[SetTable.below t.place e]? ≠ some e) →
    SetTable.probe.go t hashAt hh fuel p = some (.empty j d) → t.place[SetTable.below t.place (d.getD j)]? ≠ some (d.getD j) := by
  intro fuel
  induction fuel with
  | zero => intro p j d _ h; unfold SetTable.probe.go at h; cases h
  | succ n ih =>
    intro p j d hp h
    unfold SetTable.probe.go at h
    cases hs : t.slot p.j with
    | empty =>
      rw [hs] at h
      dsimp only at h
      have h := Option.some.inj h
      injection h with h1 h2
      subst h1 h2
      cases hd : p.dummy with
      | none => exact slot_not (j := p.j) fun i e => by rw [hs] at e; cases e
      | some e => exact hp e hd
    | dummy =>
      rw [hs] at h
      dsimp only at h
      refine ih _ j d (fun e he => ?_) h
      rw [adv_dummy] at he
      cases he
      exact slot_not fun i e => by rw [hs] at e; cases e
    | live i =>
      rw [hs] at h
      dsimp only at h
      split at h
      · cases h
      · exact ih _ j d (fun e he => hp e (by rw [adv_dummy] at he; exact he)) h
theorem free_not {t : SetTable} {hh : Int} {j : Nat} {b : Bool} (h : t.freeSlot hh = some (j, b)) : t.place[SetTable.below t.place j]? ≠ some j := by
  unfold SetTable.freeSlot at h
  split at h
  · rename_i j' d hp
    have h := Option.some.inj h
    have e : d.getD j' = j := congrArg Prod.fst h
    rw [← e]
    unfold SetTable.probe at hp
    refine probe_empty t _ _ _ _ j' d (fun e he => ?_) hp
    unfold SetTable.probeStart at he
    cases he
  · cases h
def FlN (t : SetTable) : Prop := t.plain = false ∨ Ris t.place
theorem lay_fl {t : SetTable} (h : FlN t) (es : Array (Int × Value)) (hh : Int) (x : Value) : FlN (layNew t es hh x).2.1 := by
  unfold layNew
  split
  · rename_i slot wd hs
    dsimp only
    unfold SetTable.orStandIn
    split
    · rcases h with h | h
      · exact .inl h
      · exact .inr (ris_insert h (free_not hs))
    · exact .inl rfl
  · exact .inl rfl
theorem live_ris (owner : Array (Option Nat)) (m : Nat) : Ris ((((List.range (m + 1)).filterMap fun j => (owner.getD j none).map fun x => (j, x)).map (·.1)).toArray) := by
  unfold Ris
  rw [List.toList_toArray]
  rw [List.pairwise_map]
  refine List.Pairwise.filterMap _ (fun a a' haa b hb b' hb' => ?_) (List.pairwise_lt_range (n := m + 1))
  cases h1 : owner.getD a none with
  | none => rw [h1] at hb; cases hb
  | some y =>
    cases h2 : owner.getD a' none with
    | none => rw [h2] at hb'; cases hb'
    | some y' =>
      rw [h1] at hb
      rw [h2] at hb'
      cases hb
      cases hb'
      exact haa
theorem relaid_ris {t t' : SetTable} {hs : Array Int} {n : Nat} {o : Array Nat} (h : t.relaid hs n = some (t', o)) : Ris t'.place := by
  unfold SetTable.relaid SetTable.laid at h
  cases hc : SetTable.layClean (SetTable.sizeAbove n - 1) hs with
  | none => rw [hc] at h; cases h
  | some ow =>
    rw [hc] at h
    have h := Option.some.inj h
    have e := congrArg Prod.fst h
    dsimp only at e
    rw [← e]
    exact live_ris ow _
theorem relay_fl {t : SetTable} (h : FlN t) (es : Array (Int × Value)) (n : Nat) : FlN (relayAll t es n).2.1 := by
  unfold relayAll
  split
  · rename_i t' o hr
    dsimp only
    split
    · exact .inr (relaid_ris hr)
    · exact .inl rfl
  · exact .inl rfl
end L2
set_option Elab.async false
set_option linter.all false
set_option maxRecDepth 100000
namespace L2
open PySem PyProof.Rows
def nuv : Value → Option Int
  | .int z _ => some z
  | _ => none
def nus (l : List (Int × Value)) : List Int := l.filterMap fun e => nuv e.2
section
variable {prog : Program} {w : World} {A : Around} {E : Value → Shared → Prop} {s : Shared}
def NuSet (prog : Program) (w : World) (h : Heap) (a : Addr) (zs : List Int) : Prop :=
  ∃ o es ep t, h.get? a = some o ∧ o.ExactSet ∧ o.data = .set es ep t ∧ ElemsOf (intKind prog w) es.toList ∧ zs = nus es.toList ∧ zs.Nodup ∧ es.size < scanBound ∧ t.fits es.size = true ∧
    (byTx w = true ∨ t.led = true ∧ FlN t)
theorem int_is {k : Int} {v : Value} (h : (intKind prog w).is k v = true) : ∃ t, v = .int k t := Value.isInt_shape h
theorem is_int (k : Int) (t : Tok) : (intKind prog w).is k (.int k t) = true := by simp [PySem.intKind, Value.isInt]
theorem mem_nus {l : List (Int × Value)} (he : ElemsOf (intKind prog w) l) (k : Int) : k ∈ nus l ↔ ∃ e ∈ l, (intKind prog w).is k e.2 = true := by
  unfold nus
  rw [List.mem_filterMap]
  constructor
  · rintro ⟨e, h1, h2⟩
    obtain ⟨⟨k', hk, _⟩, _⟩ := he e h1
    obtain ⟨t, ht⟩ := int_is hk
    rw [ht] at h2
    cases h2
    exact ⟨e, h1, hk⟩
  · rintro ⟨e, h1, h2⟩
    obtain ⟨t, ht⟩ := int_is h2
    exact ⟨e, h1, by rw [ht]; rfl⟩
theorem nus_length {l : List (Int × Value)} (he : ElemsOf (intKind prog w) l) : (nus l).length = l.length := by
  induction l with
  | nil => rfl
  | cons e l ih =>
    obtain ⟨⟨k, hk, _⟩, _⟩ := he.head
    obtain ⟨t, ht⟩ := int_is hk
    have : nus (e :: l) = k :: nus l := by
      unfold nus
      rw [List.filterMap_cons_some (b := k) (by rw [ht]; rfl)]
    rw [this, List.length_cons, List.length_cons, ih he.tail]
theorem nus_get {l : List (Int × Value)} (he : ElemsOf (intKind prog w) l) {i : Nat} {e : Int × Value} (h : l[i]? = some e) : ∃ z t, e.2 = .int z t ∧ (nus l)[i]? = some z := by
  induction l generalizing i with
  | nil => cases h
  | cons e' l ih =>
    obtain ⟨⟨k, hk, _⟩, _⟩ := he.head
    obtain ⟨t, ht⟩ := int_is hk
    have : nus (e' :: l) = k :: nus l := by
      unfold nus
      rw [List.filterMap_cons_some (b := k) (by rw [ht]; rfl)]
    rw [this]
    cases i with
    | zero => cases h; exact ⟨k, t, ht, rfl⟩
    | succ i => exact ih he.tail h
theorem nu_fresh (led : Bool) (hl : byTx w = true ∨ led = true) {h : Heap} {a : Addr} (ho : h.get? a = some { cls := .type "set", dict := none, data := .set #[] 0 (.fresh 0 0 led) }) : NuSet prog w h a [] :=
  ⟨_, #[], 0, .fresh 0 0 led, ho, ⟨rfl, rfl, rfl⟩, rfl, fun e he => by simp at he, rfl, List.Pairwise.nil, by decide, by rfl, hl.elim .inl fun h => .inr ⟨h, .inr List.Pairwise.nil⟩⟩
theorem NuSet.kept {h h' : Heap} {a : Addr} {zs : List Int} (hS : NuSet prog w h a zs) (k : ∀ o, h.get? a = some o → h'.get? a = some o) : NuSet prog w h' a zs := by
  obtain ⟨o, es, ep, t, ho, r⟩ := hS
  exact ⟨o, es, ep, t, k _ ho, r⟩
theorem nu_stored {h : Heap} {a : Addr} {o : Obj} {es es' : Array (Int × Value)} {ep : Nat} {t t' : SetTable} (ho : h.get? a = some o) (hx : o.ExactSet) (hd : o.data = .set es ep t)
    (he : ElemsOf (intKind prog w) es'.toList) (hn : (nus es'.toList).Nodup) (hb : es'.size < scanBound) (hf : t'.fits es'.size = true) (hfl : byTx w = true ∨ t'.led = true ∧ FlN t') :
    (h.update a (Obj.putSet es' t')).get? a = some { o with data := .set es' (ep + 1) t' } ∧ NuSet prog w (h.update a (Obj.putSet es' t')) a (nus es'.toList) := by
  have hg : (h.update a (Obj.putSet es' t')).get? a = some { o with data := .set es' (ep + 1) t' } := by
    have q := Heap.get?_update_self (Obj.putSet es' t') ho (by rw [putSet_of es' t' hd]; rfl)
    rw [putSet_of es' t' hd] at q
    exact q
  exact ⟨hg, _, es', ep + 1, t', hg, hx, rfl, he, rfl, hn, hb, hf, hfl⟩
theorem nu_tail {g : Bool → Sem Unit} (hg : ∀ (b : Bool) (s₁ : Shared) (Q' : Unit → Shared → Prop), Q' () s₁ → wpAny (model prog w) A (g b) Q' E s₁)
    {a : Addr} {o : Obj} {es es1 : Array (Int × Value)} {ep : Nat} {t t2 : SetTable} {wd : Bool} {R : Option Bool → Shared → Prop}
    (ho : s.heap.get? a = some o) (hx : o.ExactSet) (hd : o.data = .set es ep t) (he1 : ElemsOf (intKind prog w) es1.toList) (hn1 : (nus es1.toList).Nodup) (hb1 : es1.size < scanBound)
    (hf2 : t2.fits es1.size = true) (hfl2 : byTx w = true ∨ t2.led = true ∧ FlN t2)
    (h : ∀ h' zs', Heap.SameBut a s.heap h' → NuSet prog w h' a zs' → zs'.Perm (nus es1.toList) → R (some true) { s with heap := h' }) :
    wpAny (model prog w) A (storeSet a es1 t2 >>= fun _ =>
      if (!wd && t2.tooFull) = true then
        g (relayAll t2 es1 (SetTable.grown es1.size)).2.2 >>= fun _ =>
          storeSet a (relayAll t2 es1 (SetTable.grown es1.size)).1 (relayAll t2 es1 (SetTable.grown es1.size)).2.1 >>= fun _ => pure (some true)
      else pure (some true)) R E s := by
  refine wpAny_bind (wpAny_storeSet_of ho hd ?_ (fits_of_scanBound hb1))
  obtain ⟨ho1, hS1⟩ := nu_stored (prog := prog) (w := w) ho hx hd he1 hn1 hb1 hf2 hfl2
  have sb1 := Heap.SameBut.update s.heap a (Obj.putSet es1 t2)
  split
  · have hp2 := relayAll_perm t2 es1 (SetTable.grown es1.size)
    have hf3 := relayAll_fits t2 es1 (SetTable.grown es1.size)
    have hl3 := relay_led t2 es1 (SetTable.grown es1.size)
    have hl4 := fun hx : FlN t2 => relay_fl hx es1 (SetTable.grown es1.size)
    generalize relayAll t2 es1 (SetTable.grown es1.size) = L2 at hp2 hf3 hl3 hl4 ⊢
    obtain ⟨es2, t3, g2⟩ := L2
    dsimp only at hp2 hf3 hl3 hl4 ⊢
    have hsz2 : es2.size = es1.size := by rw [← Array.length_toList, hp2.length_eq, Array.length_toList]
    have hzp2 : (nus es2.toList).Perm (nus es1.toList) := hp2.filterMap _
    refine wpAny_bind (hg _ _ _ ?_)
    refine wpAny_bind (wpAny_storeSet_of ho1 rfl ?_ (fits_of_scanBound (by omega)))
    obtain ⟨_, hS2⟩ := nu_stored (prog := prog) (w := w) ho1 hx rfl (he1.perm hp2) (hzp2.nodup_iff.mpr hn1) (by omega) hf3 (hfl2.imp id fun y => ⟨hl3.trans y.1, hl4 y.2⟩)
    exact wpAny_pure (h _ _ (sb1.trans (Heap.SameBut.update _ a _)) hS2 hzp2)
  · exact wpAny_pure (h _ _ sb1 hS1 (List.Perm.refl _))
theorem nu_add {a : Addr} {zs : List Int} {k : Int} {tk : Tok} {Q : Bool → Shared → Prop} (hS : NuSet prog w s.heap a zs) (room : zs.length + 1 < scanBound)
    (h : ∀ h' zs', Heap.SameBut a s.heap h' → NuSet prog w h' a zs' → zs'.length ≤ zs.length + 1 → (∀ z, z ∈ zs' ↔ z ∈ zs ∨ z = k) → ∀ b, Q b { s with heap := h' }) :
    wpAny (model prog w) A (setAddHashed a (.int k tk) ((intKind prog w).hash k)) Q E s := by
  obtain ⟨o, es, ep, t, ho, hx, hd, he, hz, hn, hb, hf, hfl⟩ := hS
  have hlen : zs.length = es.size := by rw [hz, nus_length he, Array.length_toList]
  have hkey : (intKind prog w).is k (.int k tk) = true := is_int k tk
  unfold setAddHashed setAddHashedIn
  refine wpAny_holding (wpAny_bind (wpAny_setState_of ho hd hf ?_))
  dsimp only
  rw [byScan_of rfl hb he]
  simp only [↓reduceIte]
  unfold setAddByScan
  refine wpAny_bind (wpAny_bind (wpAny_rule (wpAny_bind (wpAny_setScan_of hkey ho hd hf he ?_))))
  cases hr : List.findIdx? (fun e => (intKind prog w).is k e.2) es.toList with
  | some j =>
    dsimp only
    obtain ⟨hj, hpj, _⟩ := List.findIdx?_eq_some_iff_getElem.mp hr
    have hk : k ∈ zs := by rw [hz, mem_nus he]; exact ⟨_, List.getElem_mem hj, hpj⟩
    refine wpAny_pure (wpAny_pure ?_)
    have q := h s.heap zs (Heap.SameBut.refl a s.heap) ⟨o, es, ep, t, ho, hx, hd, he, hz, hn, hb, hf, hfl⟩ (Nat.le_succ _) (fun z => ⟨.inl, fun y => y.elim id fun y => y ▸ hk⟩) false
    cases s
    exact q
  | none =>
    dsimp only
    have hk : k ∉ zs := by
      rw [hz, mem_nus he]
      rintro ⟨e, h1, h2⟩
      have := List.findIdx?_eq_none_iff.mp hr e h1
      rw [h2] at this
      cases this
    have hp := layNew_perm t es ((intKind prog w).hash k) (.int k tk)
    have hfi := layNew_fits t es ((intKind prog w).hash k) (.int k tk)
    have hl1 := lay_led t es ((intKind prog w).hash k) (.int k tk)
    have hl2 := fun hx : FlN t => lay_fl hx es ((intKind prog w).hash k) (.int k tk)
    generalize layNew t es ((intKind prog w).hash k) (.int k tk) = L at hp hfi hl1 hl2 ⊢
    obtain ⟨es1, t1, wd, gv⟩ := L
    dsimp only at hp hfi hl1 hl2 ⊢
    rw [Array.toList_push] at hp
    have he1 : ElemsOf (intKind prog w) es1.toList := (he.push hkey rfl).perm hp
    have hsz : es1.size = es.size + 1 := by rw [← Array.length_toList, hp.length_eq, List.length_append, Array.length_toList]; rfl
    have hzp : (nus es1.toList).Perm (zs ++ [k]) := by
      have := hp.filterMap (fun e : Int × Value => nuv e.2)
      rw [List.filterMap_append] at this
      rw [hz]
      exact this
    have hn1 : (nus es1.toList).Nodup := by
      refine hzp.nodup_iff.mpr (List.nodup_append.mpr ⟨hn, by simp, fun a ha b hb => ?_⟩)
      rw [List.mem_singleton] at hb
      rintro rfl
      exact hk (hb ▸ ha)
    have hm1 : ∀ z, z ∈ nus es1.toList ↔ z ∈ zs ∨ z = k := fun z => by rw [hzp.mem_iff, List.mem_append, List.mem_singleton]
    have hle1 : (nus es1.toList).length ≤ zs.length + 1 := by rw [hzp.length_eq, List.length_append]; exact Nat.le_refl _
    have hb1 : es1.size < scanBound := by omega
    have hgw : ∀ (b : Bool) {s₁ : Shared} {Q' : Unit → Shared → Prop}, Q' () s₁ → wpAny (model prog w) A (match b with | true => rule "set.scan.the-table-gave-way" | false => pure ()) Q' E s₁ :=
      fun b s₁ Q' hq => by cases b <;> first | exact wpAny_pure hq | exact wpAny_rule hq
    refine wpAny_bind (hgw _ ?_)
    have fin : ∀ h' zs', Heap.SameBut a s.heap h' → NuSet prog w h' a zs' → zs'.Perm (nus es1.toList) → ∀ b, Q b { s with heap := h' } := fun h' zs' sb hS hp2 =>
      h h' zs' sb hS (by rw [hp2.length_eq]; exact hle1) fun z => by rw [hp2.mem_iff]; exact hm1 z
    have hq : ∀ (b : Bool) (s₁ : Shared) (Q' : Unit → Shared → Prop), Q' () s₁ → wpAny (model prog w) A (match b with | true => rule "set.scan.the-table-gave-way" | false => pure ()) Q' E s₁ := fun b s₁ Q' hq => hgw b hq
    split
    · refine wpAny_bind ?_
      rw [hashByValue_scannable 8 (x := Value.int k tk) rfl]
      refine wpAny_pure ?_
      refine nu_tail hq ho hx hd he1 hn1 hb1 hfi ?_ fun h' zs' sb hS hp2 => wpAny_pure (fin h' zs' sb hS hp2 _)
      exact hfl.imp id fun y => ⟨hl1.trans y.1, hl2 y.2⟩
    · rename_i hpl
      refine wpAny_bind (wpAny_pure ?_)
      simp only [↓reduceIte]
      refine nu_tail hq ho hx hd he1 hn1 hb1 hfi ?_ fun h' zs' sb hS hp2 => wpAny_pure (fin h' zs' sb hS hp2 _)
      exact hfl.imp id fun y => ⟨hl1.trans y.1, hl2 y.2⟩
def ModeN (w : World) (a T : Addr) (es : Array (Int × Value)) (ep : Nat) (t : SetTable) (ord : List Int) (h : Heap) (i : Nat) (fst : Value) : Prop :=
  (byTx w = true ∧ fst = .int 0 0 ∧ ord = nus (pickOrder (w.params.setOrder a ep) es).toList) ∨
  (byTx w = false ∧ (!t.plain && decide (es.size > 1)) = false ∧ Ris t.place ∧ t.led = true ∧ ord = nus es.toList ∧ fst = .int (turnSlot t.place i : Nat) 0) ∨
  (byTx w = false ∧ ∃ pl : List Nat, h.get? T = some { cls := .type "tuple", data := .seq (pl.map fun i : Nat => rawInt i).toArray } ∧ pl.Perm (List.range es.size) ∧ fst = .ref T ∧
    ord.map some = pl.map fun j => (nus es.toList)[j]?)
theorem iter_nu {a : Addr} {zs : List Int} {Q : Value → Shared → Prop} (hS : NuSet prog w s.heap a zs)
    (h : ∀ (h' : Heap) d o es ep t I T fst ord, (∀ b o, s.heap.get? b = some o → h'.get? b = some o) → s.heap.objs.size ≤ I → (T = a ∨ s.heap.objs.size ≤ T ∧ T ≠ I) → I ≠ a → h'.get? a = some o → o.data = .set es ep t → t.fits es.size = true → ElemsOf (intKind prog w) es.toList → es.size = zs.length → SetIt h' I a fst 0 es.size ep → ModeN w a T es ep t ord h' 0 fst → ord.Perm zs →
      Q (.ref I) { s with heap := h', drawn := d }) :
    wpAny (model prog w) A (pyIter (.ref a)) Q E s := by
  obtain ⟨o, es, ep, t, ho, hx, hd, he, hz, hn, hb, hf, hfl⟩ := hS
  have hlen : zs.length = es.size := by rw [hz, nus_length he, Array.length_toList]
  have hT : s.TypeIs (.ref a) "set" := ⟨o, ho, hx.1⟩
  have halt : a < s.heap.objs.size := Heap.lt_size ho
  refine wpAny_pyIter_slot hT F.slot_set_iter (wpAny_call_entry F.slot_set_iter hT entry_setiter ?_ (F.args_set_iter_1 _))
  unfold Builtin.«frozenset.__iter__»
  refine wpAny_bind (m := Builtin.Frozenset.slot0 _ _) (wpAny_pure ?_)
  refine wpAny_bind (wp_sizeOf ho hd hf ?_)
  refine wpAny_bind (wp_setDrawn ho hd hf ?_)
  have fin : ∀ (h1 : Heap) d (T : Addr) (fst : Value) (ord : List Int), (∀ b o, s.heap.get? b = some o → h1.get? b = some o) → (T = a ∨ s.heap.objs.size ≤ T ∧ T < h1.objs.size) →
      s.heap.objs.size ≤ h1.objs.size → ModeN w a T es ep t ord (h1.push { cls := .type "set_iterator", data := .fields #[fst, .int 0 0, .ref a, .int es.size 0, .int ep 0] }) 0 fst → ord.Perm zs →
      Q (.ref h1.objs.size) { s with heap := h1.push { cls := .type "set_iterator", data := .fields #[fst, .int 0 0, .ref a, .int es.size 0, .int ep 0] }, drawn := d } := by
    intro h1 d T fst ord k1 hT1 hle hm hp
    refine h _ d o es ep t _ T fst ord (fun b o q => Heap.get?_push_of_some _ (k1 b o q)) hle ?_ (Nat.ne_of_gt (Nat.lt_of_lt_of_le halt hle)) (Heap.get?_push_of_some _ (k1 _ _ ho)) hd hf he hlen.symm (Heap.get?_push_size _ rfl) hm hp
    rcases hT1 with e | ⟨e1, e2⟩
    · exact .inl e
    · exact .inr ⟨e1, Nat.ne_of_lt e2⟩
  cases hB : byTx w with
  | true =>
    simp only [Bool.not_true, Bool.false_and, Bool.false_eq_true, if_false]
    refine wpAny_bind (wpAny_pure ?_)
    refine wpAny_bind (wpAny_setEpoch_of ho hd hf ?_)
    refine wpAny_bind (m := newFields _ _) (wpAny_newObj_type ?_)
    refine wpAny_pure ⟨_, rfl, "set_iterator", _, ⟨_, Heap.get?_push_size _ rfl, rfl⟩, slot_setit.lookup, ?_⟩
    have q := fin s.heap s.drawn a (.int 0 0) _ (fun _ _ q => q) (.inl rfl) (Nat.le_refl _) (.inl ⟨hB, rfl, rfl⟩) (by rw [hz]; exact (pick_perm _ _).filterMap _)
    cases s
    exact q
  | false =>
    have hfl : t.led = true ∧ FlN t := hfl.resolve_left (by rw [hB]; exact Bool.false_ne_true)
    by_cases h1 : (!t.plain && decide (es.size > 1)) = true
    · rw [h1]
      simp only [Bool.not_false, Bool.true_and, if_true]
      refine wpAny_bind (draw_perm es.size (List.range es.size) List.length_range fun ys d hpy => ?_)
      have hyl : ys.length = es.size := by rw [hpy.length_eq, List.length_range]
      refine wpAny_bind (wpAny_newTuple ?_ (by rw [List.length_map, hyl]; exact fits_of_scanBound hb))
      have hoT : (s.heap.push { cls := .type "tuple", data := .seq (ys.map fun i : Nat => rawInt i).toArray }).get? a = some o := Heap.get?_push_of_some _ ho
      refine wpAny_bind (wpAny_setEpoch_of (s := { s with heap := s.heap.push { cls := .type "tuple", data := .seq (ys.map fun i : Nat => rawInt i).toArray }, drawn := d }) hoT hd hf ?_)
      refine wpAny_bind (m := newFields _ _) (wpAny_newObj_type ?_)
      refine wpAny_pure ⟨_, rfl, "set_iterator", _, ⟨_, Heap.get?_push_size _ rfl, rfl⟩, slot_setit.lookup, ?_⟩
      have hord : ∃ ord : List Int, (ord.map some = ys.map fun j => (nus es.toList)[j]?) ∧ ord.Perm zs := by
        refine ⟨ys.filterMap fun j => (nus es.toList)[j]?, ?_, ?_⟩
        · have : ∀ (l : List Nat), (∀ j ∈ l, j < es.size) → (l.filterMap fun j => (nus es.toList)[j]?).map some = l.map fun j => (nus es.toList)[j]? := by
            intro l
            induction l with
            | nil => intro _; rfl
            | cons j l ih =>
              intro hl
              have hj : j < (nus es.toList).length := by rw [← hz, hlen]; exact hl j List.mem_cons_self
              rw [List.filterMap_cons_some (b := (nus es.toList)[j]) (List.getElem?_eq_getElem hj), List.map_cons, List.map_cons, ih fun i hi => hl i (List.mem_cons_of_mem _ hi), List.getElem?_eq_getElem hj]
          exact this ys fun j hj => by simpa using hpy.mem_iff.mp hj
        · refine (hpy.filterMap _).trans ?_
          rw [← hlen, hz, List.filterMap_getElem?_range_length]
      obtain ⟨ord, ho1, ho2⟩ := hord
      exact fin (s.heap.push { cls := .type "tuple", data := .seq (ys.map fun i : Nat => rawInt i).toArray }) d s.heap.objs.size (.ref s.heap.objs.size) ord (fun b o q => Heap.get?_push_of_some _ q) (.inr ⟨Nat.le_refl _, by rw [Heap.size_push]; exact Nat.lt_succ_self _⟩) (by rw [Heap.size_push]; exact Nat.le_succ _)
        (.inr (.inr ⟨hB, ys, Heap.get?_push_of_some _ (Heap.get?_push_size _ rfl), hpy, rfl, ho1⟩)) ho2
    · have h1 := Bool.eq_false_iff.mpr h1
      rw [h1]
      simp only [Bool.and_false, Bool.false_eq_true, if_false]
      have hris : Ris t.place := by
        rcases hfl.2 with hp | hp
        · have hz : ¬ es.size > 1 := fun z => by rw [hp, decide_eq_true z] at h1; cases h1
          have hps := fits_size hf
          unfold Ris
          refine List.pairwise_iff_getElem.mpr fun i j hi hj hij => ?_
          rw [Array.length_toList] at hj
          omega
        · exact hp
      refine wpAny_bind (wpAny_pure ?_)
      refine wpAny_bind (wpAny_setEpoch_of ho hd hf ?_)
      refine wpAny_bind (m := newFields _ _) (wpAny_newObj_type ?_)
      refine wpAny_pure ⟨_, rfl, "set_iterator", _, ⟨_, Heap.get?_push_size _ rfl, rfl⟩, slot_setit.lookup, ?_⟩
      have q := fin s.heap s.drawn a (.int 0 0) zs (fun _ _ q => q) (.inl rfl) (Nat.le_refl _) (.inr (.inl ⟨hB, h1, hris, hfl.1, hz, rfl⟩)) (List.Perm.refl _)
      cases s
      exact q
theorem ord_lenN {a T : Addr} {es : Array (Int × Value)} {ep : Nat} {t : SetTable} {ord : List Int} {h : Heap} {i : Nat} {fst : Value} (he : ElemsOf (intKind prog w) es.toList) (hm : ModeN w a T es ep t ord h i fst) : ord.length = es.size := by
  rcases hm with ⟨_, _, e⟩ | ⟨_, _, _, _, e, _⟩ | ⟨_, pl, _, hp, _, e⟩
  · rw [e, nus_length (he.perm (pick_perm _ _)), (pick_perm _ _).length_eq, Array.length_toList]
  · rw [e, nus_length he, Array.length_toList]
  · have := congrArg List.length e
    rw [List.length_map, List.length_map, hp.length_eq, List.length_range] at this
    exact this
theorem next_plN {a : Addr} {o : Obj} {es : Array (Int × Value)} {ep slot g : Nat} {t : SetTable} {Q : Option (Value × Nat) → Shared → Prop} (ho : s.heap.get? a = some o) (hd : o.data = .set es ep t) (hf : t.fits es.size = true) (hB : byTx w = false)
    (hs : (!t.plain && decide (es.size > 1)) = false) (hl : t.led = true)
    (h : Q (match es[SetTable.below t.place slot]?, t.place[SetTable.below t.place slot]? with | some (_, x), some j => some (x, j + 1) | _, _ => none) s) : wpAny (model prog w) A (setNext a slot g ep) Q E s := by
  have hB' : w.params.followText "set-order" = false := hB
  unfold setNext
  refine wpAny_bind (wpAny_setState_of ho hd hf ?_)
  dsimp only
  unfold setsByText
  refine wpAny_bind (wpAny_bind (wpAny_askSetting (wpAny_pure ?_)))
  show wpAny _ _ (if w.params.followText "set-order" = true then _ else _) _ _ _
  rw [hB', if_neg Bool.false_ne_true]
  show wpAny _ _ (if (!t.plain && decide (es.size > 1)) = true then _ else _) _ _ _
  rw [hs, if_neg Bool.false_ne_true]
  refine wpAny_bind (show wpAny _ _ (if (!t.led && !es.isEmpty) = true then _ else _) _ _ _ from ?_)
  rw [hl, if_neg (by simp)]
  exact wpAny_pure (wpAny_pure h)
theorem next_nu {a I T : Addr} {o : Obj} {es : Array (Int × Value)} {ep : Nat} {t : SetTable} {ord : List Int} {fst : Value} {i : Nat} {z : Int} {Q : Option Value → Shared → Prop}
    (ho : s.heap.get? a = some o) (hd : o.data = .set es ep t) (hf : t.fits es.size = true) (he : ElemsOf (intKind prog w) es.toList) (hit : SetIt s.heap I a fst i es.size ep) (hm : ModeN w a T es ep t ord s.heap i fst)
    (hz : ord[i]? = some z) (hTI : T ≠ I) (haI : a ≠ I)
    (h : ∀ h' fst' tk, (∀ b o, b ≠ I → s.heap.get? b = some o → h'.get? b = some o) → SetIt h' I a fst' (i + 1) es.size ep → ModeN w a T es ep t ord h' (i + 1) fst' → Q (some (.int z tk)) { s with heap := h' }) :
    wpAny (model prog w) A (pyNext (.ref I)) Q E s := by
  have hol := ord_lenN he hm
  have hi : i < es.size := by rw [← hol]; exact (List.getElem?_eq_some_iff.mp hz).1
  have hT : s.TypeIs (.ref I) "set_iterator" := ⟨_, hit, rfl⟩
  unfold pyNext
  refine wpAny_bind (wpAny_attempt (wpAny_callSpecial?_slot (name := Str.ofString "__next__") hT slot_setit (wpAny_call_entry slot_setit hT entry_setit ?_ (args_setit _))))
  unfold Builtin.«set_iterator.__next__»
  refine wpAny_bind (m := slotArgs _ _ _) (wpAny_pure ?_)
  refine wpAny_bind (wpAny_fieldsOf hit rfl ?_)
  dsimp only
  unfold setEntries
  refine wpAny_bind (wpAny_bind (wpAny_setState_of ho hd hf (wpAny_pure ?_)))
  rw [if_neg (by simp)]
  refine wpAny_bind (wpAny_pure ?_)
  have two : ∀ (E' : Value → Shared → Prop) (nx : Nat) (v : Value) (hm' : ∀ h' : Heap, (∀ b o, b ≠ I → s.heap.get? b = some o → h'.get? b = some o) → ModeN w a T es ep t ord h' (i + 1) (.int nx 0)), (∃ tk, v = .int z tk) →
      wpAny (model prog w) A.in1 (do setField (.ref I) 0 (rawInt nx); setField (.ref I) 1 (rawInt ((i : Int) + 1)); ret v)
        (fun fin s' => ∃ v, fin = Fin.done (Flow.ret v) ∧ wpAny (model prog w) A (pure (some v)) Q E s') E' s := by
    rintro E' nx v hm' ⟨tk, rfl⟩
    refine wpAny_bind (wpAny_setField_rec hit (by simp) fun h1 e1 sb1 => ?_)
    refine wpAny_bind (wpAny_setField_rec (s := { s with heap := h1 }) e1 (by simp) fun h2 e2 sb2 => ?_)
    have k : ∀ b o, b ≠ I → s.heap.get? b = some o → h2.get? b = some o := fun b o hb q => sb2.extBut b o hb (sb1.extBut b o hb q)
    exact wpAny_pure ⟨_, rfl, wpAny_pure (h h2 (.int nx 0) tk k (by simpa [SetIt, rawInt] using e2) (hm' h2 k))⟩
  rcases hm with ⟨hB, rfl, rfl⟩ | ⟨hB, h1, hris, hl, rfl, rfl⟩ | ⟨hB, pl, hoT, hp, rfl, hor⟩
  · dsimp only
    refine wpAny_bind (next_by ho hd hf hB ?_)
    simp only [Int.toNat_natCast]
    have hsz : (pickOrder (w.params.setOrder a ep) es).size = es.size := by rw [← Array.length_toList, (pick_perm _ _).length_eq, Array.length_toList]
    have hel := Array.getElem?_eq_getElem (xs := pickOrder (w.params.setOrder a ep) es) (i := i) (by omega)
    obtain ⟨z', tk, e1, e2⟩ := nus_get (he.perm (pick_perm (w.params.setOrder a ep) es)) (by rw [Array.getElem?_toList]; exact hel)
    rw [hz] at e2
    cases e2
    rw [hel]
    dsimp only [Option.map]
    exact two _ 0 _ (fun h' _ => .inl ⟨hB, rfl, rfl⟩) ⟨tk, e1⟩
  · dsimp only
    refine wpAny_bind (next_plN ho hd hf hB h1 hl ?_)
    have hps : t.place.size = es.size := fits_size hf
    rw [Int.toNat_natCast, below_turn hris (i := i) (by omega)]
    have hel := Array.getElem?_eq_getElem (xs := es) (i := i) hi
    have hpe := Array.getElem?_eq_getElem (xs := t.place) (i := i) (by omega)
    obtain ⟨z', tk, e1, e2⟩ := nus_get he (by rw [Array.getElem?_toList]; exact hel)
    rw [hz] at e2
    cases e2
    rw [hel, hpe]
    dsimp only
    refine two _ (t.place[i] + 1) _ (fun h' _ => .inr (.inl ⟨hB, h1, hris, hl, rfl, ?_⟩)) ⟨tk, e1⟩
    have hpi : i < t.place.size := by omega
    simp [turnSlot, Array.getD, hpi]
  · dsimp only
    have hpl : i < pl.length := by rw [hp.length_eq, List.length_range]; exact hi
    have hpi : pl[i] < es.size := by simpa using hp.mem_iff.mp (List.getElem_mem hpl)
    refine wpAny_bind (wpAny_seqItems hoT rfl ?_)
    dsimp only
    have hget : ((pl.map fun i : Nat => rawInt i).toArray)[(i : Int).toNat]? = some (.int (pl[i] : Nat) 0) := by
      rw [Int.toNat_natCast, List.getElem?_toArray, List.getElem?_map, List.getElem?_eq_getElem hpl]
      rfl
    rw [hget]
    dsimp only
    unfold setNextDrawn
    refine wpAny_bind (wpAny_bind (wpAny_setState_of ho hd hf ?_))
    dsimp only
    rw [if_neg (by simp)]
    have hel := Array.getElem?_eq_getElem (xs := es) (i := pl[i]) hpi
    obtain ⟨z', tk, e1, e2⟩ := nus_get he (by rw [Array.getElem?_toList]; exact hel)
    have hzz : z' = z := by
      have : (ord.map some)[i]? = (pl.map fun j => (nus es.toList)[j]?)[i]? := by rw [hor]
      rw [List.getElem?_map, List.getElem?_map, hz, List.getElem?_eq_getElem hpl, Option.map_some, Option.map_some, e2] at this
      cases this
      rfl
    subst hzz
    rw [Int.toNat_natCast, hel]
    dsimp only
    refine wpAny_pure ?_
    refine wpAny_bind (wpAny_setField_rec hit (by simp) fun h1 ee sb1 => ?_)
    have k : ∀ b o, b ≠ I → s.heap.get? b = some o → h1.get? b = some o := fun b o hb q => sb1.extBut b o hb q
    rw [e1]
    exact wpAny_pure ⟨_, rfl, wpAny_pure (h h1 (.ref T) tk k (by simpa [SetIt, rawInt] using ee) (.inr (.inr ⟨hB, pl, k _ _ hTI hoT, hp, rfl, hor⟩)))⟩
theorem end_nu {a I T : Addr} {o : Obj} {es : Array (Int × Value)} {ep : Nat} {t : SetTable} {ord : List Int} {fst : Value} {Q : Option Value → Shared → Prop} (hh : A.handled = none)
    (ho : s.heap.get? a = some o) (hd : o.data = .set es ep t) (hf : t.fits es.size = true) (he : ElemsOf (intKind prog w) es.toList) (hit : SetIt s.heap I a fst es.size es.size ep) (hm : ModeN w a T es ep t ord s.heap es.size fst)
    (h : ∀ h', (∀ b o, b ≠ I → s.heap.get? b = some o → h'.get? b = some o) → Q none { s with heap := h' }) :
    wpAny (model prog w) A (pyNext (.ref I)) Q E s := by
  have hT : s.TypeIs (.ref I) "set_iterator" := ⟨_, hit, rfl⟩
  unfold pyNext
  refine wpAny_bind (wpAny_attempt (wpAny_callSpecial?_slot (name := Str.ofString "__next__") hT slot_setit (wpAny_call_entry slot_setit hT entry_setit ?_ (args_setit _))))
  unfold Builtin.«set_iterator.__next__»
  refine wpAny_bind (m := slotArgs _ _ _) (wpAny_pure ?_)
  refine wpAny_bind (wpAny_fieldsOf hit rfl ?_)
  dsimp only
  unfold setEntries
  refine wpAny_bind (wpAny_bind (wpAny_setState_of ho hd hf (wpAny_pure ?_)))
  rw [if_neg (by simp)]
  refine wpAny_bind (wpAny_pure ?_)
  have stop : ∀ (h1 : Heap), (∀ b o, b ≠ I → s.heap.get? b = some o → h1.get? b = some o) →
      wpAny (model prog w) A.in1 (newExc (.type "StopIteration") [] >>= fun e => (raiseNew e : Sem Fin)) (fun fin s' => ∃ v, fin = Fin.done (Flow.ret v) ∧ wpAny (model prog w) A (pure (some v)) Q E s')
        (fun e s' => wpAny (model prog w) A (do if ← isInstance e (Value.type "StopIteration") then pure none else throw e) Q E s') { s with heap := h1 } := by
    intro h1 k1
    refine wpAny_bind ?_
    simp only [newExc, newTuple]
    refine wpAny_bind (wpAny_newObj_type ?_ (by size_fits))
    refine wpAny_bind (m := firstArgMember _ _) (wpAny_of_eq (a := Value.none) (by first | rfl | (simp only [firstArgMember]; rfl)) ?_)
    refine wpAny_newObj_type ?_ (by size_fits)
    refine wpAny_raiseNew_none (A := A.in1) hh ?_
    refine wpAny_bind (wpAny_isInstance (T := "StopIteration") (b := true) ⟨_, Heap.get?_push_size _ rfl, rfl⟩ isSubtype_stop ?_)
    exact wpAny_pure (h _ fun b o hb q => Heap.get?_push_of_some _ (Heap.get?_push_of_some _ (k1 b o hb q)))
  rcases hm with ⟨hB, rfl, rfl⟩ | ⟨hB, h1, hris, hl, rfl, rfl⟩ | ⟨hB, pl, hoT, hp, rfl, hor⟩
  · dsimp only
    refine wpAny_bind (next_by ho hd hf hB ?_)
    have hsz : (pickOrder (w.params.setOrder a ep) es).size = es.size := by rw [← Array.length_toList, (pick_perm _ _).length_eq, Array.length_toList]
    simp only [Int.toNat_natCast]
    rw [Array.getElem?_eq_none (by omega)]
    dsimp only [Option.map]
    refine wpAny_bind (wpAny_setField_rec hit (by simp) fun h1 e1 sb1 => ?_)
    exact stop h1 fun b o hb q => sb1.extBut b o hb q
  · dsimp only
    refine wpAny_bind (next_plN ho hd hf hB h1 hl ?_)
    have hps := fits_size hf
    have hbl : SetTable.below t.place ((turnSlot t.place es.size : Nat) : Int).toNat = es.size := by
      rw [Int.toNat_natCast, below_turn hris (by omega)]
    rw [hbl, Array.getElem?_eq_none (Nat.le_refl _)]
    dsimp only
    refine wpAny_bind (wpAny_setField_rec hit (by simp) fun h1 e1 sb1 => ?_)
    exact stop h1 fun b o hb q => sb1.extBut b o hb q
  · dsimp only
    refine wpAny_bind (wpAny_seqItems hoT rfl ?_)
    dsimp only
    have hget : ((pl.map fun i : Nat => rawInt i).toArray)[(es.size : Int).toNat]? = none := by
      rw [Int.toNat_natCast, List.getElem?_toArray, List.getElem?_eq_none (by rw [List.length_map, hp.length_eq, List.length_range]; exact Nat.le_refl _)]
    rw [hget]
    dsimp only
    refine wpAny_bind (wpAny_setField_rec hit (by simp) fun h1 e1 sb1 => ?_)
    refine wpAny_bind (wpAny_setField_rec (s := { s with heap := h1 }) e1 (by simp) fun h2 e2 sb2 => ?_)
    exact stop h2 fun b o hb q => sb2.extBut b o hb (sb1.extBut b o hb q)
theorem walk_nu (hh : A.handled = none) {a I T : Addr} {o : Obj} {es : Array (Int × Value)} {ep : Nat} {t : SetTable} {ord : List Int} (hTI : T ≠ I) (haI : a ≠ I) (hd : o.data = .set es ep t) (hf : t.fits es.size = true) (he : ElemsOf (intKind prog w) es.toList) :
    Walks prog w A I [I, a, T] [I] es.size (fun i v => ∃ z tk, ord[i]? = some z ∧ v = .int z tk) (fun i h => h.get? a = some o ∧ ∃ fst, SetIt h I a fst i es.size ep ∧ ModeN w a T es ep t ord h i fst) where
  sub := fun b hb => by simp at hb; simp [hb]
  frame := fun i h h' st k => by
    obtain ⟨e1, fst, e2, e3⟩ := st
    refine ⟨k a (by simp) _ e1, fst, k I (by simp) _ e2, ?_⟩
    rcases e3 with m | m | ⟨hB, pl, hoT, r⟩
    · exact .inl m
    · exact .inr (.inl m)
    · exact .inr (.inr ⟨hB, pl, k T (by simp) _ hoT, r⟩)
  item := fun i s Q E hi st hQ => by
    obtain ⟨e1, fst, e2, e3⟩ := st
    have hl := ord_lenN he e3
    have hz := List.getElem?_eq_getElem (l := ord) (i := i) (by omega)
    refine next_nu e1 hd hf he e2 e3 hz hTI haI fun h' fst' tk k i2 m2 => ?_
    have := hQ (.int ord[i] tk) h' s.toks ⟨_, tk, hz, rfl⟩ ⟨k a o haI e1, fst', i2, m2⟩ fun b o hb q => k b o (by simpa using hb) q
    exact this
  done := fun s Q E st hQ => by
    obtain ⟨e1, fst, e2, e3⟩ := st
    exact end_nu hh e1 hd hf he e2 e3 fun h' k => hQ h' s.toks fun b o hb q => k b o (by simpa using hb) q
  self := fun i s Q E st hQ => by
    obtain ⟨e1, fst, e2, e3⟩ := st
    have hT : s.TypeIs (.ref I) "set_iterator" := ⟨_, e2, rfl⟩
    refine wpAny_pyIter_slot hT slot_setit2 (wpAny_call_entry slot_setit2 hT entry_setit2 ?_ (args_setit2 _))
    show wpAny _ _ (ret (.ref I)) _ _ s
    exact wpAny_pure ⟨_, rfl, "set_iterator", _, hT, slot_setit.lookup, hQ⟩
end
section
variable {prog : Program} {w : World} {A : Around} {R : Result → Shared → Prop} {I : Addr} {fp wr : List Addr} {G : Array GenState → Array GenState → Prop} {n : Nat} {P : Nat → Value → Prop} {St : Nat → Shared → Prop}
theorem nu_loop (W : WalksS prog w A.in1 I fp wr G n P St) (S : Addr) (hSf : S ∉ fp) (val : Nat → Int) (hval : ∀ i v, P i v → ∃ t, v = .int (val i) t) (hb : n + 1 < scanBound) :
    ∀ (k i : Nat) (s : Shared) (zs : List Int), n - i = k → i ≤ n → St i s → NuSet prog w s.heap S zs → zs.length ≤ i → (∀ z, z ∈ zs ↔ ∃ j, j < i ∧ val j = z) →
      (∀ s' zs', Moved (S :: wr) G s s' → NuSet prog w s'.heap S zs' → zs'.length ≤ n → (∀ z, z ∈ zs' ↔ ∃ j, j < n ∧ val j = z) → R (.ok (.ret .none)) s') →
      codeAny (model prog w) A (.builtin "set.update.loop" ⟨[.ref S, .ref I], []⟩) R s := by
  have hSw : S ∉ wr := fun q => hSf (W.sub _ q)
  have hsub : ∀ b ∈ wr, b ∈ S :: wr := fun b q => List.mem_cons_of_mem _ q
  intro k
  induction k with
  | zero =>
    intro i s zs hk hi hst hS hl hz hR
    have hin : i = n := by omega
    subst hin
    refine codeAny_builtin PyProof.Rows.F.entry_set_update_loop ?_
    rw [Around.under_plainId PyProof.Rows.F.plain_set_update_loop _]
    show wpAny _ A.in1 (pyNext (.ref I) >>= _) _ _ s
    refine wpAny_bind (W.done s _ _ hst fun s' hm => ?_)
    show wpAny _ A.in1 (ret Value.none) _ _ s'
    exact wpAny_pure (hR s' zs (hm.mono hsub) (hS.kept fun o q => hm.heap S _ hSw q) hl hz)
  | succ k ih =>
    intro i s zs hk hi hst hS hl hz hR
    have hlt : i < n := by omega
    refine codeAny_builtin PyProof.Rows.F.entry_set_update_loop ?_
    rw [Around.under_plainId PyProof.Rows.F.plain_set_update_loop _]
    show wpAny _ A.in1 (pyNext (.ref I) >>= _) _ _ s
    refine wpAny_bind (W.item i s _ _ hlt hst fun v s' hP hst' hm => ?_)
    obtain ⟨t, rfl⟩ := hval i v hP
    have hS' : NuSet prog w s'.heap S zs := hS.kept fun o q => hm.heap S _ hSw q
    show wpAny _ A.in1 (holding [Value.int (val i) t] (setAdd S (.int (val i) t)) >>= _) _ _ s'
    refine wpAny_bind (wpAny_holding ?_)
    unfold setAdd
    refine wpAny_holding ?_
    refine wpAny_bind ((intKind prog w).pyHash (k := val i) (is_int _ _) ?_)
    refine nu_add (s := { s' with toks := s'.toks + 1 }) hS' (by omega) fun h' zs' sb hS2 hl2 hz2 b => ?_
    refine wpAny_pure ⟨plainId_quiet PyProof.Rows.F.plain_set_update_loop _, ih (i + 1) _ zs' (by omega) hlt (W.frame _ s' _ _ hst' (Nat.le_succ _) fun b hb o q => ?_) hS2 (by omega) (fun z => ?_) fun s'' zs'' hm'' hS'' => ?_⟩
    · rw [sb.2 b (fun y : b = S => hSf (y ▸ hb))]
      exact q
    · rw [hz2, hz]
      constructor
      · rintro (⟨j, h1, h2⟩ | h2)
        · exact ⟨j, by omega, h2⟩
        · exact ⟨i, Nat.lt_succ_self _, h2.symm⟩
      · rintro ⟨j, h1, h2⟩
        by_cases hj : j = i
        · subst hj
          exact .inr h2.symm
        · exact .inl ⟨j, by omega, h2⟩
    · refine hR s'' zs'' (Moved.trans W.gtrans ((hm.mono hsub).then_heap (Nat.le_succ _) fun b o hb q => ?_) hm'') hS''
      rw [sb.2 b (fun y : b = S => hb (by rw [y]; exact List.mem_cons_self))]
      exact q
end
section
variable {prog : Program} {w : World} {A : Around} {E : Value → Shared → Prop} {s : Shared}
set_option maxHeartbeats 3200000 in
theorem nu_call {l : Addr} {items : Array Value} {val : Nat → Int} {Q : Value → Shared → Prop} (hh : A.handled = none) (hl : s.heap.IsList l items) (hi : ∀ (i : Nat) (v : Value), items[i]? = some v → ∃ t, v = .int (val i) t) (hb : items.size + 1 < scanBound)
    (h : ∀ (h' : Heap) (tk : Nat) (zs : List Int), NuSet prog w h' s.heap.objs.size zs → zs.length ≤ items.size → (∀ z, z ∈ zs ↔ ∃ j, j < items.size ∧ val j = z) →
      (∀ b o, s.heap.get? b = some o → h'.get? b = some o) → Q (.ref s.heap.objs.size) { s with heap := h', toks := tk }) :
    wpAny (model prog w) A (call (.type "set") [.ref l]) Q E s := by
  obtain ⟨c, tl, hmro⟩ := PySem.F.called_set.mro
  have hmade := PySem.F.called_set.made
  have hsub := PySem.F.called_set.sub
  refine wpAny_call (codeAny_of_tree ?_)
  show wpAny _ _ (callAny (.type "set") _) _ _ _
  refine wpAny_pure ⟨Code.quiet_builtin _ (by decide +kernel), codeAny_builtin PySem.F.entry_type_call ?_⟩
  rw [Around.under_plain (weight_type_call_type "set" [.ref l] []) rfl]
  have h1 := PySem.F.called_set.notType
  have h2 := PySem.F.called_set.canCreate
  have hct := PySem.F.typeCall_set_1 (.ref l)
  repeat (any_goals (first | assumption | wp_step))
  refine codeAny_mono (tx_new (w := w) (.ref l) (E := E) (Q₁ := fun obj s₁ => ∃ led : Bool, (byTx w = true ∨ led = true) ∧ obj = .ref s.heap.objs.size ∧ s₁ = { s with heap := s.heap.push { cls := .type "set", dict := none, data := .set #[] 0 (.fresh 0 0 led) } }) fun led hl => ⟨led, hl, rfl, rfl⟩) fun r s₁ hr => ?_
  cases r with
  | error e => exact hr
  | ok fl =>
    cases fl with
    | ret obj =>
      obtain ⟨led, hled, rfl, rfl⟩ := hr
      have hS : (s.heap.push { cls := .type "set", dict := none, data := .set #[] 0 (.fresh 0 0 led) }).get? s.heap.objs.size = some { cls := .type "set", dict := none, data := .set #[] 0 (.fresh 0 0 led) } := Heap.get?_push_size _ rfl
      have hT : Shared.TypeIs { s with heap := s.heap.push { cls := .type "set", dict := none, data := .set #[] 0 (.fresh 0 0 led) } } (.ref s.heap.objs.size) "set" := ⟨_, hS, rfl⟩
      have hli := PySem.F.called_set.init.lookup
      have hbi := PySem.F.called_set.init.bind (.ref s.heap.objs.size)
      repeat (any_goals (first | assumption | wp_step))
      refine codeAny_mono (codeAny_call_builtin (R := wants (fun r s₂ => r = .none ∧ ∃ h' tk zs, s₂ = { s with heap := h', toks := tk } ∧ NuSet prog w h' s.heap.objs.size zs ∧ zs.length ≤ items.size ∧ (∀ z, z ∈ zs ↔ ∃ j, j < items.size ∧ val j = z) ∧
          (∀ b o, s.heap.get? b = some o → h'.get? b = some o)) E) PySem.F.called_set.init.plain PySem.F.entry_set_init (check_set_init_1 hT ?_)) fun r₂ s₂ hr₂ => ?_
      · obtain ⟨ol, hol, hcl, nl, hdl⟩ := hl
        obtain ⟨ocls, odict, odata, oslots⟩ := ol
        simp only at hcl hdl
        subst hcl; subst hdl
        have hol' := Heap.get?_push_of_some { cls := .type "set", dict := none, data := .set #[] 0 (.fresh 0 0 led) } hol
        have hsls := PySem.F.sub_list_set
        have hslf := PySem.F.sub_list_frozenset
        have hne : (Value.type "list" == Value.type "dict") = false := by decide
        have hl1 : (s.heap.push { cls := .type "set", dict := none, data := .set #[] 0 (.fresh 0 0 led) }).IsList l items := ⟨_, hol', rfl, nl, rfl⟩
        unfold Builtin.«set.__init__» noKeywords Builtin.Frozenset.updateFrom
        generalize hPI : pyIter = PI
        wp_walk
        subst hPI
        refine wpAny_pyIter_list hl1 ?_
        refine wpAny_bind (wpAny_runValue ?_)
        have hlS : l < s.heap.objs.size := Heap.lt_size hol
        have hh3 : A.in1.in1.in1.handled = none := by simp [hh]
        have hneI : l ≠ (s.heap.push { cls := .type "set", dict := none, data := .set #[] 0 (.fresh 0 0 led) }).objs.size := by
          rw [Heap.size_push]
          exact Nat.ne_of_lt (Nat.lt_succ_of_lt hlS)
        have hSf : s.heap.objs.size ∉ [(s.heap.push { cls := .type "set", dict := none, data := .set #[] 0 (.fresh 0 0 led) }).objs.size, l] := by
          rw [Heap.size_push]
          simp only [List.mem_cons, List.not_mem_nil, or_false, not_or]
          exact ⟨Nat.ne_of_lt (Nat.lt_succ_self _), Nat.ne_of_gt hlS⟩
        refine nu_loop ((Walks.list hh3 _ l hneI items).toS) s.heap.objs.size hSf val hi hb (items.size - 0) 0 _ [] (by omega) (Nat.zero_le _) ⟨⟨_, Heap.get?_push_size _ rfl, rfl, rfl⟩, (hl1.push _)⟩ ?_ (Nat.zero_le _) (fun z => Iff.intro (fun q => by cases q) fun ⟨j, q, _⟩ => absurd q (Nat.not_lt_zero _)) ?_
        · exact nu_fresh led hled (Heap.get?_push_of_some _ hS)
        · intro s' zs hm hS' hlz hz
          obtain ⟨h', g', d', tk', os'⟩ := s'
          have eg : g' = s.gens := hm.gens
          have ed : d' = s.drawn := hm.drawn
          have eo : os' = s.os := hm.os
          subst eg; subst ed; subst eo
          show wpAny _ _ _ _ _ _
          refine wpAny_pure ?_
          show wpAny _ _ (ret Value.none) _ _ _
          refine wpAny_pure ⟨rfl, h', tk', zs, rfl, hS', hlz, hz, fun b o e => ?_⟩
          have hbl := Heap.lt_size e
          refine hm.heap b o ?_ (Heap.get?_push_of_some _ (Heap.get?_push_of_some _ e))
          rw [Heap.size_push]
          simp only [List.mem_cons, List.not_mem_nil, or_false, not_or]
          exact ⟨Nat.ne_of_lt hbl, Nat.ne_of_lt (Nat.lt_succ_of_lt hbl)⟩
      · cases r₂ with
        | error e => exact hr₂
        | ok fl₂ =>
          cases fl₂ with
          | ret r =>
            obtain ⟨rfl, h', tk, zs, rfl, hS', hlz, hz, hk'⟩ := hr₂
            repeat (any_goals (first | assumption | wp_step))
            exact h _ _ _ hS' hlz hz hk'
          | _ => exact hr₂.elim
    | _ => exact hr.elim
theorem ints_ofT : ∀ {vs : List Value} {ss : List Int}, vs.length = ss.length → (∀ (i : Nat) (v : Value) (x : Int), vs[i]? = some v → ss[i]? = some x → ∃ t, v = .int x t) → IntsAre vs ss
  | [], [], _, _ => .nil
  | [], _ :: _, h, _ => by simp at h
  | _ :: _, [], h, _ => by simp at h
  | v :: vs, x :: ss, h, hh => by
    obtain ⟨t, rfl⟩ := hh 0 v x rfl rfl
    exact .cons x t (ints_ofT (by simpa using h) fun i v' x' h1 h2 => hh (i + 1) v' x' (by simpa using h1) (by simpa using h2))
theorem ints_len : ∀ {vs : List Value} {ss : List Int}, IntsAre vs ss → vs.length = ss.length
  | _, _, .nil => rfl
  | _, _, .cons y t h => by rw [List.length_cons, List.length_cons, ints_len h]
def RqN (s : Shared) (zs : List Int) (L : Addr) (q : Result) (s' : Shared) : Prop := ∃ (h' : Heap) (tk : Nat) (d : _) (vs : Array Value) (c' : Nat) (ord : List Int), q = .ok (.ret (.ref L)) ∧ s' = { s with heap := h', toks := tk, drawn := d } ∧
  (∀ b o, s.heap.get? b = some o → h'.get? b = some o) ∧ h'.get? L = some { cls := .type "list", dict := none, data := .seq vs c', slots := #[] } ∧ ord.Perm zs ∧ IntsAre vs.toList ord
theorem collect_nu {r : Addr} {zs : List Int} {R : List Value → Shared → Prop} (hh : A.handled = none) (hS : NuSet prog w s.heap r zs)
    (h : ∀ (h' : Heap) (tk : Nat) d (vs : List Value) (ord : List Int), (∀ b o, s.heap.get? b = some o → h'.get? b = some o) → IntsAre vs ord → ord.Perm zs → R vs { s with heap := h', toks := tk, drawn := d }) :
    wpAny (model prog w) A (collect (.ref r)) R E s := by
  have hrT : s.TypeIs (.ref r) "set" := by obtain ⟨o, es, ep, t, ho, hx, _⟩ := hS; exact ⟨o, ho, hx.1⟩
  have hrl : r < s.heap.objs.size := by obtain ⟨o, es, ep, t, ho, hx, _⟩ := hS; exact Heap.lt_size ho
  unfold collect
  refine wpAny_bind (wpAny_runValue (codeAny_builtin entry_proto_collect' ?_))
  rw [Around.under_plainId PySem.F.plain_proto_collect _]
  show wpAny _ A.in1 (newList [] >>= fun l => again (.builtin "list.__iadd__" ⟨[l, .ref r], []⟩)) _ _ s
  refine wpAny_bind (wpAny_newObj_type ?_)
  refine wpAny_pure ⟨plainId_quiet PySem.F.plain_list_iadd _, codeAny_builtin entry_list_iadd' ?_⟩
  rw [Around.under_plainId PySem.F.plain_list_iadd _]
  generalize hh1 : s.heap.push { cls := .type "list", data := .seq ([] : List Value).toArray } = h1
  have hS1 : h1.get? s.heap.objs.size = some { cls := .type "list", data := .seq #[] } := by rw [← hh1]; exact Heap.get?_push_size _ rfl
  have k1 : ∀ b o, s.heap.get? b = some o → h1.get? b = some o := fun b o q => by rw [← hh1]; exact Heap.get?_push_of_some _ q
  have hz1 : h1.objs.size = s.heap.objs.size + 1 := by rw [← hh1, Heap.size_push]
  generalize hL : s.heap.objs.size = L at hS1 hz1 hrl ⊢
  have key : wpAny (model prog w) A.in1 (Builtin.List.listExtendWith (.ref L) (.ref r) (.ref L)) (fun fin s' => match fin with | .done f => RqN s zs L (.ok f) s' | .again c' => c'.quiet = true ∧ codeAny (model prog w) A c' (RqN s zs L) s') (fun e s' => RqN s zs L (.error e) s') { s with heap := h1 } := by
    unfold Builtin.List.listExtendWith
    have hr1 : NuSet prog w h1 r zs := hS.kept fun o q => k1 _ _ q
    have hT1 : Shared.TypeIs { s with heap := h1 } (.ref r) "set" := by obtain ⟨o, es, ep, t, ho, hx, _⟩ := hr1; exact ⟨o, ho, hx.1⟩
    refine wpAny_bind (wpAny_typeOf (T := "set") hT1 ?_)
    have hLr : Builtin.List.listSameRef (.ref L) (.ref r) = false := by
      have : L ≠ r := Nat.ne_of_gt hrl
      simp [Builtin.List.listSameRef, this]
    have e1 : (Value.type "set" == Value.type "list") = false := by decide
    have e2 : (Value.type "set" == Value.type "tuple") = false := by decide
    simp only [hLr, e1, e2, Bool.or_false, Bool.false_eq_true, if_false]
    refine wpAny_bind (iter_nu (s := { s with heap := h1 }) hr1 fun h2 d o es ep t I T fst ord k2 hI hTT hIr ho hd hf he hsz hit hm hp => ?_)
    have hT2 : Shared.TypeIs { s with heap := h2, drawn := d } (.ref r) "set" := by
      obtain ⟨o', es', ep', t', ho', hx', _⟩ := hr1
      exact ⟨o', k2 _ _ ho', hx'.1⟩
    refine wpAny_bind (wpAny_holding (hint_tx (s := { s with heap := h2, drawn := d }) hT2 ?_))
    have hI1 : L + 1 ≤ I := by rw [← hz1]; exact hI
    have hTI : T ≠ I := by
      rcases hTT with e | ⟨_, e⟩
      · rw [e]; exact Nat.ne_of_lt (Nat.lt_of_lt_of_le (Nat.lt_succ_of_lt hrl) hI1)
      · exact e
    have hTL : T ≠ L := by
      rcases hTT with e | ⟨e, _⟩
      · rw [e]; exact Nat.ne_of_lt hrl
      · exact Nat.ne_of_gt (Nat.lt_of_lt_of_le (by rw [show h1.objs.size = L + 1 from hz1]; exact Nat.lt_succ_self _) e)
    have hS2 : h2.get? L = some { cls := .type "list", data := .seq #[] } := k2 _ _ hS1
    have hLf : L ∉ [I, r, T] := by
      simp only [List.mem_cons, List.not_mem_nil, or_false, not_or]
      exact ⟨Nat.ne_of_lt (Nat.lt_of_succ_le hI1), Nat.ne_of_gt hrl, hTL.symm⟩
    have hlen := ord_lenN he hm
    have hn : es.size ≤ sizeLine := by
      obtain ⟨o', es', ep', t', ho', hx', hd', _, hz', _, hb', _⟩ := hr1
      have := k2 _ _ ho'
      rw [ho] at this
      cases this
      rw [hd] at hd'
      cases hd'
      exact fits_of_scanBound hb'
    have go : ∀ (h3 : Heap) (c : Nat), (∀ b o, b ≠ L → h2.get? b = some o → h3.get? b = some o) → h3.get? L = some { cls := .type "list", data := .seq #[] c } →
        codeAny (model prog w) A (.builtin "list.extend.loop" ⟨[.ref L, .ref I, .ref L], []⟩) (RqN s zs L) { s with heap := h3, drawn := d } := by
      intro h3 c k3 hS3
      have W := walk_nu (prog := prog) (w := w) (A := A.in1) hh (ord := ord) hTI hIr.symm hd hf he
      refine codeAny_extend_loopS W.toS hn L hLf (.ref L) es.size 0 _ #[] c rfl (Nat.zero_le _) ?_ hS3 (ItemsOf.nil _) fun s' acc' c' hm' hS' hacc => ?_
      · exact W.frame 0 h2 h3 ⟨ho, fst, hit, hm⟩ fun b hb o q => k3 b o (fun e => hLf (e ▸ hb)) q
      · obtain ⟨h', g', d', tk', os'⟩ := s'
        have eg : g' = s.gens := hm'.gens
        have ed : d' = d := hm'.drawn
        have eo : os' = s.os := hm'.os
        subst eg; subst ed; subst eo
        refine ⟨h', tk', _, acc', c', ord, rfl, rfl, fun b o q => ?_, hS', hp, ints_ofT (by rw [Array.length_toList, hacc.1, hlen]) fun i v x h1 h2 => ?_⟩
        rotate_left
        · obtain ⟨z, t, e1, e2⟩ := hacc.2 i v (by rw [← Array.getElem?_toList]; exact h1)
          rw [h2] at e1
          cases e1
          exact ⟨t, e2⟩
        have hbl : b < L := by rw [← hL]; exact Heap.lt_size q
        refine hm'.heap b o ?_ (k3 b o (Nat.ne_of_lt hbl) (k2 b o (k1 b o q)))
        simp only [List.mem_cons, List.not_mem_nil, or_false, not_or]
        exact ⟨Nat.ne_of_lt hbl, Nat.ne_of_lt (Nat.lt_trans hbl (Nat.lt_of_succ_le hI1))⟩
    refine wpAny_ite_split (fun _ => ?_) (fun _ => wpAny_pure ⟨plainId_quiet PySem.F.plain_extend_loop _, go h2 0 (fun b o _ q => q) hS2⟩)
    refine wpAny_bind (wpAny_rule ?_)
    refine wpAny_bind ?_
    show wpAny _ _ (updateSeq L (·.push .none) >>= fun _ => updateSeq L (·.pop)) _ _ _
    refine wpAny_bind (wpAny_updateSeq hS2 rfl ?_)
    have hS3 := Heap.get?_update_self (Obj.mapSeq (·.push Value.none)) hS2 rfl
    refine wpAny_updateSeq (hz := by seq_fits) hS3 rfl ?_
    have hS4 := Heap.get?_update_self (Obj.mapSeq (·.pop)) hS3 rfl
    refine wpAny_pure ⟨plainId_quiet PySem.F.plain_extend_loop _, go _ _ (fun b o hb q => ?_) hS4⟩
    exact (Heap.get?_update_other _ _ (Ne.symm hb)).trans ((Heap.get?_update_other _ _ (Ne.symm hb)).trans q)
  refine wpAny_mono key (fun fin s' x => ?_) fun e s' x => ?_
  · cases fin with
    | done f =>
      obtain ⟨h', tk, d, vs, c', ord, e, rfl, k', hL', hp, hst⟩ := x
      cases e
      show wpAny _ A (load L >>= _) _ _ _
      exact wpAny_bind (wpAny_load hL' (wpAny_pure (h h' tk d vs.toList ord k' hst hp)))
    | again c1 =>
      refine ⟨x.1, codeAny_mono x.2 fun q s2 y => ?_⟩
      obtain ⟨h', tk, d, vs, c', ord, rfl, rfl, k', hL', hp, hst⟩ := y
      show wpAny _ A (load L >>= _) _ _ _
      exact wpAny_bind (wpAny_load hL' (wpAny_pure (h h' tk d vs.toList ord k' hst hp)))
  · obtain ⟨_, _, _, _, _, _, e, _⟩ := x
    cases e
theorem sorted_nu {r : Addr} {zs : List Int} {Q : Value → Shared → Prop} (hh : A.handled = none) (hS : NuSet prog w s.heap r zs) (hn : zs.length < 64)
    (h : ∀ (h1 h' : Heap) (tk : Nat) d (vs' : List Value) (ss' : List Int) (e : Nat), (∀ b o, s.heap.get? b = some o → h1.get? b = some o) → (∀ b o, h1.get? b = some o → h'.get? b = some o) → h'.get? h1.objs.size = some { cls := .type "list", data := .seq vs'.toArray e } → IntsAre vs' ss' → ss'.Perm zs → ss'.Pairwise (· ≤ ·) → Q (.ref h1.objs.size) { s with heap := h', toks := tk, drawn := d }) :
    wpAny (model prog w) A (call (.builtin "sorted") [.ref r]) Q E s := by
  refine Calls.call_function_entry kind_sorted plain_sorted entry_sorted (args_sorted1 _) ?_
  unfold Builtin.«sorted»
  refine wpAny_bind (m := checkCount "sorted" 1 1 _) (wpAny_pure ?_)
  refine wpAny_bind (collect_nu (A := A.in1) hh hS fun h' tk d vs ord hk hA hp => ?_)
  have hl2 : vs.length = zs.length := by rw [ints_len hA, hp.length_eq]
  have hsl : sizeLine = 16777216 := sizeLine_eq
  refine wpAny_bind (wpAny_newList ?_ (by omega))
  have hoL : (h'.push (seqObj "list" vs.toArray 0)).get? h'.objs.size = some (seqObj "list" vs.toArray 0) := Heap.get?_push_size _ rfl
  show wpAny _ _ _ _ _ { s with heap := h'.push (seqObj "list" vs.toArray 0), toks := tk, drawn := d }
  refine wpAny_bind (wpAny_holding (wpAny_call_entry slot_list_sort ⟨_, hoL, rfl⟩ entry_list_sort (list_sort_tree (A := A.in1.in1) hoL hA (by omega) fun out ss' a1 a2 a3 => ⟨_, rfl, ?_⟩) (args_list_sort _)))
  obtain ⟨e, he⟩ := sortedHeap_at (out := out) hoL
  refine wpAny_pure ⟨_, rfl, h h' _ tk d _ ss' e hk (fun b o hb' => ?_) (by rw [Array.toArray_toList]; exact he) a1 (a2.trans hp) a3⟩
  have hlt := Heap.lt_size hb'
  rw [sortedHeap_old (Nat.ne_of_lt hlt) (by rw [size_push']; exact Nat.lt_succ_of_lt hlt)]
  exact Heap.get?_push_of_some _ hb'
end
end L2
set_option Elab.async false
set_option linter.all false
set_option maxRecDepth 100000
namespace L2
open PySem PySem.Spec PyProof.Rows PySem.SeqAt PySem.W
theorem ints_vals : ∀ {vs : List Value} {ss : List Int}, IntsAre vs ss → Vals (ss.map V.int) vs
  | _, _, .nil => .nil
  | _, _, .cons y t h => .cons ⟨t, rfl⟩ (ints_vals h)
theorem vals_int : ∀ {zs : List Int} {its : List Value}, Vals (zs.map V.int) its → ∀ (i : Nat) (v : Value), its[i]? = some v → ∃ z t, zs[i]? = some z ∧ v = .int z t
  | [], _, .nil, i, v, h => by simp at h
  | z :: zs, _, .cons r q, 0, v, h => by
    obtain ⟨t, rfl⟩ := r
    simp at h
    exact ⟨z, t, rfl, h.symm⟩
  | z :: zs, _, .cons r q, i + 1, v, h => by
    obtain ⟨z', t, e1, e2⟩ := vals_int q i v (by simpa using h)
    exact ⟨z', t, by simpa using e1, e2⟩
section
variable {prog : Program} {w : World} {A : Around} {E : Value → Shared → Prop} {s : Shared} {T : String} {r d : Addr} {n : Nat} {P : Nat → Value → Prop} {OK : Heap → Prop}
end
section
variable {X : Cx}
def NuO (P : Program) (w : World) (p : Addr) (zs : List Int) : HO := .ext fun h => NuSet P w h p zs
theorem call_setI : CallR X (.type "set") (fun xs H Q => X.calm = true ∧ ∃ (p : Addr) (zs : List Int), xs = [.ref p] ∧ SqL X.K H p (zs.map V.int) ∧ zs.length < 4000 ∧
    ∀ l ys, H l = none → ys.Nodup → (∀ z, z ∈ ys ↔ z ∈ zs) → Q (.ref l) (upd H l (NuO X.prog X.w l ys))) := by
  intro pins s σ H xs us Q I r h
  obtain ⟨hc, p, zs, rfl, hp, h4, q⟩ := h
  obtain ⟨u, rfl, ru⟩ := vals1 r
  cases ru
  obtain ⟨its, rv, ⟨o, n, e1, e2, e3, e4⟩, z⟩ := I.list hp
  have hil : its.length = zs.length := by have := rv.length; rw [List.length_map] at this; omega
  have hsb : scanBound = 4096 := rfl
  refine nu_call (items := its.toArray) (val := fun i => zs.getD i 0) (I.ok.hd hc) ⟨o, e1, e2, n, by simpa using e4⟩ (fun i v hv => ?_) (by rw [List.size_toArray]; omega) fun h' tk ys hS hly hz k => ?_
  · obtain ⟨z, t, a1, a2⟩ := vals_int rv i v (by rw [← List.getElem?_toArray]; exact hv)
    exact ⟨t, by rw [a2, List.getD_eq_getElem?_getD, a1]; rfl⟩
  · have hnd : ys.Nodup := by obtain ⟨_, _, _, _, _, _, _, _, _, x, _⟩ := hS; exact x
    have hth : ∃ o, h'.get? s.heap.objs.size = some o := by obtain ⟨o, _, _, _, x, _⟩ := hS; exact ⟨o, x⟩
    refine ⟨.ref _, _, I.laid (a := s.heap.objs.size) (o := NuO X.prog X.w s.heap.objs.size ys) (t' := tk) k (Nat.le_refl _) ⟨hS, hth, fun h1 h2 x y => x.kept y⟩, rfl, q _ _ (I.hok.fresh (Nat.le_refl _)) hnd fun z => ?_⟩
    rw [hz, List.size_toArray, hil]
    constructor
    · rintro ⟨j, hj, rfl⟩
      rw [List.getD_eq_getElem?_getD, List.getElem?_eq_getElem hj]
      exact List.getElem_mem hj
    · intro hm
      obtain ⟨j, hj, e⟩ := List.getElem_of_mem hm
      exact ⟨j, hj, by rw [List.getD_eq_getElem?_getD, List.getElem?_eq_getElem hj]; exact e⟩
theorem call_sortedN : CallR X (.builtin "sorted") (fun xs H Q => X.calm = true ∧ ∃ (p : Addr) (ys : List Int), xs = [.ref p] ∧ H p = some (NuO X.prog X.w p ys) ∧ ys.length < 64 ∧
    ∀ (l : Addr) (zs' : List Int), H l = none → zs'.Perm ys → zs'.Pairwise (· ≤ ·) → Q (.ref l) (upd H l (.lst (zs'.map V.int)))) := by
  intro pins s σ H xs us Q I r h
  obtain ⟨hc, p, ys, rfl, hp, h64, q⟩ := h
  obtain ⟨u, rfl, ru⟩ := vals1 r
  cases ru
  have hS : NuSet X.prog X.w s.heap p ys := (I.hok p _ hp).1
  refine sorted_nu (I.ok.hd hc) hS h64 fun h1 h' tk d vs' ss' e k1 k2 hB hA hp2 hs2 => ?_
  have I1 : Inv X pins σ H { s with heap := h1, toks := tk, drawn := d } := (I.kept k1).drawn d
  have hlen : ss'.length = ys.length := hp2.length_eq
  exact ⟨.ref h1.objs.size, _, I1.laid (a := h1.objs.size) (o := .lst (ss'.map V.int)) (t' := tk) k2 (Nat.le_refl _) ⟨by rw [List.length_map, sizeLine_eq]; omega, vs', e, ints_vals hA, hB⟩, rfl, q _ _ (I1.hok.fresh (Nat.le_refl _)) hp2 hs2⟩
end
end L2
set_option Elab.async false
set_option linter.all false
set_option maxRecDepth 100000
namespace L2
open PySem PySem.Spec PyProof.Rows PySem.SeqAt
section
variable {X : Cx}
end
section
variable {X : Cx} {tg : Expr}
end
theorem pg_tupK {X : Cx} {K : PySem.W.Frag} {es : List Expr} {k : Nat} {t : TGs} {n : Nat} {pos : Pos} (hc : X.calm = true) (h : PGs X es t) (hK : X.K = K := by rfl)
    (hn : (assignEach es X.env).length = n := by rfl) (hst : (assignEach es X.env).findIdx? (·.1) = none := by rfl) : PG X (.Tuple es k pos) (gTup K n t) := by
  subst hK
  exact pg_tup hc h hn hst
theorem pe_bmK {X : Cx} (K : PySem.W.Frag) {o e : Expr} {es : List Expr} {to : TE} {t : TA} {name : Str} {apos cpos : Pos} {T id : String} {r : V → List V → Hp → VK → Prop} (pa : PlainAttrs T) (slot : Slot T name id) (hty : typeOf (.builtin id) = pure (.type "method_descriptor")) (hm : MtR X id r) (ho : PE X o to) (ha : PA X (e :: es) t)
    (hK : X.K = K := by rfl) (hbase : attributeBase o name X.env (eval o X.env) = eval o X.env := by rfl)
    (hfew : ((backTo cpos (starEach (e :: es) X.env)).all (fun x => !x.1) && (backToKw cpos (keywordEach [] X.env)).all (fun x => x.1.isSome)
      && decide ((e :: es).length + ([] : List Keyword).length + (if ([] : List Keyword).isEmpty then 0 else 1) < 30)) = true := by rfl)
    (hline : (apos.endLine == cpos.line) = true := by rfl) (hs : starEach (e :: es) X.env = (false, eval e X.env) :: starEach es X.env := by rfl) (hplain : (backTo cpos (starEach es X.env)).any (·.1) = false := by rfl) :
    PE X (.Call (.Attribute o name apos) (e :: es) [] cpos) (tBM K T r to t) := by
  subst hK
  exact pe_bm pa slot hty hm ho ha hbase hfew hline hs hplain
end L2
set_option Elab.async false
set_option linter.all false
namespace L2
theorem odd_part : ∀ n : Nat, 0 < n → ∃ t m, n = 2 ^ t * (2 * m + 1) := by
  intro n
  induction n using Nat.strongRecOn with
  | _ n ih =>
    intro h
    by_cases ho : n % 2 = 1
    · exact ⟨0, n / 2, by omega⟩
    · obtain ⟨t, m, e⟩ := ih (n / 2) (by omega) (by omega)
      refine ⟨t + 1, m, ?_⟩
      rw [Nat.pow_succ, Nat.mul_assoc, Nat.mul_left_comm, ← e]
      omega
theorem low_bits {n : Nat} (h : 0 < n) : ∃ t, n.testBit t = true ∧ (∀ i, i < t → n.testBit i = false) ∧ n - (n &&& (n - 1)) = 2 ^ t ∧ ∀ i, (n &&& (n - 1)).testBit i = (n.testBit i && decide (i ≠ t)) := by
  obtain ⟨t, m, e⟩ := odd_part n h
  have e1 : n = 2 ^ t * (2 * m + 1) + 0 := by omega
  have hp : 0 < 2 ^ t := Nat.two_pow_pos t
  have e2 : n - 1 = 2 ^ t * (2 * m) + (2 ^ t - 1) := by
    rw [e, Nat.mul_add, Nat.mul_one]
    omega
  have b1 : ∀ i, n.testBit i = if i < t then false else (2 * m + 1).testBit (i - t) := fun i => by
    rw [e, Nat.testBit_two_pow_mul]
    by_cases hi : i < t
    · rw [if_pos hi, decide_eq_false (by omega), Bool.false_and]
    · rw [if_neg hi, decide_eq_true (by omega), Bool.true_and]
  have b2 : ∀ i, (n - 1).testBit i = if i < t then true else (2 * m).testBit (i - t) := fun i => by
    rw [e2, Nat.testBit_two_pow_mul_add _ (by omega)]
    by_cases hi : i < t
    · rw [if_pos hi, if_pos hi, Nat.testBit_two_pow_sub_one, decide_eq_true hi]
    · rw [if_neg hi, if_neg hi]
  have ev : ∀ j, (2 * m).testBit j = ((2 * m + 1).testBit j && decide (j ≠ 0)) := fun j => by
    cases j with
    | zero => simp
    | succ j =>
      rw [Nat.testBit_succ, Nat.testBit_succ]
      have : (2 * m + 1) / 2 = 2 * m / 2 := by omega
      rw [this]
      simp
  have b3 : ∀ i, (n &&& (n - 1)).testBit i = (n.testBit i && decide (i ≠ t)) := fun i => by
    rw [Nat.testBit_and, b1, b2]
    by_cases hi : i < t
    · rw [if_pos hi, Bool.false_and, Bool.false_and]
    · rw [if_neg hi, if_neg hi, ev]
      have : decide (i - t ≠ 0) = decide (i ≠ t) := by
        rw [decide_eq_decide]
        omega
      rw [this]
      cases (2 * m + 1).testBit (i - t) <;> simp
  have e3 : n &&& (n - 1) = 2 ^ t * (2 * m) := by
    apply Nat.eq_of_testBit_eq
    intro i
    rw [b3, b1, Nat.testBit_two_pow_mul]
    by_cases hi : i < t
    · rw [if_pos hi, show decide (i ≥ t) = false from decide_eq_false (by omega), Bool.false_and, Bool.false_and]
    · rw [if_neg hi, show decide (i ≥ t) = true from decide_eq_true (by omega), Bool.true_and, ev]
      have : decide (i - t ≠ 0) = decide (i ≠ t) := by
        rw [decide_eq_decide]
        omega
      rw [this]
  refine ⟨t, ?_, fun i hi => ?_, ?_, b3⟩
  · rw [b1, if_neg (by omega), Nat.sub_self]
    simp
  · rw [b1, if_pos hi]
  · rw [e3, e, Nat.mul_add, Nat.mul_one]
    omega
def Bits (n : Nat) (xs : List Nat) : Prop := xs.Pairwise (· < ·) ∧ ∀ i, n.testBit i = decide (i ∈ xs)
theorem Bits.zero : Bits 0 [] := ⟨List.Pairwise.nil, fun i => by simp⟩
theorem Bits.nil {n : Nat} (h : Bits n []) : n = 0 := Nat.eq_of_testBit_eq fun i => by rw [h.2]; simp
theorem Bits.cons {n x : Nat} {xs : List Nat} (h : Bits n (x :: xs)) : 0 < n ∧ n - (n &&& (n - 1)) = 2 ^ x ∧ Bits (n &&& (n - 1)) xs := by
  have hx : n.testBit x = true := by rw [h.2]; simp
  have hn : 0 < n := Nat.pos_of_ne_zero fun z => by rw [z] at hx; simp at hx
  obtain ⟨t, t1, t2, t3, t4⟩ := low_bits hn
  have hp := List.pairwise_cons.mp h.1
  have e : t = x := by
    rw [h.2, decide_eq_true_eq] at t1
    rcases List.mem_cons.mp t1 with e | e
    · exact e
    · have := hp.1 t e
      rw [t2 x this] at hx
      cases hx
  subst e
  refine ⟨hn, t3, hp.2, fun i => ?_⟩
  rw [t4, h.2]
  by_cases hi : i = t
  · subst hi
    have : i ∉ xs := fun z => Nat.lt_irrefl _ (hp.1 i z)
    simp [this]
  · simp [hi]
theorem Bits.len {n : Nat} {xs : List Nat} (h : Bits n xs) {b : Nat} (hb : n < 2 ^ b) : ∀ x ∈ xs, x < b := by
  intro x hx
  have ht : n.testBit x = true := by rw [h.2]; simpa using hx
  have := Nat.ge_two_pow_of_testBit ht
  exact (Nat.pow_lt_pow_iff_right (a := 2) (by decide)).mp (Nat.lt_of_le_of_lt this hb)
end L2
set_option Elab.async false
set_option linter.all false
set_option maxRecDepth 100000
namespace L2
open PySem PySem.Spec PyProof.Rows PySem.SeqAt
section
variable {X : Cx}
theorem ip_or : PIp X .BitOr (ipI fun i j => Builtin.bitOr i j) := by
  intro pins s σ H x y v u Q I r1 r2 h
  obtain ⟨i, j, e1, e2, q⟩ := h
  subst e1; subst e2
  obtain ⟨t, rfl⟩ := r1
  obtain ⟨t', rfl⟩ := r2
  exact ior_int ⟨.int _, H, I.tok _, ⟨_, rfl⟩, q⟩
theorem ip_and : PIp X .BitAnd (ipI fun i j => Builtin.bitAnd i j) := by
  intro pins s σ H x y v u Q I r1 r2 h
  obtain ⟨i, j, e1, e2, q⟩ := h
  subst e1; subst e2
  obtain ⟨t, rfl⟩ := r1
  obtain ⟨t', rfl⟩ := r2
  exact iand_int ⟨.int _, H, I.tok _, ⟨_, rfl⟩, q⟩
theorem ip_xor : PIp X .BitXor (ipI fun i j => Builtin.bitXor i j) := by
  intro pins s σ H x y v u Q I r1 r2 h
  obtain ⟨i, j, e1, e2, q⟩ := h
  subst e1; subst e2
  obtain ⟨t, rfl⟩ := r1
  obtain ⟨t', rfl⟩ := r2
  exact ixor_int ⟨.int _, H, I.tok _, ⟨_, rfl⟩, q⟩
def rGetL : V → V → Hp → VK → Prop := fun x y H Q => ∃ (p : Addr) (xs : List V) (i : Nat) (v : V), x = .ref p ∧ y = .int i ∧ H p = some (.lst xs) ∧ xs[i]? = some v ∧ Q v H
theorem get_list : PGet X rGetL := by
  intro pins s σ H o i ov iv Q I ro ri h
  obtain ⟨p, xs, k, v, rfl, rfl, hp, hk, q⟩ := h
  cases ro
  obtain ⟨t, rfl⟩ := ri
  obtain ⟨its, r, pl, hz⟩ := I.list (SqL.of hp)
  obtain ⟨w, ew, rw'⟩ := r.get hk
  have hl := r.length
  have hkl := (List.getElem?_eq_some_iff.mp hk).1
  have hs := sizeLine_eq
  exact wpAny_getItem_list pl.isList (by omega) (by omega) (by simpa using ew) ⟨v, H, I, rw', q⟩
def rBitLen : V → List V → Hp → VK → Prop := fun x vs H Q => ∃ i : Int, x = .int i ∧ vs = [] ∧ Q (.int (Builtin.Int.intBits i)) H
theorem mt_bit_length : MtR X "int.bit_length" rBitLen := by
  intro pins s σ H x xs v us Q I rx rv h
  obtain ⟨i, rfl, rfl, q⟩ := h
  cases rv
  obtain ⟨t, rfl⟩ := rx
  exact call_int_bit_length ⟨.int _, H, I.tok _, ⟨_, rfl⟩, q⟩
end
theorem pe_fldK {X : Cx} (K : PySem.W.Frag) {e : Expr} {f : Str} {pos : Pos} {ta : TE} (he : PE X e ta) (hb : attributeBase e f X.env (eval e X.env) = eval e X.env) (hK : X.K = K := by rfl) : PE X (.Attribute e f pos) (tFld K ta f) := by
  subst hK
  exact pe_fld he hb
theorem not_not (x : Int) : Builtin.bitNot (Builtin.bitNot x) = x := by unfold Builtin.bitNot; omega
theorem or_mask (m n : Nat) : Builtin.bitOr (m : Int) (n : Int) = ((m ||| n : Nat) : Int) := by
  unfold Builtin.bitOr
  rw [bitAnd_nn (by unfold Builtin.bitNot; omega) (by unfold Builtin.bitNot; omega), not_not, not_not, not_not]
  simp
theorem and_mask (m n : Nat) : Builtin.bitAnd (m : Int) (n : Int) = ((m &&& n : Nat) : Int) := by
  rw [bitAnd_pp (by omega) (by omega)]
  simp
theorem low_mask {n : Nat} (h : 0 < n) : Builtin.bitAnd (n : Int) (-(n : Int)) = ((n - (n &&& (n - 1)) : Nat) : Int) := by
  rw [bitAnd_pn (by omega) (by omega)]
  have e : (Builtin.bitNot (-(n : Int))).toNat = n - 1 := by unfold Builtin.bitNot; omega
  rw [e, Int.toNat_natCast]
  have := Nat.and_le_left (n := n) (m := n - 1)
  omega
theorem xor_low {n x : Nat} (h : n - (n &&& (n - 1)) = 2 ^ x) (hb : n.testBit x = true) : Builtin.bitXor (n : Int) ((2 ^ x : Nat) : Int) = ((n &&& (n - 1) : Nat) : Int) := by
  rw [bitXor_and, and_mask]
  have e : n &&& 2 ^ x = 2 ^ x := by
    apply Nat.eq_of_testBit_eq
    intro i
    rw [Nat.testBit_and, Nat.testBit_two_pow]
    by_cases hi : x = i
    · subst hi; simp [hb]
    · simp [hi]
  rw [e]
  have := Nat.and_le_left (n := n) (m := n - 1)
  omega
theorem bits_pow (x : Nat) : Builtin.Int.intBits ((2 ^ x : Nat) : Int) = x + 1 := by
  unfold Builtin.Int.intBits
  have hp : 0 < 2 ^ x := Nat.two_pow_pos x
  rw [if_neg (by rw [beq_iff_eq]; omega), Int.natAbs_natCast, Nat.log2_two_pow]
theorem shl_one (x : Nat) : (1 : Int) * 2 ^ (x : Int).toNat = ((2 ^ x : Nat) : Int) := by
  rw [Int.one_mul, Int.toNat_natCast]
  simp
end L2
set_option Elab.async false
set_option linter.all false
set_option maxRecDepth 100000
namespace L2
open PySem PySem.Spec PyProof.Rows PySem.SeqAt
section
variable {prog : Program} {w : World} {K : Type} [DecidableEq K] {knd : HeapKind prog w K} {A : Around} {E : Value → Shared → Prop} {s : Shared} {d a : Addr} {k : K} {xs : List (K × Addr × Value)}
end
section
variable {X : Cx} {o e f : Expr} {apos cpos : Pos} {td ty tx : TE}
end
end L2
set_option Elab.async false
set_option linter.all false
set_option maxRecDepth 100000
namespace L2
open PySem PySem.Spec PyProof.Rows PySem.W
section
variable {prog : Program} {w : World} {A : Around} {E : Value → Shared → Prop} {s : Shared}
def RawD (h : Heap) (d : Addr) (es : Array DictEntry) (ep : Nat) : Prop := ∃ o, h.get? d = some o ∧ o.ExactDict ∧ o.data = .dict es ep
theorem RawD.typeIs {d : Addr} {es : Array DictEntry} {ep : Nat} (x : RawD s.heap d es ep) : s.TypeIs (.ref d) "dict" := let ⟨o, ho, hc, _⟩ := x; ⟨o, ho, hc.1⟩
theorem RawD.at' {h h' : Heap} {d : Addr} {es : Array DictEntry} {ep : Nat} (x : RawD h d es ep) (e : ∀ o, h.get? d = some o → h'.get? d = some o) : RawD h' d es ep := let ⟨o, ho, r⟩ := x; ⟨o, e _ ho, r⟩
theorem RawD.lt {h : Heap} {d : Addr} {es : Array DictEntry} {ep : Nat} (x : RawD h d es ep) : d < h.objs.size := let ⟨_, ho, _⟩ := x; Heap.lt_size ho
end
theorem vals_of : ∀ {ys : List V} {us : List Value}, ys.length = us.length → (∀ (i : Nat) (y : V) (u : Value), ys[i]? = some y → us[i]? = some u → RelV y u) → Vals ys us
  | [], [], _, _ => .nil
  | [], _ :: _, h, _ => by simp at h
  | _ :: _, [], h, _ => by simp at h
  | y :: ys, u :: us, h, hh => .cons (hh 0 y u rfl rfl) (vals_of (by simpa using h) fun i y' u' h1 h2 => hh (i + 1) y' u' (by simpa using h1) (by simpa using h2))
theorem KT.at {H : Hp} : ∀ {kvs : List (List Key × V)} {xs : List (List Key × Addr × Value)}, KT H kvs xs → ∀ {i : Nat} {p : List Key × V} {q : List Key × Addr × Value}, kvs[i]? = some p → xs[i]? = some q → RelV p.2 q.2.2
  | _, _, .nil, i, p, q, h, _ => by simp at h
  | _, _, .cons hq t, 0, p, q, h1, h2 => by
    simp only [List.getElem?_cons_zero, Option.some.injEq] at h1 h2
    subst h1 h2
    exact hq.2.2
  | _, _, .cons hq t, i + 1, p, q, h1, h2 => KT.at t (by simpa using h1) (by simpa using h2)
section
variable {X : Cx}
end
end L2
set_option Elab.async false
set_option linter.all false
set_option maxRecDepth 100000
namespace L2
open PySem PySem.Spec PyProof.Rows PySem.W
theorem rev_mro : mroOf (.type "reversed") = pure [.type "reversed", .type "object"] := by rw [mroOf_type]; kernel_rfl
theorem rev_lookup : typeLookup (.type "reversed") "__new__" = pure (some (.builtin "reversed.__new__")) := by rw [typeLookup_type, builtinLookup_eq_fast]; kernel_rfl
theorem rev_new : entryFor table "reversed.__new__" = some Builtin.«reversed.__new__» := entryFor_of_tree (by kernel_rfl)
theorem rev_plain : plainId "reversed.__new__" = true := by decide +kernel
theorem rev_check (a : Value) : checkBuiltinCall "reversed.__new__" ⟨[.type "reversed", a], []⟩ = pure () := by kernel_rfl
theorem rev_tcheck (a : Value) : checkTypeCall "reversed" ⟨[a], []⟩ = pure () := by kernel_rfl
theorem rev_made : Bind.madeBy (.type "reversed") = pure (some "reversed.__new__") := madeBy_type rev_mro rev_lookup (by decide +kernel)
theorem rev_sub : isSubtype (.type "reversed") (.type "reversed") = pure true := by rw [isSubtype_type]; kernel_rfl
theorem rev_nosub : isSubtype (.type "list_reverseiterator") (.type "reversed") = pure false := by rw [isSubtype_type]; kernel_rfl
theorem rev_can : ((Manifest.find? "reversed").bind (·.mro.findSome? fun t => (Manifest.find? t).bind fun b => if b.noNew then some true else if b.attrs.any (·.1 == "__new__") then some false else none)).getD false = false := by decide +kernel
theorem rev_not : (Value.type "reversed" == Value.type "type") = false := by decide +kernel
section
variable {prog : Program} {w : World} {A : Around} {E : Value → Shared → Prop} {s : Shared}
theorem code_reversed {l : Addr} {items : Array Value} {n : Nat} {Q : Value → Shared → Prop} (hl : s.heap.get? l = some { cls := .type "list", dict := none, data := .seq items n, slots := #[] })
    (h : Q (.ref s.heap.objs.size) { s with heap := s.heap.push { cls := Value.type "list_reverseiterator", data := Data.fields #[Value.ref l, rawInt (((items.size : Nat) : Int) - 1)] } }) :
    codeAny (model prog w) A (.call (.builtin "reversed.__new__") ⟨[.type "reversed", .ref l], []⟩) (wants Q E) s := by
  refine codeAny_of_tree ?_
  show wpAny _ A.in1 (do checkBuiltinCall "reversed.__new__" ⟨[.type "reversed", .ref l], []⟩; again (.builtin "reversed.__new__" ⟨[.type "reversed", .ref l], []⟩)) _ _ s
  refine wpAny_bind (wpAny_of_eq (rev_check _) (wpAny_pure ⟨plainId_quiet rev_plain _, codeAny_builtin rev_new ?_⟩))
  rw [Around.under_plainId rev_plain _]
  have hT : s.TypeIs (.ref l) "list" := ⟨_, hl, rfl⟩
  have hs := rev_sub
  have hlk := PySem.F.slot_list_reversed.lookup
  have hb := PySem.F.slot_list_reversed.bind (.ref l)
  unfold Builtin.«reversed.__new__»
  unfold Builtin.SmallTypes.newClass
  repeat (any_goals (first | assumption | wp_step))
  refine codeAny_mono (codeAny_call_builtin PySem.F.slot_list_reversed.plain PySem.F.entry_list_reversed (PySem.F.slot_list_reversed.check _ _ _ _ _ _ _ _ hT (PySem.F.args_list_reversed_1 _) (PySem.AutoListH.list___reversed___list_0 l items n prog w A.in1 (wants (fun v s1 => v = .ref s.heap.objs.size ∧ s1 = { s with heap := s.heap.push { cls := Value.type "list_reverseiterator", data := Data.fields #[Value.ref l, rawInt (((items.size : Nat) : Int) - 1)] } }) (fun _ _ => False)) s ⟨hl, rfl, rfl⟩))) fun r s1 hr => ?_
  cases r with
  | error e => exact hr.elim
  | ok fl =>
    cases fl with
    | ret obj =>
      obtain ⟨rfl, rfl⟩ := hr
      exact wpAny_pure h
    | _ => exact hr.elim
theorem call_reversed {l : Addr} {items : Array Value} {n : Nat} {Q : Value → Shared → Prop} (hl : s.heap.get? l = some { cls := .type "list", dict := none, data := .seq items n, slots := #[] })
    (h : Q (.ref s.heap.objs.size) { s with heap := s.heap.push { cls := Value.type "list_reverseiterator", data := Data.fields #[Value.ref l, rawInt (((items.size : Nat) : Int) - 1)] } }) :
    wpAny (model prog w) A (call (.type "reversed") [.ref l]) Q E s := by
  have hmro := rev_mro
  have hmade := rev_made
  have hsub := rev_sub
  refine wpAny_call (codeAny_of_tree ?_)
  show wpAny _ _ (callAny (.type "reversed") _) _ _ _
  refine wpAny_pure ⟨Code.quiet_builtin _ (by decide +kernel), codeAny_builtin F.entry_type_call ?_⟩
  rw [Around.under_plain (weight_type_call_type "reversed" [.ref l] []) rfl]
  have h1 := rev_not
  have h2 := rev_can
  have h3 := rev_tcheck (.ref l)
  repeat (any_goals (first | assumption | wp_step))
  refine codeAny_mono (code_reversed (E := E) (Q := fun v s1 => v = .ref s.heap.objs.size ∧ s1 = { s with heap := s.heap.push { cls := Value.type "list_reverseiterator", data := Data.fields #[Value.ref l, rawInt (((items.size : Nat) : Int) - 1)] } }) hl ⟨rfl, rfl⟩) fun r s₁ hr => ?_
  cases r with
  | error e => exact hr
  | ok fl =>
    cases fl with
    | ret obj =>
      obtain ⟨rfl, rfl⟩ := hr
      have hT : Shared.TypeIs { s with heap := s.heap.push { cls := Value.type "list_reverseiterator", data := Data.fields #[Value.ref l, rawInt (((items.size : Nat) : Int) - 1)] } } (.ref s.heap.objs.size) "list_reverseiterator" := ⟨_, Heap.get?_push_size _ rfl, rfl⟩
      have hno := rev_nosub
      repeat (any_goals (first | assumption | wp_step))
    | _ => exact hr.elim
end
theorem ri_owner : Manifest.owners.lookup (String.ofList ['r', 'o', 't', 'a', 'r', 'e', 't', 'i', 'e', 's', 'r', 'e', 'v', 'e', 'r', '_', 't', 's', 'i', 'l'].reverse) = some Manifest.sig_list_reverseiterator := by kernel_rfl
theorem ri_next : Slot "list_reverseiterator" "__next__" "list_reverseiterator.__next__" := .of (owner := "list_reverseiterator") (n := "__next__") (by rw [typeLookup_type, builtinLookup_eq_fast]; kernel_rfl) (by decide +kernel) (by decide +kernel) (by decide +kernel) (by first | exact .inl (by decide +kernel) | exact .inr (by decide +kernel)) (by rw [isSubtype_type]; kernel_rfl)
theorem ri_iter : Slot "list_reverseiterator" "__iter__" "list_reverseiterator.__iter__" := .of (owner := "list_reverseiterator") (n := "__iter__") (by rw [typeLookup_type, builtinLookup_eq_fast]; kernel_rfl) (by decide +kernel) (by decide +kernel) (by decide +kernel) (by first | exact .inl (by decide +kernel) | exact .inr (by decide +kernel)) (by rw [isSubtype_type]; kernel_rfl)
theorem ri_enext : entryFor table "list_reverseiterator.__next__" = some Builtin.«list_reverseiterator.__next__» := entryFor_of_tree (by kernel_rfl)
theorem ri_eiter : entryFor table "list_reverseiterator.__iter__" = some Builtin.«dict_keyiterator.__iter__» := entryFor_alias (id' := "dict_keyiterator.__iter__") (by kernel_rfl) rfl (by decide +kernel) (by kernel_rfl)
theorem ri_anext (a : Value) : argsOk "list_reverseiterator.__next__" ⟨[a], []⟩ := by unfold argsOk; rw [signature?_of (id := "list_reverseiterator.__next__") (n := ['_', '_', 't', 'x', 'e', 'n', '_', '_']) (o := ['r', 'o', 't', 'a', 'r', 'e', 't', 'i', 'e', 's', 'r', 'e', 'v', 'e', 'r', '_', 't', 's', 'i', 'l']) (by kernel_rfl) ri_owner]; kernel_rfl
theorem ri_aiter (a : Value) : argsOk "list_reverseiterator.__iter__" ⟨[a], []⟩ := by unfold argsOk; rw [signature?_of (id := "list_reverseiterator.__iter__") (n := ['_', '_', 'r', 'e', 't', 'i', '_', '_']) (o := ['r', 'o', 't', 'a', 'r', 'e', 't', 'i', 'e', 's', 'r', 'e', 'v', 'e', 'r', '_', 't', 's', 'i', 'l']) (by kernel_rfl) ri_owner]; kernel_rfl
theorem ri_nolen : typeLookup (.type "list_reverseiterator") "__len__" = pure none := by rw [typeLookup_type, builtinLookup_eq_fast]; kernel_rfl
theorem ri_hint : typeLookup (.type "list_reverseiterator") "__length_hint__" = pure (some (.builtin "list_reverseiterator.__length_hint__")) := by rw [typeLookup_type, builtinLookup_eq_fast]; kernel_rfl
def IsRev (h : Heap) (it l : Addr) (k n : Nat) : Prop := ∃ o, h.get? it = some o ∧ o.cls = .type "list_reverseiterator" ∧ o.data = .fields #[.ref l, rawInt ((n : Int) - 1 - k)]
section
variable {prog : Program} {w : World} {A : Around} {E : Value → Shared → Prop} {s : Shared}
theorem IsRev.typeIs {it l : Addr} {k n : Nat} (x : IsRev s.heap it l k n) : s.TypeIs (.ref it) "list_reverseiterator" := let ⟨o, ho, hc, _⟩ := x; ⟨o, ho, hc⟩
theorem rev_item {it l : Addr} {k : Nat} {items : Array Value} {x : Value} {Q : Option Value → Shared → Prop} (hit : IsRev s.heap it l k items.size) (hl : s.heap.IsList l items) (hk : k < items.size) (hx : items[items.size - 1 - k]? = some x)
    (hQ : ∀ h', IsRev h' it l (k + 1) items.size → Heap.SameBut it s.heap h' → Q (some x) { s with heap := h' }) : wpAny (model prog w) A (pyNext (.ref it)) Q E s := by
  obtain ⟨o, a1, a2, a3⟩ := id hit; obtain ⟨ol, b1, _, nl, b3⟩ := hl
  unfold pyNext
  refine wpAny_bind (wpAny_attempt (wpAny_callSpecial?_slot (name := Str.ofString "__next__") hit.typeIs ri_next (wpAny_call_entry ri_next hit.typeIs ri_enext ?_ (ri_anext _))))
  show wpAny _ _ (field (.ref it) 1 >>= _) _ _ s
  refine wpAny_bind (wpAny_field a1 a3 (x := rawInt ((items.size : Int) - 1 - k)) rfl ?_)
  show wpAny _ _ (if ((items.size : Int) - 1 - k) < 0 then _ else _) _ _ s
  rw [if_neg (by omega)]; show wpAny _ _ (field (.ref it) 0 >>= _) _ _ s
  refine wpAny_bind (wpAny_field a1 a3 (x := .ref l) rfl ?_); refine wpAny_bind (wpAny_seqItems b1 b3 ?_)
  have e : ((items.size : Int) - 1 - k).toNat = items.size - 1 - k := by omega
  simp only [e, hx]
  refine wpAny_bind (wpAny_setField a1 a3 (by simp) (wpAny_pure ⟨x, rfl, wpAny_pure (hQ _ ?_ (Heap.SameBut.update ..))⟩))
  refine ⟨_, Heap.get?_update_self _ a1 (Obj.isFreed_of_fields (Obj.data_mapFields a3 _)), (Obj.cls_mapFields ..).trans a2, ?_⟩
  rw [Obj.data_mapFields a3, show (items.size : Int) - 1 - ((k + 1 : Nat) : Int) = (items.size : Int) - 1 - k - 1 by omega]
  simp [rawInt]
theorem rev_end {it l : Addr} {n : Nat} {Q : Option Value → Shared → Prop} (hh : A.handled = none) (hit : IsRev s.heap it l n n)
    (hQ : ∀ h', Heap.ExtBut it s.heap h' → Q none { s with heap := h' }) : wpAny (model prog w) A (pyNext (.ref it)) Q E s := by
  obtain ⟨o, a1, a2, a3⟩ := id hit
  unfold pyNext
  refine wpAny_bind (wpAny_attempt (wpAny_callSpecial?_slot (name := Str.ofString "__next__") hit.typeIs ri_next (wpAny_call_entry ri_next hit.typeIs ri_enext ?_ (ri_anext _))))
  show wpAny _ _ (field (.ref it) 1 >>= _) _ _ s
  refine wpAny_bind (wpAny_field a1 a3 (x := rawInt ((n : Int) - 1 - n)) rfl ?_)
  show wpAny _ _ (if ((n : Int) - 1 - n) < 0 then _ else _) _ _ s
  rw [if_pos (by omega)]; refine wpAny_bind (wpAny_rule ?_); refine wpAny_bind ?_
  show wpAny _ _ (newExc (.type "StopIteration") [] >>= _) _ _ _; refine wpAny_bind ?_
  simp only [newExc, newTuple]; refine wpAny_bind (wpAny_newObj_type ?_ (by size_fits))
  refine wpAny_bind (m := firstArgMember _ _) (wpAny_of_eq (a := Value.none) (by first | rfl | (simp only [firstArgMember]; rfl)) ?_); refine wpAny_newObj_type ?_ (by size_fits)
  simp only [raiseNew]; refine wpAny_bind (wpAny_handled ?_); rw [show A.in1.handled = none from hh]
  refine wpAny_bind (wpAny_pure (wpAny_throw ?_)); refine wpAny_bind (wpAny_isInstance (T := "StopIteration") (b := true) ⟨_, Heap.get?_push_size _ rfl, rfl⟩ isSubtype_stop ?_)
  exact wpAny_pure (hQ _ (((Heap.SameBut.refl it s.heap).extBut.push _).push _))
theorem rev_self {it l : Addr} {k n : Nat} {Q : Value → Shared → Prop} (hit : IsRev s.heap it l k n) (h : Q (.ref it) s) : wpAny (model prog w) A (pyIter (.ref it)) Q E s := by
  refine wpAny_pyIter_slot hit.typeIs ri_iter (wpAny_call_entry ri_iter hit.typeIs ri_eiter ?_ (ri_aiter _))
  show wpAny _ _ (ret (.ref it)) _ _ s; exact wpAny_pure ⟨_, rfl, "list_reverseiterator", _, hit.typeIs, ri_next.lookup, h⟩
theorem rev_walks (hh : A.handled = none) (I l : Addr) (hne : l ≠ I) (items : Array Value) : Walks prog w A I [I, l] [I] items.size (fun i v => items[items.size - 1 - i]? = some v) (fun i h => IsRev h I l i items.size ∧ h.IsList l items) where
  sub := fun b hb => by simp at hb; simp [hb]
  frame := fun _ _ _ st hk => ⟨let ⟨o, ho, r⟩ := st.1; ⟨o, hk I (by simp) o ho, r⟩, let ⟨o, ho, r⟩ := st.2; ⟨o, hk l (by simp) o ho, r⟩⟩
  item := fun i s Q E hi st hQ => by
    have hx : items[items.size - 1 - i]? = some items[items.size - 1 - i] := Array.getElem?_eq_getElem (by omega)
    refine rev_item st.1 st.2 hi hx fun h' it' hs' => ?_
    exact hQ _ h' s.toks hx ⟨it', let ⟨o, ho, r⟩ := st.2; ⟨o, hs'.extBut l o hne ho, r⟩⟩ fun b o hb e => hs'.extBut b o (fun h => hb (by simp [h])) e
  done := fun s Q E st hQ => rev_end hh st.1 fun h' he' => hQ h' s.toks fun b o hb e => he' b o (fun h => hb (by simp [h])) e
  self := fun _ _ _ _ st hQ => rev_self st.1 hQ
theorem rev_hint {r l : Addr} {k n : Nat} {Q : Bool → Shared → Prop} (hT : IsRev s.heap r l k n) (h : Q false s) : wpAny (model prog w) A (Builtin.List.listLengthHint (.ref r)) Q E s := by
  unfold Builtin.List.listLengthHint
  refine wpAny_bind (wpAny_specialOf hT.typeIs ri_nolen ?_)
  refine wpAny_ite_split (fun hab => absurd hab (by decide +kernel)) (fun _ => ?_)
  refine wpAny_ite_split (fun hab => absurd hab (by decide +kernel)) (fun _ => ?_)
  refine wpAny_bind (wpAny_specialOf hT.typeIs ri_hint ?_)
  generalize hid : ("list_reverseiterator.__length_hint__" : String) = id0
  wp_delta
  rw [show splitId id0 = some ("list_reverseiterator", "__length_hint__") from by subst hid; decide +kernel]
  subst hid
  refine wpAny_bind (wpAny_isInstance (T := "list_reverseiterator") (b := true) hT.typeIs (by rw [isSubtype_type]; kernel_rfl) ?_)
  refine wpAny_ite_split (fun hab => absurd hab (by decide)) (fun _ => ?_)
  refine wpAny_ite_split (fun _ => ?_) (fun hab => absurd (by decide +kernel) hab)
  refine wpAny_ite_split (fun hab => absurd hab (by decide +kernel)) (fun _ => ?_)
  exact wpAny_pure h
end
section
variable {prog : Program} {w : World} {A : Around} {E : Value → Shared → Prop} {s : Shared} {T : String} {J : Addr} {fp wr : List Addr} {n : Nat} {P : Nat → Value → Prop} {St : Nat → Heap → Prop}
structure ItSrc (prog : Program) (w : World) (T : String) (J : Addr) (fp wr : List Addr) (n : Nat) (P : Nat → Value → Prop) (St : Nat → Heap → Prop) : Prop where
  walks : ∀ A : Around, A.handled = none → Walks prog w A J fp wr n P St
  type : ∀ s : Shared, St 0 s.heap → s.TypeIs (.ref J) T
  nl : (Value.type T == Value.type "list") = false
  nt : (Value.type T == Value.type "tuple") = false
  hint : ∀ (A : Around) (E : Value → Shared → Prop) (s : Shared) (Q : Bool → Shared → Prop), St 0 s.heap → Q false s → wpAny (model prog w) A (Builtin.List.listLengthHint (.ref J)) Q E s
  mem : J ∈ fp
  sub : wr ⊆ fp
theorem it_extend {R : Result → Shared → Prop} (K : ItSrc prog w T J fp wr n P St) (hh : A.handled = none) (st : St 0 s.heap) (S : Addr) (hSf : S ∉ fp) (res : Value) (c₀ : Nat) (hS : s.heap.get? S = some { cls := .type "list", data := .seq #[] c₀ })
    (hR : ∀ h' tk acc' c', (∀ b o, b ≠ S → b ∉ wr → s.heap.get? b = some o → h'.get? b = some o) → h'.get? S = some { cls := .type "list", dict := none, data := .seq acc' c', slots := #[] } → ItemsOf P acc' n → R (.ok (.ret res)) { s with heap := h', toks := tk }) (hn : n ≤ sizeLine) :
    wpAny (model prog w) A.in1 (Builtin.List.listExtendWith (.ref S) (.ref J) res) (fun fin s' => match fin with | .done f => R (.ok f) s' | .again c' => c'.quiet = true ∧ codeAny (model prog w) A c' R s') (fun e s' => R (.error e) s') s := by
  have hSJ : S ≠ J := fun e => hSf (e ▸ K.mem)
  have W := K.walks A.in1 hh
  have key : ∀ (h : Heap) (c₁ tk : Nat), St 0 h → (∀ b o, b ≠ S → s.heap.get? b = some o → h.get? b = some o) → h.get? S = some { cls := .type "list", data := .seq #[] c₁ } → codeAny (model prog w) A (.builtin "list.extend.loop" ⟨[.ref S, .ref J, res], []⟩) R { s with heap := h, toks := tk } := by
    intro h c₁ tk hst hk hS₁
    refine codeAny_extend_loopS W.toS hn S hSf res n 0 _ #[] c₁ rfl (Nat.zero_le _) hst hS₁ (ItemsOf.nil _) fun s' acc' c' hm hS' hacc => ?_
    rw [Moved.eq_with hm]; refine hR s'.heap s'.toks acc' c' (fun b o hb hw e => hm.heap b o (fun hmem => ?_) (hk b o hb e)) hS' hacc
    rcases List.mem_cons.mp hmem with e' | hmem'
    · exact hb e'
    · exact hw hmem'
  unfold Builtin.List.listExtendWith; refine wpAny_bind (wpAny_typeOf (T := T) (K.type s st) ?_)
  have h1 : Builtin.List.listSameRef (.ref S) (.ref J) = false := by simp [Builtin.List.listSameRef, hSJ]
  simp only [h1, K.nl, K.nt, Bool.or_false, Bool.false_eq_true, if_false]; refine wpAny_bind (W.self 0 _ _ _ st ?_)
  refine wpAny_bind (wpAny_holding (K.hint _ _ _ _ st ?_))
  refine wpAny_ite_split (fun _ => ?_) (fun _ => wpAny_pure ⟨plainId_quiet PySem.F.plain_extend_loop _, key _ c₀ _ st (fun b o _ e => e) hS⟩)
  refine wpAny_bind (wpAny_rule ?_); refine wpAny_bind ?_
  show wpAny _ _ (updateSeq S (·.push .none) >>= fun _ => updateSeq S (·.pop)) _ _ _; refine wpAny_bind (wpAny_updateSeq hS rfl ?_)
  have hS₂ := Heap.get?_update_self (Obj.mapSeq (·.push Value.none)) hS rfl
  refine wpAny_updateSeq (hz := by seq_fits) hS₂ rfl ?_; have hS₃ := Heap.get?_update_self (Obj.mapSeq (·.pop)) hS₂ rfl
  have oth : ∀ b o, b ≠ S → s.heap.get? b = some o → ((s.heap.update S (Obj.mapSeq (·.push Value.none))).update S (Obj.mapSeq (·.pop))).get? b = some o := fun b o hb e => (Heap.get?_update_other _ _ (Ne.symm hb)).trans ((Heap.get?_update_other _ _ (Ne.symm hb)).trans e)
  exact wpAny_pure ⟨plainId_quiet PySem.F.plain_extend_loop _, key _ _ _ (W.frame 0 _ _ st fun b hb o e => oth b o (fun h => hSf (h ▸ hb)) e) oth hS₃⟩
theorem it_init {R : Result → Shared → Prop} (K : ItSrc prog w T J fp wr n P St) (hh : A.handled = none) (st : St 0 s.heap) (S : Addr) (hSf : S ∉ fp) (hS : s.heap.get? S = some { cls := .type "list", data := .seq #[] })
    (hR : ∀ h' tk acc' c', (∀ b o, b ≠ S → b ∉ wr → s.heap.get? b = some o → h'.get? b = some o) → h'.get? S = some { cls := .type "list", dict := none, data := .seq acc' c', slots := #[] } → ItemsOf P acc' n → R (.ok (.ret .none)) { s with heap := h', toks := tk }) (hn : n ≤ sizeLine) :
    wpAny (model prog w) A.in1 (Builtin.«list.__init__» ⟨[.ref S, .ref J], []⟩) (fun fin s' => match fin with | .done f => R (.ok f) s' | .again c' => c'.quiet = true ∧ codeAny (model prog w) A c' R s') (fun e s' => R (.error e) s') s := by
  show wpAny _ _ (do let old ← Builtin.List.listItems (.ref S); Builtin.List.listUpdate (.ref S) (fun _ => #[]); letGo old.toList.reverse; Builtin.List.listExtendWith (.ref S) (.ref J) .none) _ _ s
  refine wpAny_bind ?_; unfold Builtin.List.listItems; refine wpAny_bind (wpAny_seqItems hS rfl (wpAny_pure ?_))
  show wpAny _ _ (updateSeq S (fun _ => #[]) >>= fun _ => letGo (#[] : Array Value).toList.reverse >>= fun _ => Builtin.List.listExtendWith (.ref S) (.ref J) .none) _ _ s
  refine wpAny_bind (wpAny_updateSeq hS rfl ?_); have hS₂ := Heap.get?_update_self (Obj.mapSeq (fun _ => (#[] : Array Value))) hS rfl
  have oth : ∀ b o, b ≠ S → s.heap.get? b = some o → (s.heap.update S (Obj.mapSeq (fun _ => (#[] : Array Value)))).get? b = some o := fun b o hb e => (Heap.get?_update_other _ _ (Ne.symm hb)).trans e
  refine wpAny_bind (wpAny_letGo ?_)
  refine it_extend K hh ((K.walks A.in1 hh).frame 0 _ _ st fun b hb o e => oth b o (fun h => hSf (h ▸ hb)) e) S hSf .none _ hS₂ (fun h' tk acc' c' hk hS' hacc => ?_) hn
  exact hR h' tk acc' c' (fun b o hb hw e => hk b o hb hw (oth b o hb e)) hS' hacc
theorem it_call {Q : Value → Shared → Prop} (K : ItSrc prog w T J fp wr n P St) (hh : A.handled = none) (st : St 0 s.heap) (hlt : ∀ b ∈ fp, b < s.heap.objs.size) (hn : n ≤ sizeLine)
    (hQ : ∀ h' tk acc' c', (∀ b o, b ∉ wr → s.heap.get? b = some o → h'.get? b = some o) → h'.get? s.heap.objs.size = some { cls := .type "list", dict := none, data := .seq acc' c', slots := #[] } → ItemsOf P acc' n → Q (.ref s.heap.objs.size) { s with heap := h', toks := tk }) :
    wpAny (model prog w) A (call (.type "list") [.ref J]) Q E s := by
  refine callType_codes (Q₁ := fun obj s₁ => obj = .ref s.heap.objs.size ∧ s₁ = { s with heap := s.heap.push { cls := .type "list", data := .seq #[] } }) PySem.F.called_list (PySem.F.typeCall_list_1 _) PySem.F.entry_list_init (code_list_new _ ⟨rfl, rfl⟩) fun obj s₁ h₁ => ?_
  obtain ⟨rfl, rfl⟩ := h₁
  have hS : (s.heap.push { cls := .type "list", data := .seq #[] }).get? s.heap.objs.size = some { cls := .type "list", data := .seq #[] } := Heap.get?_push_size _ rfl
  refine ⟨⟨_, hS, rfl⟩, PySem.F.args_list_init_2 _ _, it_init (A := A.in1) K hh ((K.walks A.in1 hh).frame 0 _ _ st fun b _ o e => Heap.get?_push_of_some _ e) _ (fun hm => Nat.lt_irrefl _ (hlt _ hm)) hS (fun h' tk acc' c' hk hS' hacc => ?_) hn⟩
  exact ⟨rfl, hQ h' tk acc' c' (fun b o hw e => hk b o (Nat.ne_of_lt (Heap.lt_size e)) hw (Heap.get?_push_of_some _ e)) hS' hacc⟩
theorem rev_src {r l : Addr} {items : Array Value} (hne : l ≠ r) : ItSrc prog w "list_reverseiterator" r [r, l] [r] items.size (fun i v => items[items.size - 1 - i]? = some v) (fun i h => IsRev h r l i items.size ∧ h.IsList l items) :=
  ⟨fun A hh => rev_walks hh r l hne items, fun _ st => st.1.typeIs, by decide, by decide, fun _ _ _ _ st hq => rev_hint st.1 hq, by simp, by simp⟩
end
theorem bt_reversed : bootBuiltins "reversed" = some (.type "reversed") := by decide +kernel
section
variable {X : Cx}
def tLR (ta : TA) : TE := fun σ H Q => ta σ H fun vs H1 => ∃ a xs, vs = [.ref a] ∧ H1 a = some (.lst xs) ∧ ∀ l, H1 l = none → Q (.ref l) (upd H1 l (.lst xs.reverse))
theorem pe_listRev {o : Expr} {ta : TA} {p p' ap pos : Pos} (hg : Gl X "list") (hm : X.mg "list" = none) (hg' : Gl X "reversed") (hm' : X.mg "reversed" = none) (hc : X.calm = true) (ha : PA X [o] ta) (hs : starEach [o] X.env = [(false, eval o X.env)] := by rfl)
    (he : starEach [Expr.Call (.Name "reversed" p') [o] [] ap] X.env = [(false, eval (.Call (.Name "reversed" p') [o] [] ap) X.env)] := by rfl) : PE X (.Call (.Name "list" p) [.Call (.Name "reversed" p') [o] [] ap] [] pos) (tLR ta) := by
  intro pins s σ H Q I h
  refine wpAny_Call_Name_kw (ld_blt I hg hm bt_list ?_ (by decide) (by decide))
  refine PyProof.Rows.callWith_type1 ?_ he (by rfl)
  rw [he]
  show wpAny _ _ (spliced [(false, _)]) _ _ s
  refine Calls.spliced_cons ?_
  refine wpAny_Call_Name_kw (ld_blt I hg' hm' bt_reversed ?_ (by decide) (by decide))
  refine PyProof.Rows.callWith_type1 (thn (ha ap pins s σ H _ I h) fun us s1 ⟨vs, H1, I1, r1, a, xs, e, h1, q⟩ => ?_) (by rw [hs]; rfl) (by rfl)
  subst e
  obtain ⟨u, rfl, ru⟩ := vals1 r1
  cases ru
  obtain ⟨hz, its, nn, rv, o1⟩ := (show ObjOk X.prog X.w H1 s1.heap a (.lst xs) from I1.hok a _ h1)
  have hlen := rv.length
  have hal : a < s1.heap.objs.size := Heap.lt_size o1
  refine call_reversed o1 ?_
  refine Calls.spliced_nil ?_
  have o2 : (s1.heap.push { cls := Value.type "list_reverseiterator", data := Data.fields #[Value.ref a, rawInt (((its.toArray.size : Nat) : Int) - 1)] }).get? a = some { cls := .type "list", dict := none, data := .seq its.toArray nn, slots := #[] } := Heap.get?_push_of_some _ o1
  have ri : IsRev (s1.heap.push { cls := Value.type "list_reverseiterator", data := Data.fields #[Value.ref a, rawInt (((its.toArray.size : Nat) : Int) - 1)] }) s1.heap.objs.size a 0 its.toArray.size := ⟨_, Heap.get?_push_size _ rfl, rfl, by simp⟩
  have sz : (s1.heap.push { cls := Value.type "list_reverseiterator", data := Data.fields #[Value.ref a, rawInt (((its.toArray.size : Nat) : Int) - 1)] }).objs.size = s1.heap.objs.size + 1 := Heap.size_push ..
  refine it_call (rev_src (r := s1.heap.objs.size) (l := a) (items := its.toArray) (Nat.ne_of_lt hal)) (I.ok.hd hc) ⟨ri, ⟨_, o2, rfl, nn, rfl⟩⟩ (fun b hb => ?_) (by rw [List.size_toArray]; omega) fun h' tk acc c' hk hS hacc => ?_
  · show b < (s1.heap.push _).objs.size
    rw [sz]
    simp only [List.mem_cons, List.not_mem_nil, or_false] at hb
    rcases hb with e | e
    · rw [e]; exact Nat.lt_succ_self _
    · rw [e]; exact Nat.lt_succ_of_lt hal
  have hold : ∀ b o, s1.heap.get? b = some o → h'.get? b = some o := fun b o e => hk b o (fun hm => by
    rw [List.mem_singleton] at hm
    exact absurd (hm ▸ Heap.lt_size e) (Nat.lt_irrefl _)) (Heap.get?_push_of_some _ e)
  have vals : Vals xs.reverse acc.toList := by
    have hal : acc.toList.length = its.length := by rw [Array.length_toList, hacc.1, List.size_toArray]
    refine vals_of (by rw [List.length_reverse, hal, hlen]) fun i y u hy hu => ?_
    have hi := (List.getElem?_eq_some_iff.mp hu).1
    rw [Array.getElem?_toList] at hu
    have e1 := hacc.2 i u hu
    rw [List.size_toArray] at e1
    have e2 : its[its.length - 1 - i]? = some u := by simpa using e1
    rw [List.getElem?_reverse (by omega)] at hy
    obtain ⟨u', hu', ru'⟩ := rv.get hy
    rw [hlen, e2] at hu'
    cases hu'
    exact ru'
  have hS' : h'.get? (s1.heap.objs.size + 1) = some { cls := Value.type "list", data := Data.seq acc c' } := by rw [← sz]; exact hS
  rw [show (Value.ref (Shared.heap { s1 with heap := s1.heap.push { cls := Value.type "list_reverseiterator", data := Data.fields #[Value.ref a, rawInt (((its.toArray.size : Nat) : Int) - 1)] } }).objs.size) = Value.ref (s1.heap.objs.size + 1) from congrArg Value.ref sz]
  exact ⟨.ref (s1.heap.objs.size + 1), _, I1.laid (a := s1.heap.objs.size + 1) (o := .lst xs.reverse) (t' := tk) hold (Nat.le_succ _) ⟨by rw [List.length_reverse]; exact hz, acc.toList, c', vals, by rw [Array.toArray_toList]; exact hS'⟩, rfl, q _ (I1.hok.fresh (Nat.le_succ _))⟩
theorem call_intB : CallR X (.type "int") (fun xs H Q => ∃ b, xs = [.bl b] ∧ Q (.int (if b then 1 else 0)) H) := by
  intro pins s σ H xs us Q I r h
  obtain ⟨b, rfl, q⟩ := h
  obtain ⟨u, rfl, ru⟩ := vals1 r
  have e : u = Value.bool b := ru
  subst e
  exact call_int_bool ⟨.int _, H, I.tok _, ⟨_, rfl⟩, q⟩
theorem mt_joinK (K : PySem.W.Frag) (h : X.K = K := by rfl) : MtR X "str.join" (fun x xs H Q => ∃ (z : Str) (p : Addr) (ys : List Str), x = .str z ∧ xs = [.ref p] ∧ SqL K H p (ys.map V.str) ∧ (ys.map (·.length)).sum + ys.length * z.length ≤ 16777216 ∧ Q (.str (Txt.join z ys)) H) := by subst h; exact mt_join
end
end L2
set_option Elab.async false
set_option linter.all false
set_option maxRecDepth 100000
namespace L2
open PySem PySem.Spec PyProof.Rows PySem.W
section
variable {X : Cx}
theorem pi_listK {tg l : Expr} {tl : TE} (K : PySem.W.Frag) (hl : PE X l tl) (h : X.K = K := by rfl) : PI X tg l (iList K tl) := by subst h; exact pi_list hl
end
end L2
set_option Elab.async false
set_option linter.all false
set_option maxRecDepth 100000
namespace L2
open PySem PySem.Spec PyProof.Rows PySem.W
def KOk (n : Nat) {α : Type} (P : α → Prop) : KasT α → Prop
  | .ret a => P a
  | .ask i j k => i < n ∧ j < n ∧ i ≠ j ∧ ∀ b, KOk n P (k b)
theorem KOk.bind {n : Nat} {α β : Type} {P : α → Prop} {R : β → Prop} {f : α → KasT β} : ∀ {t : KasT α}, KOk n P t → (∀ a, P a → KOk n R (f a)) → KOk n R (t.bind f)
  | .ret a, h, hf => hf a h
  | .ask i j k, h, hf => ⟨h.1, h.2.1, h.2.2.1, fun b => KOk.bind (h.2.2.2 b) hf⟩
theorem KOk.mono {n : Nat} {α : Type} {P R : α → Prop} (hp : ∀ a, P a → R a) : ∀ {t : KasT α}, KOk n P t → KOk n R t
  | .ret a, h => hp a h
  | .ask i j k, h => ⟨h.1, h.2.1, h.2.2.1, fun b => KOk.mono hp (h.2.2.2 b)⟩
theorem KOk.wp {n : Nat} {α : Type} {P : α → Prop} {cmp : Nat → Nat → (Bool → Shared → Prop) → Shared → Prop} {I : Shared → Prop} {Q : α → Shared → Prop}
    (hc : ∀ i j C s, I s → i < n → j < n → i ≠ j → (∀ b s', I s' → C b s') → cmp i j C s) (hq : ∀ a s, P a → I s → Q a s) : ∀ {t : KasT α} {s : Shared}, KOk n P t → I s → t.kasWp cmp Q s
  | .ret a, s, h, hi => hq a s h hi
  | .ask i j k, s, h, hi => hc i j _ s hi h.1 h.2.1 h.2.2.1 fun b s' hi' => KOk.wp hc hq (h.2.2.2 b) hi'
def PermN (n : Nat) (p : Array Nat) : Prop := p.toList.Perm (List.range n)
theorem PermN.size {n : Nat} {p : Array Nat} (h : PermN n p) : p.size = n := by
  have := List.Perm.length_eq h
  rwa [Array.length_toList, List.length_range] at this
theorem PermN.of {n : Nat} {p q : Array Nat} (h : PermN n p) (e : q.Perm p) : PermN n q := (Array.perm_iff_toList_perm.mp e).trans h
theorem PermN.rev {n : Nat} {p : Array Nat} (h : PermN n p) (i j : Nat) : PermN n (kas_rev p i j) := h.of (mirror_perm _ _ _ _)
theorem PermN.at {n : Nat} {p : Array Nat} (h : PermN n p) {i : Nat} (hi : i < n) : p.getD i 0 < n := by
  have hs : i < p.size := by rw [h.size]; exact hi
  have e : p.getD i 0 = p[i] := by simp [Array.getD, hs]
  rw [e]
  exact List.mem_range.mp (h.mem_iff.mp (by simp))
theorem PermN.ne {n : Nat} {p : Array Nat} (h : PermN n p) {i j : Nat} (hi : i < n) (hj : j < n) (hij : i ≠ j) : p.getD i 0 ≠ p.getD j 0 := by
  have hs : i < p.size := by rw [h.size]; exact hi
  have hs' : j < p.size := by rw [h.size]; exact hj
  have e : p.getD i 0 = p[i] := by simp [Array.getD, hs]
  have e' : p.getD j 0 = p[j] := by simp [Array.getD, hs']
  rw [e, e']
  have nd : p.toList.Nodup := h.nodup_iff.mpr List.nodup_range
  intro z
  have := List.pairwise_iff_getElem.mp nd
  rcases Nat.lt_or_gt_of_ne hij with l | l
  · exact this i j (by simpa using hs) (by simpa using hs') l (by simpa using z)
  · exact this j i (by simpa using hs') (by simpa using hs) l (by simpa using z.symm)
theorem PermN.ask {n : Nat} {p : Array Nat} (h : PermN n p) {α : Type} {P : α → Prop} {i j : Nat} {k : Bool → KasT α} (hi : i < n) (hj : j < n) (hij : i ≠ j) (hk : ∀ b, KOk n P (k b)) : KOk n P (.ask (p.getD i 0) (p.getD j 0) k) := ⟨h.at hi, h.at hj, h.ne hi hj hij, hk⟩
theorem asc_ok {n : Nat} {p : Array Nat} (h : PermN n p) : ∀ (f m : Nat), 1 ≤ m → m + f ≤ n → KOk n (fun r => m ≤ r ∧ r ≤ m + f) (kas_asc p f m)
  | 0, m, _, _ => ⟨Nat.le_refl _, Nat.le_refl _⟩
  | f + 1, m, h1, h2 => by
    refine h.ask (by omega) (by omega) (by omega) fun b => ?_
    cases b with
    | true => exact ⟨Nat.le_refl _, by omega⟩
    | false => exact KOk.mono (fun r hr => ⟨by omega, by omega⟩) (asc_ok h f (m + 1) (by omega) (by omega))
theorem desc_ok {n : Nat} : ∀ (f : Nat) (p : Array Nat) (m q : Nat), PermN n p → 1 ≤ m → m + f ≤ n → KOk n (fun r => PermN n r.1 ∧ m ≤ r.2.1 ∧ r.2.1 ≤ m + f) (kas_desc f p m q)
  | 0, p, m, q, h, _, _ => ⟨h, Nat.le_refl _, Nat.le_refl _⟩
  | f + 1, p, m, q, h, h1, h2 => by
    have up : ∀ p' q', PermN n p' → KOk n (fun r => PermN n r.1 ∧ m ≤ r.2.1 ∧ r.2.1 ≤ m + (f + 1)) (kas_desc f p' (m + 1) q') := fun p' q' hp' => KOk.mono (fun r hr => ⟨hr.1, by omega, by omega⟩) (desc_ok f p' (m + 1) q' hp' (by omega) (by omega))
    refine h.ask (by omega) (by omega) (by omega) fun b => ?_
    cases b with
    | true =>
      show KOk n _ (if q > 0 then _ else _)
      split
      · exact up _ _ (h.rev _ _)
      · exact up _ _ h
    | false =>
      refine h.ask (by omega) (by omega) (by omega) fun b => ?_
      cases b with
      | true => exact ⟨h, by show m ≤ m; omega, by show m ≤ _; omega⟩
      | false => exact up _ _ h
theorem tail3_ok {n m : Nat} {p : Array Nat} (h : PermN n p) (h1 : 1 ≤ m) (h2 : m ≤ n) : KOk n (fun r => PermN n r.2 ∧ 1 ≤ r.1 ∧ r.1 ≤ n) (kas_tail3 m n p) := by
  refine KOk.bind (asc_ok (h.rev _ _) (n - m) m h1 (by omega)) fun a ha => ?_
  exact ⟨h.rev _ _, by show 1 ≤ a; omega, by show a ≤ n; omega⟩
theorem descPart_ok {n m : Nat} {p : Array Nat} (h : PermN n p) (h1 : 1 ≤ m) (h2 : m + 1 ≤ n) : KOk n (fun r => PermN n r.2 ∧ 1 ≤ r.1 ∧ r.1 ≤ n) (kas_descPart m n p) := by
  refine KOk.bind (desc_ok (n - (m + 1)) p (m + 1) 0 h (by omega) (by omega)) fun r hr => ?_
  split
  · exact tail3_ok (hr.1.rev _ _) (by omega) (by omega)
  · exact tail3_ok hr.1 (by omega) (by omega)
theorem count_ok {n : Nat} {p : Array Nat} (h : PermN n p) (hn : 1 ≤ n) : KOk n (fun r => PermN n r.2 ∧ 1 ≤ r.1 ∧ r.1 ≤ n) (kas_count n p) := by
  refine KOk.bind (asc_ok h (n - 1) 1 (Nat.le_refl _) (by omega)) fun a ha => ?_
  by_cases e : (a == n) = true
  · rw [if_pos e]
    exact ⟨h, by show 1 ≤ a; omega, by show a ≤ n; omega⟩
  rw [if_neg e]
  have ne : a ≠ n := fun z => e (by rw [z]; simp)
  by_cases g : a > 1
  · rw [if_pos g]
    refine h.ask (by omega) (by omega) (by omega) fun b => ?_
    cases b with
    | true => exact ⟨h, by show 1 ≤ a; omega, by show a ≤ n; omega⟩
    | false => exact descPart_ok (h.rev _ _) (by omega) (by omega)
  · rw [if_neg g]
    exact descPart_ok h (by omega) (by omega)
theorem place_ok {n : Nat} {p : Array Nat} (h : PermN n p) {k : Nat} (hk : k < n) : ∀ (f l r : Nat), l ≤ k → r ≤ k → KOk n (fun x => x ≤ k) (kas_place p k f l r)
  | 0, l, r, hl, _ => hl
  | f + 1, l, r, hl, hr => by
    show KOk n _ (if l ≥ r then _ else _)
    split
    · exact hl
    · refine h.ask (by omega) (by omega) (by omega) fun b => ?_
      cases b with
      | true => exact place_ok h hk f l _ hl (by omega)
      | false => exact place_ok h hk f _ r (by omega) hr
theorem bin_ok {n : Nat} : ∀ (f : Nat) (p : Array Nat) (k : Nat), PermN n p → k + f ≤ n → KOk n (PermN n) (kas_bin f p k)
  | 0, p, k, h, _ => h
  | f + 1, p, k, h, hk => KOk.bind (place_ok h (by omega) k 0 k (by omega) (by omega)) fun l _ => bin_ok f _ (k + 1) (h.of (bubble_perm _ _ _)) (by omega)
theorem sort_ok {n : Nat} (hn : 1 ≤ n) : KOk n (PermN n) (kas_sort n) := by
  refine KOk.bind (count_ok (n := n) (p := List.toArray (List.range n)) (List.Perm.refl _) hn) fun r hr => ?_
  split
  · refine bin_ok _ _ _ hr.1 ?_
    have : max r.1 1 = r.1 := by omega
    omega
  · exact hr.1
section
variable {prog : Program} {w : World} {A : Around} {E : Value → Shared → Prop} {s : Shared}
theorem perm_out {vs : List Value} {p : Array Nat} (h : PermN vs.length p) : (p.toList.map fun i => vs.getD i Value.none).Perm vs := by
  have h1 : (p.toList.map fun i => vs.getD i Value.none).Perm ((List.range vs.length).map fun i => vs.getD i Value.none) := List.Perm.map _ h
  have e : (List.range vs.length).map (fun i => vs.getD i Value.none) = vs := by
    refine List.ext_getElem (by simp) fun i h1 h2 => ?_
    rw [List.getElem_map, List.getElem_range]
    rw [List.getD_eq_getElem?_getD, List.getElem?_eq_getElem h2]
    rfl
  rwa [e] at h1
theorem perm_sort {κ : SortKind} {a : Addr} {vs : List Value} {n : Nat} {P : PySem.Fin → Shared → Prop} (ho : s.heap.get? a = some (seqObj "list" vs.toArray n)) (h64 : vs.length < 64)
    (hk : ∀ (s' : Shared) (Q : SortKind → Shared → Prop), 2 ≤ vs.length → (∀ b o, b ≠ a → s.heap.get? b = some o → s'.heap.get? b = some o) → Q κ s' → wpAny (model prog w) A (keyKind' vs.toArray) Q E s')
    (hc : ∀ (s' : Shared) (i j : Nat) (C : Bool → Shared → Prop), (∀ b o, b ≠ a → s.heap.get? b = some o → s'.heap.get? b = some o) → i < vs.length → j < vs.length → i ≠ j → (∀ b tk, C b { s' with toks := tk }) → wpAny (model prog w) A (keyLt' κ (vs.getD i Value.none) (vs.getD j Value.none)) C (fun _ _ => False) s')
    (h : ∀ (out : List Value) (tk : Nat), out.Perm vs → P (.done (.ret .none)) { s with heap := sortedHeap s.heap a vs out.toArray, toks := tk }) : wpAny (model prog w) A (Builtin.«list.sort» ⟨[.ref a], []⟩) P E s := by
  rw [list_sort_plain]
  have ha : a < s.heap.objs.size := Heap.lt_size ho
  have hsz : vs.toArray.size = vs.length := by simp
  refine wpAny_bind (listItems_at ho rfl ?_); refine wpAny_bind (listUpdate_at ho rfl ?_ (by rw [hsz, sizeLine_eq]; omega) (Nat.zero_le _))
  obtain ⟨e1, ho1⟩ : ∃ e1, (s.heap.update a (Obj.mapSeq fun _ => #[])).get? a = some (seqObj "list" #[] e1) := ⟨_, get?_update_seq ho (fun _ => #[])⟩
  refine wpAny_bind (seqEpoch_at ho1 rfl ?_); refine wpAny_bind (wpAny_newTuple ?_ (by show vs.length ≤ _; rw [sizeLine_eq]; omega))
  refine wpAny_bind (wpAny_newList ?_ (Nat.zero_le _)); refine wpAny_holding ?_
  have ho6 : (((s.heap.update a (Obj.mapSeq fun _ => #[])).push (seqObj "tuple" vs.toArray 0)).push (seqObj "list" #[] 0)).get? a = some (seqObj "list" #[] e1) := by
    rw [Heap.get?_push_ne _ _ _ (by rw [size_push', Heap.size_update]; exact Nat.ne_of_lt (Nat.lt_succ_of_lt ha)), Heap.get?_push_ne _ _ _ (by rw [Heap.size_update]; exact Nat.ne_of_lt ha)]; exact ho1
  have keep : ∀ b o, b ≠ a → s.heap.get? b = some o → (((s.heap.update a (Obj.mapSeq fun _ => #[])).push (seqObj "tuple" vs.toArray 0)).push (seqObj "list" #[] 0)).get? b = some o := fun b o hb e => Heap.get?_push_of_some _ (Heap.get?_push_of_some _ ((Heap.get?_update_other _ _ (Ne.symm hb)).trans e))
  show wpAny (model prog w) A _ P E { s with heap := ((s.heap.update a (Obj.mapSeq fun _ => #[])).push (seqObj "tuple" vs.toArray 0)).push (seqObj "list" #[] 0) }
  dsimp only
  by_cases h2 : vs.toArray.size < 2
  · rw [if_pos h2, if_pos h2]; refine wpAny_bind (wpAny_pure ?_)
    rw [StateT.run_pure]; refine wpAny_bind (wpAny_pure ?_); dsimp only
    have e : (vs.toArray.zip vs.toArray).map (·.2) = vs.toArray := by
      apply Array.toList_inj.mp
      simp [List.map_snd_zip]
    refine wpAny_bind (seqEpoch_at ho6 rfl ?_)
    refine wpAny_bind (listUpdate_at ho6 rfl ?_ (Nat.zero_le _) (by show ((vs.toArray.zip vs.toArray).map (·.2)).size ≤ _; rw [e, hsz, sizeLine_eq]; omega))
    simp only [bne_self_eq_false, Bool.false_eq_true, if_false]
    refine wpAny_pure ?_
    show P _ { s with heap := sortedHeap s.heap a vs ((vs.toArray.zip vs.toArray).map (·.2)) }
    rw [e]
    exact h vs s.toks (List.Perm.refl _)
  · rw [if_neg h2, if_neg h2]
    have h2' : 2 ≤ vs.length := by omega
    refine wpAny_bind (hk _ _ h2' keep ?_)
    have hwp : (kas_sort vs.length).kasWp (kas_ask prog w A κ vs) (fun p s' => PermN vs.length p ∧ ∃ tk, s' = { s with heap := ((s.heap.update a (Obj.mapSeq fun _ => #[])).push (seqObj "tuple" vs.toArray 0)).push (seqObj "list" #[] 0), toks := tk }) { s with heap := ((s.heap.update a (Obj.mapSeq fun _ => #[])).push (seqObj "tuple" vs.toArray 0)).push (seqObj "list" #[] 0) } := by
      refine KOk.wp (I := fun s' => ∃ tk, s' = { s with heap := ((s.heap.update a (Obj.mapSeq fun _ => #[])).push (seqObj "tuple" vs.toArray 0)).push (seqObj "list" #[] 0), toks := tk }) (fun i j C s' hI hi hj hij hC => ?_) (fun p s' hp hI => ⟨hp, hI⟩) (sort_ok (by omega)) ⟨s.toks, rfl⟩
      obtain ⟨tk, rfl⟩ := hI
      exact hc _ i j C keep hi hj hij (fun b tk => hC b _ ⟨tk, rfl⟩)
    refine wpAny_bind (wpAny_mono (kat_run (Q := fun st' s' => ∃ p : Array Nat, p.size = vs.length ∧ arrOf st' = p.map (kas_item (vs.toArray.zip vs.toArray)) ∧ failedOf st' = none ∧ PermN vs.length p ∧ ∃ tk, s' = { s with heap := ((s.heap.update a (Obj.mapSeq fun _ => #[])).push (seqObj "tuple" vs.toArray 0)).push (seqObj "list" #[] 0), toks := tk }) rfl h2' h64 (fun p st' s' a1 a2 a3 a4 => ⟨p, a1, a2, a3, a4⟩) hwp) ?_ fun _ _ e => e)
    rintro ⟨⟨⟩, st'⟩ s' ⟨p, hp, har, hf, hpn, tk, rfl⟩
    dsimp only
    have hout := kat_snds (ks := vs) (vs := vs) rfl har
    have ho7 : (Shared.heap { s with heap := ((s.heap.update a (Obj.mapSeq fun _ => #[])).push (seqObj "tuple" vs.toArray 0)).push (seqObj "list" #[] 0), toks := tk }).get? a = some (seqObj "list" #[] e1) := ho6
    refine wpAny_bind (seqEpoch_at ho7 rfl ?_)
    refine wpAny_bind (listUpdate_at ho7 rfl ?_ (Nat.zero_le _) (by rw [hout, List.size_toArray, List.length_map, Array.length_toList, hp, sizeLine_eq]; omega))
    rw [hf]
    simp only [bne_self_eq_false, Bool.false_eq_true, if_false]
    refine wpAny_pure ?_
    rw [hout]
    exact h _ tk (perm_out hpn)
theorem perm_sorted {κ : SortKind} {l : Addr} {vs : List Value} {Q : Value → Shared → Prop} (hl : s.heap.IsList l vs.toArray) (h64 : vs.length < 64)
    (hk : ∀ (s' : Shared) (E : Value → Shared → Prop) (Q : SortKind → Shared → Prop), 2 ≤ vs.length → (∀ b o, s.heap.get? b = some o → s'.heap.get? b = some o) → Q κ s' → wpAny (model prog w) A.in1.in1 (keyKind' vs.toArray) Q E s')
    (hc : ∀ (s' : Shared) (i j : Nat) (C : Bool → Shared → Prop), (∀ b o, s.heap.get? b = some o → s'.heap.get? b = some o) → i < vs.length → j < vs.length → i ≠ j → (∀ b tk, C b { s' with toks := tk }) → wpAny (model prog w) A.in1.in1 (keyLt' κ (vs.getD i Value.none) (vs.getD j Value.none)) C (fun _ _ => False) s')
    (h : ∀ (h' : Heap) (tk e : Nat) (out : List Value), out.Perm vs → (∀ b o, s.heap.get? b = some o → h'.get? b = some o) → h'.get? (s.heap.objs.size + 1) = some (seqObj "list" out.toArray e) → Q (.ref (s.heap.objs.size + 1)) { s with heap := h', toks := tk }) :
    wpAny (model prog w) A (call (.builtin "sorted") [.ref l]) Q E s := by
  refine Calls.call_function_entry kind_sorted plain_sorted entry_sorted (args_sorted1 _) ?_
  unfold Builtin.«sorted»; refine wpAny_bind (m := checkCount "sorted" 1 1 _) (wpAny_pure ?_)
  refine wpAny_bind (collect_list hl ?_ (by rw [sizeLine_eq]; omega)); refine wpAny_bind (wpAny_newList ?_ (by rw [sizeLine_eq]; omega))
  have hsz : ((s.heap.push (seqObj "list" #[] 0)).update s.heap.objs.size (Obj.mapSeq (· ++ vs.toArray))).objs.size = s.heap.objs.size + 1 := by rw [Heap.size_update, size_push']
  have hoL : (((s.heap.push (seqObj "list" #[] 0)).update s.heap.objs.size (Obj.mapSeq (· ++ vs.toArray))).push (seqObj "list" vs.toArray 0)).get? (s.heap.objs.size + 1) = some (seqObj "list" vs.toArray 0) := by rw [← hsz]; exact Heap.get?_push_size _ rfl
  have keep : ∀ b o, s.heap.get? b = some o → (((s.heap.push (seqObj "list" #[] 0)).update s.heap.objs.size (Obj.mapSeq (· ++ vs.toArray))).push (seqObj "list" vs.toArray 0)).get? b = some o := fun b o q => by
    have hlt : b < s.heap.objs.size := Heap.lt_size q
    rw [Heap.get?_push_ne _ _ _ (by rw [hsz]; exact Nat.ne_of_lt (Nat.lt_succ_of_lt hlt)), Heap.get?_update_ne _ _ _ _ (Nat.ne_of_lt hlt), Heap.get?_push_ne _ _ _ (Nat.ne_of_lt hlt)]; exact q
  have nb : ∀ {b : Addr} {o : Obj}, s.heap.get? b = some o → b ≠ s.heap.objs.size + 1 := fun q => Nat.ne_of_lt (Nat.lt_succ_of_lt (Heap.lt_size q))
  show wpAny _ _ _ _ _ { s with heap := ((s.heap.push (seqObj "list" #[] 0)).update s.heap.objs.size (Obj.mapSeq (· ++ vs.toArray))).push (seqObj "list" vs.toArray 0) }
  rw [hsz]
  refine wpAny_bind (wpAny_holding (wpAny_call_entry slot_list_sort ⟨_, hoL, rfl⟩ entry_list_sort (perm_sort (κ := κ) (A := A.in1.in1) hoL h64 (fun s' Q' h2 kp hq => hk s' _ Q' h2 (fun b o e => kp b o (nb e) (keep b o e)) hq) (fun s' i j C kp hi hj hij hC => hc s' i j C (fun b o e => kp b o (nb e) (keep b o e)) hi hj hij hC) fun out tk hp => ⟨_, rfl, ?_⟩) (args_list_sort _)))
  obtain ⟨e, he⟩ := sortedHeap_at (out := out.toArray) hoL
  refine wpAny_pure ⟨_, rfl, h _ tk e out hp (fun b o q => ?_) he⟩
  rw [sortedHeap_old (nb q) (Heap.lt_size (keep b o q))]
  exact keep b o q
end
section
variable {X : Cx}
theorem refs_are : ∀ {as : List Addr} {us : List Value}, Vals (as.map V.ref) us → us = as.map Value.ref
  | [], _, .nil => rfl
  | a :: as, _, .cons r t => by
    have e : _ = Value.ref a := r
    rw [e, refs_are t]
    rfl
def TupS (H : Hp) (a : Addr) (z : Str) : Prop := ∃ r, H a = some (.tup (.str z :: r))
theorem TupS.raw {P : Program} {w : World} {H : Hp} {h : Heap} {a : Addr} {z : Str} (ok : HOk P w H h) (t : TupS H a z) : ∃ o xs n tk r, h.get? a = some o ∧ o.cls = .type "tuple" ∧ o.data = .seq xs n ∧ xs = (Value.str z tk :: r).toArray := by
  obtain ⟨r, ht⟩ := t
  obtain ⟨_, its, rr, o, h1, h2, n, h3⟩ := (show ObjOk P w H h a (.tup (.str z :: r)) from ok a _ ht)
  cases rr with
  | cons r1 r2 =>
    obtain ⟨tk, rfl⟩ := r1
    exact ⟨o, _, n, tk, _, h1, h2, h3, rfl⟩
theorem kat_of {P : Program} {w : World} {H : Hp} {h h' : Heap} (ok : HOk P w H h) (kp : ∀ b o, h.get? b = some o → h'.get? b = some o) : ∀ (as : List Addr) (zs : List Str), as.length = zs.length → (∀ (i : Nat) (a : Addr) (z : Str), as[i]? = some a → zs[i]? = some z → TupS H a z) → ∃ fs, KatTups h' (as.map Value.ref) fs ∧ fs.length = as.length ∧ ∀ f ∈ fs, ∃ z tk, f = Value.str z tk
  | [], [], _, _ => ⟨[], trivial, rfl, fun _ h => nomatch h⟩
  | [], _ :: _, h, _ => by simp at h
  | _ :: _, [], h, _ => by simp at h
  | a :: as, z :: zs, hl, ht => by
    obtain ⟨fs, h1, h2, h3⟩ := kat_of ok kp as zs (by simpa using hl) fun i a' z' ha hz => ht (i + 1) a' z' (by simpa using ha) (by simpa using hz)
    obtain ⟨o, xs, n, tk, r, g1, g2, g3, g4⟩ := (ht 0 a z rfl rfl).raw ok
    refine ⟨Value.str z tk :: fs, ⟨⟨a, o, xs, n, rfl, kp _ _ g1, g2, g3, by rw [g4]; simp⟩, h1⟩, by simp [h2], fun f hf => ?_⟩
    rcases List.mem_cons.mp hf with e | hf
    · exact ⟨z, tk, e⟩
    · exact h3 f hf
theorem looks_str {M : Model} {h : Heap} {z : Str} {tk : Tok} : Looks M h (typeOf (.str z tk)) (.type "str") := fun A Q E s _ q => wpAny_typeOf (typeIs_str s z tk) q
theorem call_sortedP : CallR X (.builtin "sorted") (fun xs H Q => X.calm = true ∧ ∃ (p : Addr) (as : List Addr) (zs : List Str), xs = [.ref p] ∧ H p = some (.lst (as.map V.ref)) ∧ as.length = zs.length ∧ zs.length < 64 ∧ zs.Nodup ∧ (∀ (i : Nat) (a : Addr) (z : Str), as[i]? = some a → zs[i]? = some z → TupS H a z) ∧
    ∀ (l : Addr) (as' : List Addr), H l = none → as'.Perm as → Q (.ref l) (upd H l (.lst (as'.map V.ref)))) := by
  intro pins s σ H xs us Q I r h
  obtain ⟨hcalm, p, as, zs, rfl, hp, hl, h64, hnd, ht, q⟩ := h
  obtain ⟨u, rfl, ru⟩ := vals1 r
  cases ru
  obtain ⟨hz, its, nn, rv, o1⟩ := (show ObjOk X.prog X.w H s.heap p (.lst (as.map V.ref)) from I.hok p _ hp)
  have e := refs_are rv
  subst e
  have hlen : (as.map Value.ref).length = as.length := List.length_map _
  refine perm_sorted (κ := tuples' true) (vs := as.map Value.ref) ⟨_, o1, rfl, nn, rfl⟩ (by omega) (fun s' E' Q' h2 kp hq => ?_) (fun s' i j C kp hi hj hij hC => ?_) fun h' tk e out hperm kp hS => ?_
  · obtain ⟨fs, k1, k2, k3⟩ := kat_of I.hok kp as zs hl ht
    refine kat_kind (T := .type "str") k1 (by omega) (fun v hv => ?_) (by decide) hq
    obtain ⟨z, tk, rfl⟩ := k3 v hv
    exact looks_str
  · rw [hlen] at hi hj
    have gi : (as.map Value.ref).getD i Value.none = .ref as[i] := by rw [List.getD_eq_getElem?_getD, List.getElem?_map, List.getElem?_eq_getElem hi]; rfl
    have gj : (as.map Value.ref).getD j Value.none = .ref as[j] := by rw [List.getD_eq_getElem?_getD, List.getElem?_map, List.getElem?_eq_getElem hj]; rfl
    have hiz : i < zs.length := by omega
    have hjz : j < zs.length := by omega
    obtain ⟨oi, xi, ni, ti, ri, a1, a2, a3, a4⟩ := (ht i as[i] zs[i] (List.getElem?_eq_getElem hi) (List.getElem?_eq_getElem hiz)).raw I.hok
    obtain ⟨oj, xj, nj, tj, rj, b1, b2, b3, b4⟩ := (ht j as[j] zs[j] (List.getElem?_eq_getElem hj) (List.getElem?_eq_getElem hjz)).raw I.hok
    have hne : zs[i] ≠ zs[j] := by
      rcases Nat.lt_or_gt_of_ne hij with l | l
      · exact (List.pairwise_iff_getElem.mp hnd) i j hiz hjz l
      · exact ((List.pairwise_iff_getElem.mp hnd) j i hjz hiz l).symm
    rw [gi, gj]
    subst a4 b4
    refine kat_lt (kp _ _ a1) a3 (kp _ _ b1) b3 ?_
    show KatLex _ _ _ _ _ _ ((Value.str zs[i] ti, Value.str zs[j] tj) :: ri.zip rj) 0 s'
    refine kat_cons (wpAny_eqBool_str ?_)
    rw [decide_eq_false hne]
    refine kat_no ?_
    show wpAny _ _ (oneLt' true _ _) _ _ _
    exact oneLt_str (hC _ s'.toks)
  · obtain ⟨as', e1, e2⟩ : ∃ as' : List Addr, out = as'.map Value.ref ∧ as'.Perm as := by
      have : ∀ v ∈ out, ∃ a, v = Value.ref a := fun v hv => by
        obtain ⟨a, _, e⟩ := List.mem_map.mp (hperm.mem_iff.mp hv)
        exact ⟨a, e.symm⟩
      have ho : out = (out.map fun v => match v with | .ref a => a | _ => 0).map Value.ref := by
        rw [List.map_map]
        conv => lhs; rw [← List.map_id out]
        refine List.map_congr_left fun v hv => ?_
        obtain ⟨a, rfl⟩ := this v hv
        rfl
      refine ⟨_, ho, ?_⟩
      have h2 := List.Perm.map (fun v : Value => match v with | .ref a => a | _ => (0 : Addr)) hperm
      rw [List.map_map] at h2
      have h3 : as.map ((fun v : Value => match v with | .ref a => a | _ => (0 : Addr)) ∘ Value.ref) = as := by
        conv => rhs; rw [← List.map_id as]
        rfl
      rwa [h3] at h2
    subst e1
    have hl' := e2.length_eq
    have vals : Vals (as'.map V.ref) (as'.map Value.ref) := vals_of (by simp) fun i y u hy hu => by
      rw [List.getElem?_map] at hy hu
      obtain ⟨a1, g1, rfl⟩ := Option.map_eq_some_iff.mp hy
      obtain ⟨a2, g2, rfl⟩ := Option.map_eq_some_iff.mp hu
      rw [g1] at g2
      cases g2
      rfl
    exact ⟨.ref (s.heap.objs.size + 1), _, I.laid (a := s.heap.objs.size + 1) (o := .lst (as'.map V.ref)) (t' := tk) kp (Nat.le_succ _) ⟨by rw [List.length_map, sizeLine_eq]; omega, _, e, vals, hS⟩, rfl, q _ _ (I.hok.fresh (Nat.le_succ _)) e2⟩
end
end L2
set_option Elab.async false
set_option linter.all false
set_option maxRecDepth 100000
namespace L2
open PySem PySem.Spec PyProof.Rows PySem.W
section
variable {X : Cx}
end
end L2
set_option Elab.async false
set_option linter.all false
set_option maxRecDepth 100000
namespace L2
open PySem PySem.Spec PyProof.Rows PySem.SeqAt
def SqH (b : Bool) (h : Heap) (l : Addr) (xs : Array Value) : Prop := match b with
  | true => h.IsTuple l xs
  | false => h.IsList l xs
def SqI (b : Bool) (h : Heap) (it l : Addr) (i : Nat) : Prop := match b with
  | true => h.IsTupleIter it l i
  | false => h.IsListIter it l i
def itN (b : Bool) : String := match b with
  | true => "tuple_iterator"
  | false => "list_iterator"
def hoK (b : Bool) (xs : List V) : HO := match b with
  | true => .tup xs
  | false => .lst xs
theorem SqI.keep {b : Bool} {h h' : Heap} {it l : Addr} {i : Nat} (x : SqI b h it l i) (e : ∀ o, h.get? it = some o → h'.get? it = some o) : SqI b h' it l i := by
  cases b with
  | true => obtain ⟨o, ho, r⟩ := x; exact ⟨o, e _ ho, r⟩
  | false => obtain ⟨o, ho, r⟩ := x; exact ⟨o, e _ ho, r⟩
theorem SqH.keep {b : Bool} {h h' : Heap} {l : Addr} {xs : Array Value} (x : SqH b h l xs) (e : ∀ o, h.get? l = some o → h'.get? l = some o) : SqH b h' l xs := by
  cases b with
  | true => obtain ⟨o, ho, r⟩ := x; exact ⟨o, e _ ho, r⟩
  | false => obtain ⟨o, ho, r⟩ := x; exact ⟨o, e _ ho, r⟩
theorem SqI.obj {b : Bool} {h : Heap} {it l : Addr} {i : Nat} (x : SqI b h it l i) : ∃ o, h.get? it = some o ∧ ∀ v, o.data ≠ .cell v := by
  cases b with
  | true => obtain ⟨o, ho, _, d⟩ := x; exact ⟨o, ho, fun v e => by rw [d] at e; cases e⟩
  | false => obtain ⟨o, ho, _, d⟩ := x; exact ⟨o, ho, fun v e => by rw [d] at e; cases e⟩
theorem SqI_ext {b : Bool} {h h' : Heap} {it t c : Addr} {i : Nat} (x : SqI b h it t i) (e : Heap.ExtBut c h h') (n : it ≠ c) : SqI b h' it t i := x.keep fun o => e _ o n
theorem SqH_ext {b : Bool} {h h' : Heap} {t c : Addr} {xs : Array Value} (x : SqH b h t xs) (e : Heap.ExtBut c h h') (n : t ≠ c) : SqH b h' t xs := x.keep fun o => e _ o n
section
variable {prog : Program} {w : World} {A : Around} {E : Value → Shared → Prop} {s : Shared} {b1 b2 : Bool}
theorem nextK_item {b : Bool} {it t : Addr} {i : Nat} {xs : Array Value} {x : Value} {Q : Value → Shared → Prop} (hr : SqI b s.heap it t i) (ht : SqH b s.heap t xs) (hx : xs[i]? = some x)
    (q : ∀ h', SqI b h' it t (i + 1) → Heap.SameBut it s.heap h' → Q x { s with heap := h' }) : wpAny (model prog w) A (Builtin.SmallTypes.nextOf (.ref it)) Q E s := by
  cases b with
  | true => exact nextT_item hr ht hx q
  | false => exact wpAny_nextOf_list_item hr ht hx q
theorem nextK_end {b : Bool} {it t : Addr} {i : Nat} {xs : Array Value} {Q : Value → Shared → Prop} (hh : A.handled = none) (hr : SqI b s.heap it t i) (ht : SqH b s.heap t xs) (hx : xs[i]? = none)
    (q : ∀ h' e, Heap.ExtBut it s.heap h' → (∃ o, h'.get? e = some o ∧ o.cls = .type "StopIteration") → E (.ref e) { s with heap := h' }) : wpAny (model prog w) A (Builtin.SmallTypes.nextOf (.ref it)) Q E s := by
  cases b with
  | true => exact nextT_end hh hr ht hx q
  | false => exact wpAny_nextOf_list_end hh hr ht hx q
theorem pyIterK {b : Bool} {t : Addr} {items : Array Value} {Q : Value → Shared → Prop} (ht : SqH b s.heap t items)
    (hQ : Q (.ref s.heap.objs.size) { s with heap := s.heap.push { cls := .type (itN b), data := .fields #[.ref t, .int 0 0] } }) : wpAny (model prog w) A (pyIter (.ref t)) Q E s := by
  cases b with
  | true => exact wpAny_pyIter_tuple ht hQ
  | false => exact wpAny_pyIter_list ht hQ
theorem itK {b : Bool} {h : Heap} {it l : Addr} (e : h.get? it = some { cls := .type (itN b), data := .fields #[.ref l, .int 0 0] }) : SqI b h it l 0 := by
  cases b with
  | true => exact ⟨_, e, rfl, rfl⟩
  | false => exact ⟨_, e, rfl, rfl⟩
theorem zipK_item {z TI TO i1 i2 l1 l2 : Addr} {k : Nat} {xs ys : Array Value} {x y a b : Value} {Q : Value → Shared → Prop} (d : Apt z TI TO i1 i2 l1 l2)
    (gz : IsZip s.heap z TI TO .none) (gI : IsPair s.heap TI (.ref i1) (.ref i2)) (gO : IsPair s.heap TO a b) (r1 : SqI b1 s.heap i1 l1 k) (r2 : SqI b2 s.heap i2 l2 k) (t1 : SqH b1 s.heap l1 xs) (t2 : SqH b2 s.heap l2 ys) (hx : xs[k]? = some x) (hy : ys[k]? = some y)
    (q : ∀ h', IsZip h' z TI TO (rawInt s.heap.objs.size) → IsPair h' TO x y → SqI b1 h' i1 l1 (k + 1) → SqI b2 h' i2 l2 (k + 1) → IsPair h' s.heap.objs.size x y → h'.objs.size = s.heap.objs.size + 1 →
      (∀ c o, c ≠ z → c ≠ TO → c ≠ i1 → c ≠ i2 → s.heap.get? c = some o → h'.get? c = some o) → Q (.ref s.heap.objs.size) { s with heap := h' }) :
    wpAny (model prog w) A (Builtin.«zip.__next__» ⟨[.ref z], []⟩) (fun fin s' => ∃ v, fin = .done (.ret v) ∧ Q v s') E s := by
  obtain ⟨⟨n1, n2, n3, n4⟩, ⟨n5, n6, n7⟩, ⟨n8, n9⟩, n10⟩ := d.ne
  obtain ⟨c1, c2, c3, c4⟩ := d.a1
  obtain ⟨e1, e2, e3, e4⟩ := d.a2
  refine wpAny_bind (m := field (.ref z) 2) (wpAny_field gz rfl (x := .bool false) rfl ?_)
  refine wpAny_bind (m := field (.ref z) 3) (wpAny_field gz rfl (x := .ref TI) rfl ?_)
  refine wpAny_bind (wpAny_seqItems gI rfl ?_)
  refine wpAny_bind (m := Builtin.SmallTypes.ownedTupleIsFree (.ref z)) ?_
  unfold Builtin.SmallTypes.ownedTupleIsFree
  refine wpAny_bind (wpAny_field gz rfl (x := .none) rfl (wpAny_pure ?_))
  simp only [if_true]
  refine wpAny_bind (wpAny_rule (wpAny_bind (wpAny_field gz rfl (x := .ref TO) rfl ?_)))
  refine wpAny_bind (wpAny_setField_rec gz (by simp) fun h1 gz1 s1 => ?_)
  replace gz1 : IsZip h1 z TI TO .ellipsis := gz1
  refine wpAny_bind ?_
  simp only [List.zipIdx_cons, List.zipIdx_nil, List.forIn_cons, List.forIn_nil]
  refine wpAny_bind (wpAny_bind (wpAny_onRaise (wpAny_bind (m := Builtin.SmallTypes.nextOf (.ref i1)) (nextK_item (SqI_ext r1 s1.extBut (Ne.symm n3)) (SqH_ext t1 s1.extBut c1) hx fun h2 r1' s2 => wpAny_pure ?_))))
  have gO2 : IsPair h2 TO a b := s2.extBut _ _ n8 (s1.extBut _ _ (Ne.symm n2) gO)
  refine wpAny_bind (wpAny_seqItems gO2 rfl (wpAny_bind (wpAny_updateSeq_pair gO2 fun h3 gO3 s3 => ?_)))
  replace gO3 : IsPair h3 TO x b := gO3
  refine wpAny_bind (wpAny_letGo (wpAny_pure ?_))
  refine wpAny_bind (wpAny_bind (wpAny_onRaise (wpAny_bind (m := Builtin.SmallTypes.nextOf (.ref i2)) (nextK_item (SqI_ext (SqI_ext (SqI_ext r2 s1.extBut (Ne.symm n4)) s2.extBut (Ne.symm n10)) s3.extBut (Ne.symm n9))
    (SqH_ext (SqH_ext (SqH_ext t2 s1.extBut e1) s2.extBut e3) s3.extBut e2) hy fun h4 r2' s4 => wpAny_pure ?_))))
  have gO4 : IsPair h4 TO x b := s4.extBut _ _ n9 gO3
  refine wpAny_bind (wpAny_seqItems gO4 rfl (wpAny_bind (wpAny_updateSeq_pair gO4 fun h5 gO5 s5 => ?_)))
  replace gO5 : IsPair h5 TO x y := gO5
  refine wpAny_bind (wpAny_letGo (wpAny_pure (wpAny_pure ?_)))
  refine wpAny_bind (wpAny_seqItems gO5 rfl (wpAny_bind (wpAny_newTuple ?_)))
  have hsz : h5.objs.size = s.heap.objs.size := by rw [s5.1, s4.1, s3.1, s2.1, s1.1]
  have gz5 : IsZip h5 z TI TO .ellipsis := s5.extBut _ _ n2 (s4.extBut _ _ n4 (s3.extBut _ _ n2 (s2.extBut _ _ n3 gz1)))
  have kk : ∀ c o, c ≠ z → c ≠ TO → c ≠ i1 → c ≠ i2 → s.heap.get? c = some o → h5.get? c = some o := fun c o a1 a2 a3 a4 e =>
    s5.extBut _ _ a2 (s4.extBut _ _ a4 (s3.extBut _ _ a2 (s2.extBut _ _ a3 (s1.extBut _ _ a1 e))))
  have r15 : SqI b1 h5 i1 l1 (k + 1) := SqI_ext (SqI_ext (SqI_ext r1' s3.extBut (Ne.symm n8)) s4.extBut n10) s5.extBut (Ne.symm n8)
  have r25 : SqI b2 h5 i2 l2 (k + 1) := SqI_ext r2' s5.extBut (Ne.symm n9)
  have zlt : z < h5.objs.size := Heap.lt_size gz5
  refine wpAny_bind (m := Builtin.SmallTypes.ownedTupleHandOut (.ref z) (.ref h5.objs.size)) ?_
  unfold Builtin.SmallTypes.ownedTupleHandOut
  have gz6 : IsZip (h5.push { cls := .type "tuple", data := .seq #[x, y] }) z TI TO .ellipsis := Heap.get?_push_of_some _ gz5
  refine wpAny_bind (wpAny_setField_rec gz6 (by simp) fun h7 gz7 s7 => ?_)
  replace gz7 : IsZip h7 z TI TO (rawInt h5.objs.size) := gz7
  refine wpAny_setField_rec gz7 (by simp) fun h8 gz8 s8 => ?_
  replace gz8 : IsZip h8 z TI TO (rawInt h5.objs.size) := gz8
  have up : ∀ c o, c ≠ z → h5.get? c = some o → h8.get? c = some o := fun c o a1 e => s8.extBut _ _ a1 (s7.extBut _ _ a1 (Heap.get?_push_of_some _ e))
  have gT : IsPair h8 h5.objs.size x y := s8.extBut _ _ (Nat.ne_of_gt zlt) (s7.extBut _ _ (Nat.ne_of_gt zlt) (Heap.get?_push_size _ rfl))
  have z8 : h8.objs.size = h5.objs.size + 1 := by rw [s8.1, s7.1, Heap.size_push]
  rw [hsz] at gz8 gT z8
  refine wpAny_pure ⟨_, rfl, ?_⟩
  show Q (.ref h5.objs.size) _
  rw [hsz]
  exact q h8 gz8 (up _ _ (Ne.symm n2) gO5) (r15.keep fun o e => up _ o (Ne.symm n3) e) (r25.keep fun o e => up _ o (Ne.symm n4) e) gT z8 fun c o a1 a2 a3 a4 e => up c o a1 (kk c o a1 a2 a3 a4 e)
theorem zipK_end {z TI TO i1 i2 l1 l2 : Addr} {k : Nat} {xs ys : Array Value} {a b : Value} {Q : Fin → Shared → Prop} (hh : A.handled = none) (d : Apt z TI TO i1 i2 l1 l2)
    (gz : IsZip s.heap z TI TO .none) (gI : IsPair s.heap TI (.ref i1) (.ref i2)) (gO : IsPair s.heap TO a b) (r1 : SqI b1 s.heap i1 l1 k) (r2 : SqI b2 s.heap i2 l2 k) (t1 : SqH b1 s.heap l1 xs) (t2 : SqH b2 s.heap l2 ys) (hend : xs[k]? = none ∨ ys[k]? = none)
    (q : ∀ h' e, (∀ c o, c ≠ z → c ≠ TO → c ≠ i1 → c ≠ i2 → s.heap.get? c = some o → h'.get? c = some o) → (∃ o, h'.get? e = some o ∧ o.cls = .type "StopIteration") → E (.ref e) { s with heap := h' }) :
    wpAny (model prog w) A (Builtin.«zip.__next__» ⟨[.ref z], []⟩) Q E s := by
  obtain ⟨⟨n1, n2, n3, n4⟩, ⟨n5, n6, n7⟩, ⟨n8, n9⟩, n10⟩ := d.ne
  obtain ⟨c1, c2, c3, c4⟩ := d.a1
  obtain ⟨e1, e2, e3, e4⟩ := d.a2
  refine wpAny_bind (m := field (.ref z) 2) (wpAny_field gz rfl (x := .bool false) rfl ?_)
  refine wpAny_bind (m := field (.ref z) 3) (wpAny_field gz rfl (x := .ref TI) rfl ?_)
  refine wpAny_bind (wpAny_seqItems gI rfl ?_)
  refine wpAny_bind (m := Builtin.SmallTypes.ownedTupleIsFree (.ref z)) ?_
  unfold Builtin.SmallTypes.ownedTupleIsFree
  refine wpAny_bind (wpAny_field gz rfl (x := .none) rfl (wpAny_pure ?_))
  simp only [if_true]
  refine wpAny_bind (wpAny_rule (wpAny_bind (wpAny_field gz rfl (x := .ref TO) rfl ?_)))
  refine wpAny_bind (wpAny_setField_rec gz (by simp) fun h1 gz1 s1 => ?_)
  replace gz1 : IsZip h1 z TI TO .ellipsis := gz1
  refine wpAny_bind ?_
  simp only [List.zipIdx_cons, List.zipIdx_nil, List.forIn_cons, List.forIn_nil]
  cases hx : xs[k]? with
  | none =>
    refine wpAny_bind (wpAny_bind (wpAny_onRaise (wpAny_bind (m := Builtin.SmallTypes.nextOf (.ref i1)) (nextK_end hh (SqI_ext r1 s1.extBut (Ne.symm n3)) (SqH_ext t1 s1.extBut c1) hx fun h2 e s2 he => ?_))))
    obtain ⟨oe, ge, gc⟩ := he
    have gz2 : IsZip h2 z TI TO .ellipsis := s2 _ _ n3 gz1
    have hez : e ≠ z := fun x => by subst x; rw [gz2] at ge; cases ge; simp at gc
    exact wpAny_setField_rec gz2 (by simp) fun h3 _ s3 => q h3 e (fun c o a1 _ a3 _ x => s3.extBut _ _ a1 (s2 _ _ a3 (s1.extBut _ _ a1 x))) ⟨oe, s3.extBut _ _ hez ge, gc⟩
  | some x =>
    have hy : ys[k]? = none := hend.resolve_left (by rw [hx]; intro z; cases z)
    refine wpAny_bind (wpAny_bind (wpAny_onRaise (wpAny_bind (m := Builtin.SmallTypes.nextOf (.ref i1)) (nextK_item (SqI_ext r1 s1.extBut (Ne.symm n3)) (SqH_ext t1 s1.extBut c1) hx fun h2 r1' s2 => wpAny_pure ?_))))
    have gO2 : IsPair h2 TO a b := s2.extBut _ _ n8 (s1.extBut _ _ (Ne.symm n2) gO)
    refine wpAny_bind (wpAny_seqItems gO2 rfl (wpAny_bind (wpAny_updateSeq_pair gO2 fun h3 gO3 s3 => ?_)))
    refine wpAny_bind (wpAny_letGo (wpAny_pure ?_))
    refine wpAny_bind (wpAny_bind (wpAny_onRaise (wpAny_bind (m := Builtin.SmallTypes.nextOf (.ref i2)) (nextK_end hh (SqI_ext (SqI_ext (SqI_ext r2 s1.extBut (Ne.symm n4)) s2.extBut (Ne.symm n10)) s3.extBut (Ne.symm n9))
      (SqH_ext (SqH_ext (SqH_ext t2 s1.extBut e1) s2.extBut e3) s3.extBut e2) hy fun h4 e s4 he => ?_))))
    obtain ⟨oe, ge, gc⟩ := he
    have gz4 : IsZip h4 z TI TO .ellipsis := s4 _ _ n4 (s3.extBut _ _ n2 (s2.extBut _ _ n3 gz1))
    have hez : e ≠ z := fun x => by subst x; rw [gz4] at ge; cases ge; simp at gc
    exact wpAny_setField_rec gz4 (by simp) fun h5 _ s5 => q h5 e (fun c o a1 a2 a3 a4 x => s5.extBut _ _ a1 (s4 _ _ a4 (s3.extBut _ _ a2 (s2.extBut _ _ a3 (s1.extBut _ _ a1 x))))) ⟨oe, s5.extBut _ _ hez ge, gc⟩
abbrev zk1 (b1 b2 : Bool) (h : Heap) (l1 : Addr) : Heap := h.push { cls := .type (itN b1), data := .fields #[.ref l1, .int 0 0] }
abbrev zk2 (b1 b2 : Bool) (h : Heap) (l1 l2 : Addr) : Heap := (zk1 b1 b2 h l1).push { cls := .type (itN b2), data := .fields #[.ref l2, .int 0 0] }
abbrev zk3 (b1 b2 : Bool) (h : Heap) (l1 l2 : Addr) : Heap := (zk2 b1 b2 h l1 l2).push { cls := .type "tuple", data := .seq #[.ref h.objs.size, .ref (zk1 b1 b2 h l1).objs.size] }
abbrev zk4 (b1 b2 : Bool) (h : Heap) (l1 l2 : Addr) : Heap := (zk3 b1 b2 h l1 l2).push { cls := .type "tuple", data := .seq #[.none, .none] }
abbrev zk5 (b1 b2 : Bool) (h : Heap) (l1 l2 : Addr) : Heap := (zk4 b1 b2 h l1 l2).push { cls := .type "zip", data := .fields #[.none, .bool false, .bool false, .ref (zk2 b1 b2 h l1 l2).objs.size, .ref (zk3 b1 b2 h l1 l2).objs.size] }
theorem zipK_new (b1 b2 : Bool) (l1 l2 : Addr) (xs ys : Array Value) :
    Meets (Builtin.«zip.__new__» ⟨[.type "zip", .ref l1, .ref l2], []⟩) (fun _ R s => SqH b1 s.heap l1 xs ∧ SqH b2 s.heap l2 ys ∧ R (.ok (.ret (.ref (zk4 b1 b2 s.heap l1 l2).objs.size))) { s with heap := zk5 b1 b2 s.heap l1 l2 }) :=
  .of_wp fun prog w A R s h => by
    obtain ⟨hp, g, dr, tk, os⟩ := s
    obtain ⟨t1, t2, h⟩ := h
    have hsub := sub_zip
    have g1 : SqH b1 (Shared.heap ⟨hp, g, dr, tk, os⟩) l1 xs := t1
    have g2 : SqH b2 (Shared.heap ⟨hp.push { cls := .type (itN b1), data := .fields #[.ref l1, .int 0 0] }, g, dr, tk, os⟩) l2 ys := t2.keep fun o e => Heap.get?_push_of_some _ e
    wp_walk using pyIterK g1, pyIterK g2
    exact ⟨_, rfl, h⟩
theorem call_zipK {l1 l2 : Addr} {xs ys : Array Value} {Q : Value → Shared → Prop} (t1 : SqH b1 s.heap l1 xs) (t2 : SqH b2 s.heap l2 ys)
    (q : ∀ h', IsZip h' (s.heap.objs.size + 4) (s.heap.objs.size + 2) (s.heap.objs.size + 3) .none → IsPair h' (s.heap.objs.size + 2) (.ref s.heap.objs.size) (.ref (s.heap.objs.size + 1)) → IsPair h' (s.heap.objs.size + 3) .none .none →
      SqI b1 h' s.heap.objs.size l1 0 → SqI b2 h' (s.heap.objs.size + 1) l2 0 → (∀ c o, s.heap.get? c = some o → h'.get? c = some o) → Q (.ref (s.heap.objs.size + 4)) { s with heap := h' }) :
    wpAny (model prog w) A (call (.type "zip") [.ref l1, .ref l2]) Q E s := by
  refine callType_new F.called_zip (by decide) (F.typeCall_zip_2 _ _) (F.newCall_zip_2 _ _) (fun obj => F.args_object_init_3 obj _ _) F.entry_zip_new (zipK_new b1 b2 l1 l2 xs ys) ⟨t1, t2, ?_⟩
  have y1 : (zk1 b1 b2 s.heap l1).objs.size = s.heap.objs.size + 1 := Heap.size_push ..
  have y2 : (zk2 b1 b2 s.heap l1 l2).objs.size = s.heap.objs.size + 2 := by rw [Heap.size_push, y1]
  have y3 : (zk3 b1 b2 s.heap l1 l2).objs.size = s.heap.objs.size + 3 := by rw [Heap.size_push, y2]
  have y4 : (zk4 b1 b2 s.heap l1 l2).objs.size = s.heap.objs.size + 4 := by rw [Heap.size_push, y3]
  have p5 : (zk5 b1 b2 s.heap l1 l2).get? (zk4 b1 b2 s.heap l1 l2).objs.size = some _ := Heap.get?_push_size _ rfl
  have p4 : (zk5 b1 b2 s.heap l1 l2).get? (zk3 b1 b2 s.heap l1 l2).objs.size = some _ := Heap.get?_push_of_some _ (Heap.get?_push_size _ rfl)
  have p3 : (zk5 b1 b2 s.heap l1 l2).get? (zk2 b1 b2 s.heap l1 l2).objs.size = some _ := Heap.get?_push_of_some _ (Heap.get?_push_of_some _ (Heap.get?_push_size _ rfl))
  have p2 : (zk5 b1 b2 s.heap l1 l2).get? (zk1 b1 b2 s.heap l1).objs.size = some _ := Heap.get?_push_of_some _ (Heap.get?_push_of_some _ (Heap.get?_push_of_some _ (Heap.get?_push_size _ rfl)))
  have p1 : (zk5 b1 b2 s.heap l1 l2).get? s.heap.objs.size = some _ := Heap.get?_push_of_some _ (Heap.get?_push_of_some _ (Heap.get?_push_of_some _ (Heap.get?_push_of_some _ (Heap.get?_push_size _ rfl))))
  show _ ∧ _
  rw [y2, y3, y4] at p5
  rw [y1, y2] at p3
  rw [y3] at p4
  rw [y1] at p2
  rw [y4]
  exact ⟨⟨_, p5, rfl⟩, q _ p5 p3 p4 (itK p1) (itK p2) fun c o x => Heap.get?_push_of_some _ (Heap.get?_push_of_some _ (Heap.get?_push_of_some _ (Heap.get?_push_of_some _ (Heap.get?_push_of_some _ x))))⟩
end
theorem hoK_of {P : Program} {w : World} {H : Hp} {s : Shared} {b : Bool} (ok : HOk P w H s.heap) {a : Addr} {vs : List V} (h : H a = some (hoK b vs)) : ∃ its : List Value, Vals vs its ∧ SqH b s.heap a its.toArray := by
  cases b with
  | true => exact DAts.tup_of ok h
  | false => exact DAts.lst_of ok h
theorem hoK_inj {b : Bool} {xs ys : List V} (h : hoK b xs = hoK b ys) : xs = ys := by
  cases b with
  | true => exact HO.tup.inj h
  | false => exact HO.lst.inj h
def Itk (b1 b2 : Bool) (a b : Addr) : It :=
  ⟨fun i H => ∃ xs ys x y, H a = some (hoK b1 xs) ∧ H b = some (hoK b2 ys) ∧ xs[i]? = some x ∧ ys[i]? = some y,
   fun i H v H' => ∃ p x y, v = .ref p ∧ H p = none ∧ H' = upd H p (.tup [x, y]) ∧ ∀ xs ys, H a = some (hoK b1 xs) → H b = some (hoK b2 ys) → xs[i]? = some x ∧ ys[i]? = some y,
   fun i H => ∃ xs ys, H a = some (hoK b1 xs) ∧ H b = some (hoK b2 ys) ∧ (xs.length ≤ i ∨ ys.length ≤ i)⟩
def Zak (b1 b2 : Bool) (z TI TO i1 i2 l1 l2 : Addr) (i : Nat) (h : Heap) : Prop :=
  IsZip h z TI TO .none ∧ IsPair h TI (.ref i1) (.ref i2) ∧ (∃ a b, IsPair h TO a b) ∧ SqI b1 h i1 l1 i ∧ SqI b2 h i2 l2 i
theorem turn_zipK {b1 b2 : Bool} {P : Program} {w : World} {K : PySem.W.Frag} {elts : List Expr} {cx : _} {tp : Pos} (z TI TO i1 i2 l1 l2 : Addr) (nd : [z, TI, TO, i1, i2].Nodup) :
    Turn P w K (.Tuple elts cx tp) (Itk b1 b2 l1 l2) [z, TI, TO, i1, i2] z (Zak b1 b2 z TI TO i1 i2 l1 l2) where
  mem := by simp
  obj := fun i h st b hb => by
    obtain ⟨gz, gI, ⟨a, c, gO⟩, r1, r2⟩ := st
    simp only [List.mem_cons, List.not_mem_nil, or_false] at hb
    rcases hb with rfl | rfl | rfl | rfl | rfl
    · exact ⟨_, gz, fun v e => by cases e⟩
    · exact ⟨_, gI, fun v e => by cases e⟩
    · exact ⟨_, gO, fun v e => by cases e⟩
    · exact r1.obj
    · exact r2.obj
  keep := fun i h h' st k => by
    obtain ⟨gz, gI, ⟨a, c, gO⟩, r1, r2⟩ := st
    exact ⟨k _ (by simp) _ gz, k _ (by simp) _ gI, ⟨a, c, k _ (by simp) _ gO⟩, r1.keep fun o e => k _ (by simp) _ e, r2.keep fun o e => k _ (by simp) _ e⟩
  item := by
    intro X hP hw hK hc i pins s σ H E I hf st hg
    subst hP hw hK
    obtain ⟨xs, ys, x, y, ha, hb, hx, hy⟩ := hg
    obtain ⟨its1, rv1, t1⟩ := hoK_of I.hok ha
    obtain ⟨its2, rv2, t2⟩ := hoK_of I.hok hb
    obtain ⟨u, hu, ru⟩ := rv1.get hx
    obtain ⟨v, hv, rw'⟩ := rv2.get hy
    obtain ⟨gz, gI, ⟨a, c, gO⟩, r1, r2⟩ := st
    have out : ∀ {l : Addr} {o : HO}, H l = some o → ∀ b ∈ [z, TI, TO, i1, i2], l ≠ b := fun e b hb z => by rw [z, (hf b hb).1] at e; cases e
    have ap : Apt z TI TO i1 i2 l1 l2 := ⟨nd, ⟨out ha _ (by simp), out ha _ (by simp), out ha _ (by simp), out ha _ (by simp)⟩, out hb _ (by simp), out hb _ (by simp), out hb _ (by simp), out hb _ (by simp)⟩
    have hT : s.TypeIs (.ref z) "zip" := ⟨_, gz, rfl⟩
    obtain ⟨⟨n1, n2, n3, n4⟩, ⟨n5, n6, n7⟩, ⟨n8, n9⟩, n10⟩ := ap.ne
    unfold pyNext
    refine wpAny_bind (wpAny_attempt (wpAny_callSpecial?_slot (name := Str.ofString "__next__") hT F.slot_zip_next (wpAny_call_entry F.slot_zip_next hT F.entry_zip_next
      (zipK_item ap gz gI gO r1 r2 t1 t2 (by simpa using hu) (by simpa using hv) fun h1 b1 b2 b3 b4 b5 b6 b7 => wpAny_pure ?_) (F.args_zip_next_1 _))))
    refine ⟨_, rfl, wpAny_letOwnedTupleGo_zip (s := { s with heap := h1 }) b1 fun h2 g2 s2 => ?_⟩
    have big : ∀ b ∈ [z, TI, TO, i1, i2], b < s.heap.objs.size := fun b hb => by
      simp only [List.mem_cons, List.not_mem_nil, or_false] at hb
      rcases hb with rfl | rfl | rfl | rfl | rfl
      · exact Heap.lt_size gz
      · exact Heap.lt_size gI
      · exact Heap.lt_size gO
      · obtain ⟨_, e, _⟩ := r1.obj; exact Heap.lt_size e
      · obtain ⟨_, e, _⟩ := r2.obj; exact Heap.lt_size e
    have nz : s.heap.objs.size ≠ z := Nat.ne_of_gt (big z (by simp))
    have keep2 : ∀ b o, b ∉ [z, TO, i1, i2] → s.heap.get? b = some o → h2.get? b = some o := fun b o hb e => by
      simp only [List.mem_cons, List.not_mem_nil, or_false, not_or] at hb
      exact s2.extBut b o hb.1 (b7 b o hb.1 hb.2.1 hb.2.2.1 hb.2.2.2 e)
    -- the tuple is new: it is laid and tracked
    have hfr : H s.heap.objs.size = none := I.hok.fresh (Nat.le_refl _)
    have hfr2 : ∀ b ∈ [z, TO, i1, i2], FpOk X pins H b := fun b hb => hf b (by simp only [List.mem_cons, List.not_mem_nil, or_false] at hb ⊢; rcases hb with h | h | h | h <;> simp [h])
    have gT : IsPair h2 s.heap.objs.size u v := s2.extBut _ _ nz b5
    refine ⟨.ref s.heap.objs.size, _, I.turnedN (t' := s.toks) (p := s.heap.objs.size) (o := .tup [x, y]) keep2 hfr2 (Nat.le_refl _) ⟨small (by simp), [u, v], .cons ru (.cons rw' .nil), ⟨_, gT, rfl, _, rfl⟩⟩, rfl, ⟨_, x, y, rfl, hfr, rfl, fun xs' ys' e1 e2 => ?_⟩, ?_, fun b hb => ?_⟩
    · rw [ha] at e1
      rw [hb] at e2
      cases hoK_inj (Option.some.inj e1)
      cases hoK_inj (Option.some.inj e2)
      exact ⟨hx, hy⟩
    · refine ⟨g2, s2.extBut _ _ (Ne.symm n1) (b7 _ _ (Ne.symm n1) n5 n6 n7 gI), ⟨_, _, s2.extBut _ _ (Ne.symm n2) b2⟩, b3.keep fun o e => s2.extBut _ _ (Ne.symm n3) e, b4.keep fun o e => s2.extBut _ _ (Ne.symm n4) e⟩
    · rw [upd_ne (Nat.ne_of_lt (big b hb))]
      exact (hf b hb).1
  done := by
    intro X hP hw hK hc i pins s σ H E I hf st hg
    subst hP hw hK
    obtain ⟨xs, ys, ha, hb, hl⟩ := hg
    obtain ⟨its1, rv1, t1⟩ := hoK_of I.hok ha
    obtain ⟨its2, rv2, t2⟩ := hoK_of I.hok hb
    have k1 := rv1.length
    have k2 := rv2.length
    obtain ⟨gz, gI, ⟨a, c, gO⟩, r1, r2⟩ := st
    have out : ∀ {l : Addr} {o : HO}, H l = some o → ∀ b ∈ [z, TI, TO, i1, i2], l ≠ b := fun e b hb z => by rw [z, (hf b hb).1] at e; cases e
    have ap : Apt z TI TO i1 i2 l1 l2 := ⟨nd, ⟨out ha _ (by simp), out ha _ (by simp), out ha _ (by simp), out ha _ (by simp)⟩, out hb _ (by simp), out hb _ (by simp), out hb _ (by simp), out hb _ (by simp)⟩
    have hT : s.TypeIs (.ref z) "zip" := ⟨_, gz, rfl⟩
    unfold pyNext
    refine wpAny_bind (wpAny_attempt (wpAny_callSpecial?_slot (name := Str.ofString "__next__") hT F.slot_zip_next (wpAny_call_entry F.slot_zip_next hT F.entry_zip_next
      (zipK_end (I.ok.hd hc) ap gz gI gO r1 r2 t1 t2 (by simp; omega) fun h1 e kk he => ?_) (F.args_zip_next_1 _))))
    obtain ⟨o, ge, gc⟩ := he
    refine wpAny_bind (wpAny_isInstance (T := "StopIteration") (b := true) ⟨o, ge, gc⟩ isSubtype_stop (wpAny_pure ⟨rfl, ?_⟩))
    refine I.turnedL (ch := [z, TO, i1, i2]) (t' := s.toks) (fun b o hb e => ?_) (fun b hb => hf b (by simp only [List.mem_cons, List.not_mem_nil, or_false] at hb ⊢; rcases hb with h | h | h | h <;> simp [h]))
    simp only [List.mem_cons, List.not_mem_nil, or_false, not_or] at hb
    exact kk b o hb.1 hb.2.1 hb.2.2.1 hb.2.2.2 e
  self := fun _ _ _ _ _ st h => wpAny_pyIter_zip st.1 h
section
variable {X : Cx}
def iZipK (ta : TA) : TI := fun σ H R => ta σ H fun vs H1 => ∃ (b1 b2 : Bool) (a b : Addr) (xs ys : List V), vs = [.ref a, .ref b] ∧ H1 a = some (hoK b1 xs) ∧ H1 b = some (hoK b2 ys) ∧ R (Itk b1 b2 a b) H1
theorem pi_zipK {elts : List Expr} {cx : _} {tp : Pos} {a b : Expr} {ta : TA} {p pos : Pos} (hg : Gl X "zip") (hm : X.mg "zip" = none) (ha : PA X [a, b] ta) (hs : starEach [a, b] X.env = [(false, eval a X.env), (false, eval b X.env)] := by rfl) (hs2 : starEach [b] X.env = [(false, eval b X.env)] := by rfl) :
    PI X (.Tuple elts cx tp) (.Call (.Name "zip" p) [a, b] [] pos) (iZipK ta) := by
  intro pins s σ H R I h
  refine Call_ (ld_blt I hg hm boot_zip (PyProof.Rows.callWith_type1 (thn (ha pos pins s σ H _ I h) fun us s1 ⟨vs, H1, I1, r1, q1⟩ => ?_) (by rw [hs, hs2]) (by rw [hs2]; rfl)))
  obtain ⟨b1, b2, l1, l2, xs, ys, e, h1, h2, q⟩ := q1
  subst e
  cases r1 with
  | cons r rr =>
    cases rr with
    | cons r' rr =>
      cases rr
      cases r
      cases r'
      obtain ⟨its1, rv1, t1⟩ := hoK_of I1.hok h1
      obtain ⟨its2, rv2, t2⟩ := hoK_of I1.hok h2
      refine call_zipK t1 t2 fun h' gz gI gO g1 g2 kk => ?_
      refine wpAny_pyIter_zip (s := { s1 with heap := h' }) gz ?_
      have fr : ∀ b, s1.heap.objs.size ≤ b → FpOk X pins H1 b := fun b hb => I1.fpOk hb (I1.hok.fresh hb)
      refine ⟨_, [s1.heap.objs.size + 4, s1.heap.objs.size + 2, s1.heap.objs.size + 3, s1.heap.objs.size, s1.heap.objs.size + 1], _, _, H1, rfl, I1.kept (t' := s1.toks) kk, turn_zipK _ _ _ _ _ l1 l2 (by simp), ⟨gz, gI, ⟨_, _, gO⟩, g1, g2⟩, fun b hb => ?_, q⟩
      simp only [List.mem_cons, List.not_mem_nil, or_false] at hb
      rcases hb with rfl | rfl | rfl | rfl | rfl <;> exact fr _ (by omega)
end
end L2
set_option Elab.async false
set_option linter.all false
set_option maxRecDepth 100000
namespace L2
open PySem PySem.Spec PyProof.Rows PySem.W
section
variable {X : Cx}
theorem PI.or {tg e : Expr} {w1 w2 : TI} (h1 : PI X tg e w1) (h2 : PI X tg e w2) : PI X tg e (fun σ H R => w1 σ H R ∨ w2 σ H R) := by
  intro pins s σ H R I h
  rcases h with h | h
  · exact h1 pins s σ H R I h
  · exact h2 pins s σ H R I h
def LtV (K : PySem.W.Frag) (H : Hp) (x y : V) (b : Bool) : Prop :=
  (∃ i j, x = .int i ∧ y = .int j ∧ b = decide (i < j)) ∨ (∃ i j, x = .str i ∧ y = .str j ∧ b = decide (i.cps.toList < j.cps.toList)) ∨
  ∃ a c ns ms, x = .ref a ∧ y = .ref c ∧ SqT K H a (ns.map V.int) ∧ SqT K H c (ms.map V.int) ∧ b = HT.lexLt ns ms
def rLtA (K : PySem.W.Frag) : R2 := fun x y H Q => ∃ b, LtV K H x y b ∧ Q (.bl b) H
theorem op_ltA (K : PySem.W.Frag) (hu : X.A.units < cLine) (h : X.K = K := by rfl) : OpR X (compareOp .Lt) (rLtA K) := by
  subst h
  intro pins s σ H x y v u Q I rx ry h
  obtain ⟨b, h | h | h, q⟩ := h
  · obtain ⟨i, j, rfl, rfl, rfl⟩ := h
    exact op_lt pins s σ H _ _ v u Q I rx ry ⟨i, j, rfl, rfl, q⟩
  · obtain ⟨i, j, rfl, rfl, rfl⟩ := h
    exact op_lt_str pins s σ H _ _ v u Q I rx ry ⟨i, j, rfl, rfl, q⟩
  · obtain ⟨a, c, ns, ms, rfl, rfl, h1, h2, rfl⟩ := h
    exact op_ltT hu pins s σ H _ _ v u Q I rx ry ⟨a, c, ns, ms, rfl, rfl, h1, h2, q⟩
theorem op_le_str : OpR X (compareOp .LtE) (fun x y H Q => ∃ i j, x = .str i ∧ y = .str j ∧ Q (.bl (!decide (j.cps.toList < i.cps.toList))) H) := by
  intro pins s σ H x y v u Q I rx ry h
  obtain ⟨i, j, rfl, rfl, q⟩ := h
  obtain ⟨t, rfl⟩ := rx
  obtain ⟨t', rfl⟩ := ry
  exact PySem.P.le_str (fin_bl I q rfl)
end
theorem lc_zipK {b1 b2 : Bool} {a b : Addr} {xs ys : List V} {ns : List Str} {js : List Nat} {g : TG} {te : TE} {σ : St} {H : Hp} {Q : VK} (Pv : Nat → List V → St → Hp → Prop) (h0 : Pv 0 [] (lcSt ns js σ) H) (hz : min xs.length ys.length ≤ sizeLine) (hl : ∀ i ys σ H, Pv i ys σ H → ys.length ≤ i)
    (ha : ∀ i zs σ H', Pv i zs σ H' → H' a = some (hoK b1 xs) ∧ H' b = some (hoK b2 ys))
    (hs : ∀ (i : Nat) x y zs σ H' (C : V → St → Hp → Prop), xs[i]? = some x → ys[i]? = some y → Pv i zs σ H' → (∀ z σ2 H3, Pv (i + 1) (zs ++ [z]) σ2 H3 → C z σ2 H3) →
      ∀ p, H' p = none → g (.ref p) σ (upd H' p (.tup [x, y])) fun σ2 H2 => te σ2 H2 fun z H3 => C z σ2 H3)
    (hd : ∀ zs σ H', Pv (min xs.length ys.length) zs σ H' → ∀ p, H' p = none → Q (.ref p) (upd H' p (.lst zs))) : LcW (Itk b1 b2 a b) ns js g none te σ H Q := by
  refine ⟨fun i m zs σ H' => m = min xs.length ys.length - i ∧ i ≤ min xs.length ys.length ∧ Pv i zs σ H', ⟨min xs.length ys.length, by omega, Nat.zero_le _, h0⟩, fun i m zs σ1 H1 ⟨hm, hi, hp⟩ => ?_⟩
  obtain ⟨k1, k2⟩ := ha i zs σ1 H1 hp
  by_cases h : i < min xs.length ys.length
  · have hx : xs[i]? = some xs[i] := List.getElem?_eq_getElem (by omega)
    have hy : ys[i]? = some ys[i] := List.getElem?_eq_getElem (by omega)
    refine .inr ⟨⟨xs, ys, _, _, k1, k2, hx, hy⟩, ?_, fun v H' hv => ?_⟩
    · have := hl i zs σ1 H1 hp
      omega
    · obtain ⟨p, x, y, rfl, hpn, rfl, hxy⟩ := hv
      obtain ⟨e1, e2⟩ := hxy xs ys k1 k2
      exact hs i x y zs σ1 H1 _ e1 e2 hp (fun z σ2 H3 q => ⟨min xs.length ys.length - (i + 1), by omega, rfl, by omega, q⟩) p hpn
  · have e : i = min xs.length ys.length := by omega
    subst e
    exact .inl ⟨⟨xs, ys, k1, k2, by omega⟩, hd zs σ1 H1 hp⟩
end L2
set_option Elab.async false
set_option linter.all false
set_option maxRecDepth 100000
namespace HT
open PySem PyProof.Rows
def lexGe : List Int → List Int → Bool
  | [], [] => true
  | [], _ :: _ => false
  | _ :: _, [] => true
  | x :: xs, y :: ys => if x = y then lexGe xs ys else decide (y ≤ x)
theorem lexGe_cons (x y : Int) (xs ys : List Int) : lexGe (x :: xs) (y :: ys) = if x = y then lexGe xs ys else decide (y ≤ x) := rfl
theorem lexGe_nil_nil : lexGe [] [] = true := rfl
theorem lexGe_nil_cons (y : Int) (ys : List Int) : lexGe [] (y :: ys) = false := rfl
theorem lexGe_cons_nil (x : Int) (xs : List Int) : lexGe (x :: xs) [] = true := rfl
theorem rcGe_int (A : Around) (s : Shared) (a : Int) (t : Tok) (c : Int) (u : Tok) (prog : Program) (w : World) (E : Value → Shared → Prop) (Q : Value → Shared → Prop) (h : Q (.bool (decide (c ≤ a))) s) :
    wpAny (model prog w) A (richCompare .GtE (.int a t) (.int c u)) Q E s :=
  (PyProof.Rows.ge_int h : wpAny (model prog w) A (compareOp .GtE (.int a t) (.int c u)) Q E s)
section
open PySem.SeqAt
open PySem.AutoSeq1 (wpAny_loadPart')
open PySem.MeetsSeq PySem.MeetsSeq2 PySem.MeetsSeq3
theorem tuple_ge_ints (l b : Addr) (items items2 : Array Value) (n n2 : Nat) (dd dd2 : Option Addr) (sl sl2 : Array (Option Value)) (ns ms : List Int) (hi : IntsAre items.toList ns) (hj : IntsAre items2.toList ms) :
    Meets (Builtin.«tuple.__ge__» ⟨[.ref l, .ref b], []⟩)
      (fun _ R s => s.heap.get? l = some { cls := .type "tuple", dict := dd, data := .seq items n, slots := sl } ∧ s.heap.get? b = some { cls := .type "tuple", dict := dd2, data := .seq items2 n2, slots := sl2 } ∧
        R (.ok (.ret (.bool (lexGe ns ms)))) s) :=
  .of_wp fun prog w A R s h => by
    obtain ⟨hp, g, d, tk, os⟩ := s; obtain ⟨hl, hb, h⟩ := h
    have f2 := AutoSeq1.sub_tuple_tuple
    have z1 : items.size = ns.length := by rw [← hi.length]; simp
    have z2 : items2.size = ms.length := by rw [← hj.length]; simp
    wp_walk using wpAny_loadPart' hl, wpAny_loadPart' hb, wpAny_forIn_list _ (fun rest b s' => b.1 = none ∧ s' = ⟨hp, g, d, tk, os⟩ ∧ ∃ (vs ws : List Value) (ns' ms' : List Int), rest = vs.zip ws ∧
      IntsAre vs ns' ∧ IntsAre ws ms' ∧ ns'.length + items2.size = ms'.length + items.size ∧ R (.ok (.ret (.bool (lexGe ns' ms')))) ⟨hp, g, d, tk, os⟩) _
    case turn =>
      rintro ⟨y, x⟩ rest b s' ⟨hb', rfl, vs, ws, ns', ms', hz, hvi, hwi, hlen, hR⟩
      cases hvi with
      | nil => rw [List.zip_nil_left] at hz; cases hz
      | cons a t hvi' =>
        cases hwi with
        | nil => rw [List.zip_nil_right] at hz; cases hz
        | cons c u hwi' =>
          rw [List.zip_cons_cons] at hz
          injection hz with hyx hrest
          injection hyx with hy hx
          subst hy hx
          rw [lexGe_cons] at hR
          simp only [List.length_cons] at hlen
          obtain ⟨e, he, hiff⟩ := eqAt_int A.in1 ⟨hp, g, d, tk, os⟩ a t c u
          refine wpAny_bind (he prog w _ _ ?_)
          cases e with
          | true =>
            rw [if_pos (hiff.mp rfl)] at hR
            wp_walk
            exact ⟨rfl, rfl, _, _, _, _, hrest, hvi', hwi', by omega, hR⟩
          | false =>
            rw [if_neg (fun q => absurd (hiff.mpr q) Bool.false_ne_true)] at hR
            have hri := rcGe_int A.in1 ⟨hp, g, d, tk, os⟩ a t c u prog w
            wp_walk using hri
            exact ⟨_, rfl, by simpa using hR⟩
    case fin =>
      rintro ⟨b1, b2⟩ s' ⟨hb', rfl, vs, ws, ns', ms', hz, hvi, hwi, hlen, hR⟩
      simp only at hb'
      subst hb'
      have hv : lexGe ns' ms' = decide (items2.size ≤ items.size) := by
        cases hvi with
        | nil =>
          cases hwi with
          | nil =>
            simp only [List.length_nil] at hlen
            rw [lexGe_nil_nil]
            exact (decide_eq_true (by omega)).symm
          | cons c u hw =>
            simp only [List.length_nil, List.length_cons] at hlen
            rw [lexGe_nil_cons]
            exact (decide_eq_false (by omega)).symm
        | cons a t hv =>
          cases hwi with
          | nil =>
            simp only [List.length_nil, List.length_cons] at hlen
            rw [lexGe_cons_nil]
            exact (decide_eq_true (by omega)).symm
          | cons c u hw =>
            rw [List.zip_cons_cons] at hz
            cases hz
      rw [hv] at hR
      wp_walk
      exact ⟨_, rfl, by simpa [Builtin.Tuple.tupleCompareSizes] using hR⟩
    case h =>
      exact ⟨rfl, rfl, items.toList, items2.toList, ns, ms, rfl, hi, hj, by omega, h⟩
end
section
variable {prog : Program} {w : World} {A : Around} {E : Value → Shared → Prop} {s : Shared}
theorem ge_tupInts {l b : Addr} {items items2 : Array Value} {ns ms : List Int} {Q : Value → Shared → Prop} (hl : IsTup s.heap l items) (hb : IsTup s.heap b items2) (hi : IntsAre items.toList ns) (hj : IntsAre items2.toList ms)
    (hu : A.units < cLine) (h : Q (.bool (lexGe ns ms)) s) : wpAny (model prog w) A (compareOp .GtE (.ref l) (.ref b)) Q E s := by
  obtain ⟨⟨cls, dd, data, sl⟩, ho, hc, n, hd⟩ := id hl
  obtain ⟨⟨cls2, dd2, data2, sl2⟩, ho2, hc2, n2, hd2⟩ := id hb
  simp only at hc hd hc2 hd2
  subst hc hd hc2 hd2
  exact richCompare_meets_room (op := .GtE) ⟨_, ho, rfl⟩ ⟨_, ho2, rfl⟩ PySem.F.slot_tuple_ge PySem.F.entry_tuple_ge (PySem.F.args_tuple_ge_2 _ _) (tuple_ge_ints l b items items2 n n2 dd dd2 sl sl2 ns ms hi hj)
    ⟨ho, ho2, show Value.bool (lexGe ns ms) ≠ Value.notImplemented ∧ Q (.bool (lexGe ns ms)) s from ⟨(fun x => nomatch x), h⟩⟩ hu
end
end HT
namespace L2
open PySem PySem.Spec PyProof.Rows PySem.W
section
variable {X : Cx}
def rGeT (K : PySem.W.Frag) : R2 := fun x y H Q => ∃ a b ns ms, x = .ref a ∧ y = .ref b ∧ SqT K H a (ns.map V.int) ∧ SqT K H b (ms.map V.int) ∧ Q (.bl (HT.lexGe ns ms)) H
theorem op_geT (K : PySem.W.Frag) (hu : X.A.units < cLine) (h : X.K = K := by rfl) : OpR X (compareOp .GtE) (rGeT K) := by
  subst h
  intro pins s σ H x y v u Q I rx ry h
  obtain ⟨a, b, ns, ms, rfl, rfl, ha, hb, q⟩ := h
  cases rx
  cases ry
  obtain ⟨its, r1, p1, _⟩ := I.tuple ha
  obtain ⟨its2, r2, p2, _⟩ := I.tuple hb
  exact HT.ge_tupInts p1 p2 (intsAre_of r1) (intsAre_of r2) hu ⟨.bl (HT.lexGe ns ms), H, I, rfl, q⟩
theorem ge_not_lt : ∀ ns ms : List Int, HT.lexGe ns ms = !HT.lexLt ns ms
  | [], [] => rfl
  | [], _ :: _ => rfl
  | _ :: _, [] => rfl
  | x :: xs, y :: ys => by
    rw [HT.lexGe_cons, HT.lexLt_cons]
    split
    · exact ge_not_lt xs ys
    · rw [← decide_not]
      exact decide_eq_decide.mpr (by omega)
end
end L2
set_option Elab.async false
set_option linter.all false
set_option maxRecDepth 100000
set_option maxHeartbeats 8000000
namespace C
open PySem L2
seal PE PT PW PA PS PSs PG PGs PI PPs PO PSet PIf
def top (i : Nat) : Stmt := PySem.Challenge.pw_clashbook_k24_what_is_a_world.main.body.getD i (.Pass ⟨0, 0, 0, 0⟩)
abbrev s_law_draw : Stmt := top 19
theorem sc_law_draw : FnScope ["script", "k", "cell", "mixed"] ["script", "k"] (defScope s_law_draw) := ⟨rfl, rfl, rfl, by decide +kernel, rfl, by decide +kernel, by decide +kernel⟩
abbrev s_law_names : Stmt := top 21
theorem sc_law_names : FnScope ["script", "k", "many", "letters", "first", "spell", "row", "j", "size", "at", "names", "n", "word"] ["script", "k", "many"] (defScope s_law_names) := ⟨rfl, rfl, rfl, by decide +kernel, rfl, by decide +kernel, by decide +kernel⟩
theorem p1060 : (0 : Int) < 10 ^ Int.toNat 60 := by show (0 : Int) < 10 ^ 60; simp
theorem at_toNat {α : Type} {xs : List α} {n : Int} {x : α} (h0 : 0 ≤ n) (h : xs[n.toNat]? = some x) : atI xs n = some x := by
  obtain ⟨m, rfl⟩ : ∃ m : Nat, n = (m : Int) := ⟨n.toNat, by omega⟩
  exact atI_nat (by simpa using h)
theorem idxI (zs : List Int) (k : Int) (h0 : 0 ≤ k) (h1 : k < zs.length) : ∃ z, atI (zs.map V.int) k = some (.int z) := by
  have hk : k.toNat < zs.length := by omega
  exact ⟨zs[k.toNat], at_toNat h0 (by rw [List.getElem?_map, List.getElem?_eq_getElem hk]; rfl)⟩
def spDr (K : PySem.W.Frag) : Sp := fun vs H Q _ => ∃ (a : Addr) (ns : List Int) (k : Nat), vs = [.ref a, .int k] ∧ SqL K H a (ns.map V.int) ∧ ns.length ≤ 63 ∧ k ≤ 100 ∧ ∀ z : Int, 0 ≤ z → Q (.int z) H
abbrev nV (n : Nat) : V := .int (n : Int)
structure Nms (H : Hp) (p : Addr) (m : Nat) (zs : List Str) : Prop where
  lst : H p = some (.lst (zs.map V.str))
  len : zs.length = m
  nd : zs.Nodup
  nm : ∀ z ∈ zs, Nm z
theorem Nms.same {H H' : Hp} {p : Addr} {m : Nat} {zs : List Str} (e : Same H H') (h : Nms H p m zs) : Nms H' p m zs := ⟨e _ _ h.lst, h.len, h.nd, h.nm⟩
def spNs (K : PySem.W.Frag) : Sp := fun vs H Q _ => ∃ (a : Addr) (ns : List Int) (k m : Nat), vs = [.ref a, .int k, .int m] ∧ SqL K H a (ns.map V.int) ∧ ns.length ≤ 63 ∧ k ≤ 99 ∧ 1 ≤ m ∧ m ≤ 5 ∧ ∀ p zs H', Same H H' → Nms H' p m zs → Q (.ref p) H'
def wd (rs : List Nat) : Str := ⟨(rs.map (97 + ·)).toArray⟩
theorem wd_len (rs : List Nat) : (wd rs).length = rs.length := by
  show ((rs.map (97 + ·)).toArray).size = _
  rw [List.size_toArray, List.length_map]
theorem wd_cps (rs : List Nat) : (wd rs).cps.toList = rs.map (97 + ·) := rfl
theorem wd_inj {rs ts : List Nat} (h : wd rs = wd ts) : rs = ts := by
  have h2 : rs.map (97 + ·) = ts.map (97 + ·) := congrArg (fun x : Str => x.cps.toList) h
  clear h
  induction rs generalizing ts with
  | nil => cases ts with
    | nil => rfl
    | cons t ts => simp at h2
  | cons r rs ih => cases ts with
    | nil => simp at h2
    | cons t ts =>
      simp only [List.map_cons, List.cons.injEq] at h2
      rw [ih h2.2, show r = t by omega]
theorem letter_is (n : Nat) (h : n < 26) : atI ("abcdefghijklmnopqrstuvwxyz" : Str).cps.toList (n : Int) = some (97 + n) := by
  have h2 : ∀ k : Fin 26, ("abcdefghijklmnopqrstuvwxyz" : Str).cps.toList[k.val]? = some (97 + k.val) := by decide +kernel
  exact atI_nat (h2 ⟨n, h⟩)
theorem glue_one : ∀ (rs : List Nat), glue [] (rs.map fun r => [97 + r]) = rs.map (97 + ·)
  | [] => rfl
  | [r] => rfl
  | r :: r' :: rs => by
    have ih := glue_one (r' :: rs)
    show [97 + r] ++ [] ++ glue [] ((r' :: rs).map fun r => [97 + r]) = _
    rw [ih]
    rfl
theorem join_wd (rs : List Nat) : Txt.join "" (rs.map fun r => (⟨#[97 + r]⟩ : Str)) = wd rs := by
  have h := glued_toS [] (rs.map fun r => [97 + r])
  rw [List.map_map, glue_one] at h
  have e : ("" : Str) = toS [] := by decide +kernel
  show Builtin.Str.glued "" _ = _
  rw [e]
  exact h
def wn (rs : List Nat) (sz at' n : Nat) : List Nat := (List.range sz).map fun j => (rs.getD j 0 + (if j = at' then n else 0)) % 26
open Classical in
noncomputable def nmF (qs : List Nat) : Str := if wd qs = "none" ∨ wd qs = "all" then wd qs ++ "x" else wd qs
theorem wn_len (rs : List Nat) (sz at' n : Nat) : (wn rs sz at' n).length = sz := by unfold wn; rw [List.length_map, List.length_range]
theorem nmF_nm {rs : List Nat} {sz at' n : Nat} (hsz : 1 ≤ sz ∧ sz ≤ 8) : Nm (nmF (wn rs sz at' n)) := by
  have hl := wn_len rs sz at' n
  have hq : ∀ r ∈ wn rs sz at' n, r < 26 := fun r hr => by
    unfold wn at hr
    obtain ⟨j, _, rfl⟩ := List.mem_map.mp hr
    omega
  generalize wn rs sz at' n = qs at hl hq
  have hw : ∀ c ∈ (wd qs).cps.toList, 97 ≤ c ∧ c ≤ 122 := fun c hc => by
    rw [wd_cps] at hc
    obtain ⟨r, hr, rfl⟩ := List.mem_map.mp hc
    have := hq r hr
    omega
  unfold nmF
  by_cases h : wd qs = "none" ∨ wd qs = "all"
  · rw [if_pos h]
    rcases h with h | h
    · rw [h]; exact ⟨by decide +kernel, by decide +kernel, by decide +kernel, by decide +kernel, by decide +kernel⟩
    · rw [h]; exact ⟨by decide +kernel, by decide +kernel, by decide +kernel, by decide +kernel, by decide +kernel⟩
  · rw [if_neg h]
    exact ⟨by rw [wd_len]; omega, by rw [wd_len]; omega, hw, fun e => h (.inl e), fun e => h (.inr e)⟩
theorem app_x {x y : Str} (h : x ++ "x" = y ++ "x") : x = y := by
  have h2 := congrArg (fun z : Str => z.cps.toList) h
  simp only [cps_app] at h2
  have h3 := List.append_cancel_right h2
  exact str_ext (by rw [← Array.toList_inj]; exact h3)
theorem nmF_inj {qs ts : List Nat} (hl : qs.length = ts.length) (h : nmF qs = nmF ts) : qs = ts := by
  have hx : ("x" : Str).length = 1 := by decide +kernel
  unfold nmF at h
  by_cases h1 : wd qs = "none" ∨ wd qs = "all" <;> by_cases h2 : wd ts = "none" ∨ wd ts = "all"
  · rw [if_pos h1, if_pos h2] at h
    exact wd_inj (app_x h)
  · rw [if_pos h1, if_neg h2] at h
    have := congrArg Str.length h
    rw [len_app, hx, wd_len, wd_len] at this
    omega
  · rw [if_neg h1, if_pos h2] at h
    have := congrArg Str.length h
    rw [len_app, hx, wd_len, wd_len] at this
    omega
  · rw [if_neg h1, if_neg h2] at h
    exact wd_inj h
theorem nmF_nd {rs : List Nat} {sz at' m : Nat} (hrl : rs.length = 8) (hr : ∀ r ∈ rs, r < 26) (hsz : sz ≤ 8) (hat : at' < sz) (hm : m ≤ 5) : ((List.range m).map fun n => nmF (wn rs sz at' n)).Nodup := by
  refine List.pairwise_iff_getElem.mpr fun x y hx hy hxy e => ?_
  rw [List.length_map, List.length_range] at hx hy
  rw [List.getElem_map, List.getElem_map, List.getElem_range, List.getElem_range] at e
  have e2 := nmF_inj (by rw [wn_len, wn_len]) e
  have e3 := congrArg (·[at']?) e2
  unfold wn at e3
  simp only [List.getElem?_map, List.getElem?_range hat, Option.map_some, Option.some.injEq, if_true] at e3
  omega
theorem cut_take (xs : List V) (k : Nat) (h : k ≤ xs.length) : cutV xs none (some (k : Int)) = xs.take k := by
  unfold cutV
  rw [HT.sIx_nat, HT.sIx_none, List.drop_zero, Nat.sub_zero, Nat.min_eq_left h]
section
variable {P : Program} {w : World} {K : PySem.W.Frag} {mg : Str → Option Value} {base : Heap} {f : Addr} {fd : FuncData}
theorem ok_draw (bi : Bi mg) (F : Fun K "_law_draw" "_law_draw" s_law_draw f fd) : FnOk P w K mg base CX0 1 f fd ["script", "k"] (spDr K) := by
  refine F.ok sc_law_draw (fun vs H Q E h => ?_) (fun cdv A outer s H vs Q E hr h => ?_)
  · obtain ⟨a, ns, k, rfl, _⟩ := h
    rfl
  obtain ⟨a, ns, k, rfl, hS, hl, hk, q⟩ := h
  refine ⟨_, (pss_cons (ps_if (pt_cmpR op_eq (pe_callB call_len rfl bi.len bt_len (pa_cons (pv 0) pa_nil)) pe_int (nomark _)) (pss_one (ps_ret pe_int)) pss_nil) (pss_cons (ps_set (i := 2) sc_law_draw.nd rfl (Or.inl rfl) (pe_op op_mod (pe_ix ix_list (pv 0) (pe_op op_mod (pv 1) (pe_callB call_len rfl bi.len bt_len (pa_cons (pv 0) pa_nil))) (fun _ _ => rfl)) (pe_op op_pow pe_int pe_int))) (pss_cons (ps_if (pt_cmpR op_lt (pv 1) (pe_callB call_len rfl bi.len bt_len (pa_cons (pv 0) pa_nil)) (nomark _)) (pss_one (ps_ret (pv 2))) pss_nil) (pss_cons (ps_set (i := 3) sc_law_draw.nd rfl (Or.inl rfl) (pe_op op_mod (pe_op op_add (pe_op op_add (pv 2) (pe_op op_mul (pe_op op_mul pe_int (pv 1)) (pv 1))) pe_int) pe_int)) (pss_one (ps_ret (pe_op op_mod (pe_op op_mul (pv 3) (pv 3)) pe_int))))))), ?_⟩
  refine seq_abs fun N hN => ?_
  simp only [tIfS, tTest, tOp, tCB, tCons, tVar, L2.start, List.map_cons, List.map_nil, List.length_cons, List.length_nil, Nat.reduceAdd, Nat.reduceSub, List.replicate, List.cons_append, List.nil_append, List.getElem?_cons_zero, Option.some.injEq, tNil, List.cons.injEq, and_true, cx_K, tC, rEq, V.int.injEq, V.bl.injEq, tRet, tNext, exists_eq_left', decide_eq_true_eq, exists_and_left]
  refine ⟨_, .inl ⟨_, hS, rfl⟩, rfl, ?_⟩
  rw [List.length_map]
  by_cases h0 : ns.length = 0
  · rw [if_pos (by omega)]
    exact q 0 (by omega)
  rw [if_neg (by omega)]
  refine hN _ _ ?_
  clear hN
  refine seq_abs fun N hN => ?_
  simp only [tAsg, tOp, tVar, List.getElem?_cons_zero, Option.some.injEq, List.getElem?_cons_succ, tCB, tCons, tNil, List.cons.injEq, and_true, cx_K, rI, V.int.injEq, rIxL, tC, gName, List.set_cons_succ, List.set_cons_zero, exists_and_left, exists_eq_left', V.ref.injEq]
  have hm0 : 0 ≤ (k : Int) % (ns.length : Int) := Int.emod_nonneg _ (by omega)
  have hm1 : (k : Int) % (ns.length : Int) < ns.length := Int.emod_lt_of_pos _ (by omega)
  obtain ⟨z, hz⟩ := idxI ns ((k : Int) % (ns.length : Int)) hm0 hm1
  refine ⟨ns.length, .inl ⟨_, hS, by rw [List.length_map]⟩, by omega, _, hS, _, hz, ⟨by decide, by decide, by decide⟩, _, rfl, p1060, hN _ _ ?_⟩
  clear hN
  have hc := Int.emod_nonneg z (b := 10 ^ Int.toNat 60) (Int.ne_of_gt p1060)
  generalize z % 10 ^ Int.toNat 60 = cell at hc
  refine seq_abs fun N hN => ?_
  simp only [tIfS, tTest, tOp, tVar, List.getElem?_cons_succ, List.getElem?_cons_zero, Option.some.injEq, tCB, tCons, tNil, List.cons.injEq, and_true, cx_K, rI0, V.int.injEq, V.bl.injEq, tRet, exists_eq_left', tNext, decide_eq_true_eq, exists_and_left]
  refine ⟨ns.length, .inl ⟨_, hS, by rw [List.length_map]⟩, ?_⟩
  split
  · exact q cell hc
  refine hN _ _ ?_
  clear hN
  refine seq_abs fun N hN => ?_
  simp only [tAsg, tOp, tVar, List.getElem?_cons_succ, List.getElem?_cons_zero, Option.some.injEq, tC, rI, V.int.injEq, rI0, gName, List.set_cons_succ, List.set_cons_zero, exists_and_left, exists_eq_left']
  refine ⟨.inl ⟨by decide, by decide⟩, .inl ⟨by omega, by omega⟩, by decide, hN _ _ ?_⟩
  clear hN
  have h1 := Int.emod_nonneg (cell + 7919 * (k : Int) * (k : Int) + 1) (b := 2147483647) (by decide)
  have h2 := Int.emod_lt_of_pos (cell + 7919 * (k : Int) * (k : Int) + 1) (b := 2147483647) (by decide)
  generalize (cell + 7919 * (k : Int) * (k : Int) + 1) % 2147483647 = mixed at h1 h2
  simp only [tRet, tOp, tVar, List.getElem?_cons_succ, List.getElem?_cons_zero, Option.some.injEq, rI, tC, V.int.injEq, exists_and_left, exists_eq_left']
  refine ⟨.inl ⟨by omega, by omega⟩, by decide, q _ (Int.emod_nonneg _ (by decide))⟩
theorem ok_names (bi : Bi mg) (h_law_draw : Has P w K mg base 1 "_law_draw" ["script", "k"] (spDr K)) (F : Fun K "_law_names" "_law_names" s_law_names f fd) : FnOk P w K mg base CX0 2 f fd ["script", "k", "many"] (spNs K) := by
  refine F.ok sc_law_names (fun vs H Q E h => ?_) (fun cdv A outer s H vs Q E hr h => ?_)
  · obtain ⟨a, ns, k, m, rfl, _⟩ := h
    rfl
  obtain ⟨a, ns, k, m, rfl, hS, hl, hk, h1, h5, q⟩ := h
  refine ⟨_, (pss_cons (ps_set (i := 3) sc_law_names.nd rfl (Or.inr rfl) pe_str) (pss_cons (ps_set (i := 4) sc_law_names.nd rfl (Or.inl rfl) (pe_callH h_law_draw (hr.mono (by omega)) rfl (pa_cons (pv 0) (pa_cons (pv 1) pa_nil)))) (pss_cons (ps_set (i := 5) sc_law_names.nd rfl (Or.inl rfl) (pe_op op_mod (pe_op op_mul (pe_callH h_law_draw (hr.mono (by omega)) rfl (pa_cons (pv 0) (pa_cons (pe_op op_add (pv 1) pe_int) pa_nil))) pe_int) (pe_op op_pow pe_int pe_int))) (pss_cons (ps_set (i := 6) sc_law_names.nd rfl (Or.inr rfl) (pe_lst pa_nil)) (pss_cons (ps_for PassesOwn.never rfl (pi_range1 rfl bi.range (pa_cons pe_int pa_nil)) (pg_name (i := 7) sc_law_names.nd rfl (Or.inl rfl)) (pss_cons (ps_expr (pe_bm PySem.F.plainAttrs_list PySem.F.slot_list_append PySem.F.type_list_append mt_append (pv 6) (pa_cons (pe_op op_mod (pv 5) pe_int) pa_nil))) (pss_one (ps_set (i := 5) sc_law_names.nd rfl (Or.inl rfl) (pe_op op_fdiv (pv 5) pe_int))))) (pss_cons (ps_if (pt_cmpR op_eq (pe_op op_mod (pv 4) pe_int) pe_int (nomark _)) (pss_cons (ps_asg (pe_op op_add pe_int (pe_op op_mod (pe_ix ix_list (pv 6) pe_int (fun _ _ => rfl)) pe_int)) (pg_sub (pv 6) pe_int set_list)) (pss_one (ps_ret (pe_comp ["j"] ["letters", "row"] [3, 6] (pi_range1 rfl bi.range (pa_cons (pv 2) pa_nil)) (fun _ _ _ _ nd => pg_name (i := 0) nd rfl (Or.inl rfl)) (fun _ _ _ _ => pif_nil) (fun _ _ _ _ => (pe_bmK K PySem.F.plainAttrs_str PySem.F.slot_str_join PySem.F.type_str_join (mt_joinK K) pe_str (pa_cons (by exact (pe_comp ["n"] ["letters"] [1] (pi_listK K (pe_slice (sl_listK K) (pv 2) po_none (po_some (pe_op op_add (pv 0) pe_int)))) (fun _ _ _ _ nd => pg_name (i := 0) nd rfl (Or.inl rfl)) (fun _ _ _ _ => pif_nil) (fun _ _ _ _ => (pe_ix ix_str (pv 1) (pv 0) (fun _ _ => rfl))))) pa_nil))))))) pss_nil) (pss_cons (ps_set (i := 8) sc_law_names.nd rfl (Or.inl rfl) (pe_op op_add pe_int (pe_op op_mod (pe_op op_fdiv (pv 4) pe_int) pe_int))) (pss_cons (ps_set (i := 9) sc_law_names.nd rfl (Or.inr rfl) (pe_op op_mod (pe_op op_fdiv (pv 4) pe_int) (pv 8))) (pss_cons (ps_set (i := 10) sc_law_names.nd rfl (Or.inl rfl) (pe_lst pa_nil)) (pss_cons (ps_for PassesOwn.never rfl (pi_range1 rfl bi.range (pa_cons (pv 2) pa_nil)) (pg_name (i := 11) sc_law_names.nd rfl (Or.inr rfl)) (pss_cons (ps_set (i := 12) sc_law_names.nd rfl (Or.inl rfl) (pe_bm PySem.F.plainAttrs_str PySem.F.slot_str_join PySem.F.type_str_join mt_join pe_str (pa_cons (pe_comp ["j"] ["letters", "row", "n", "at"] [3, 6, 11, 9] (pi_range1 rfl bi.range (pa_cons (pv 8) pa_nil)) (fun _ _ _ _ nd => pg_name (i := 0) nd rfl (Or.inl rfl)) (fun _ _ _ _ => pif_nil) (fun _ _ _ _ => (pe_ix ix_str (pv 1) (pe_op op_mod (pe_op op_add (pe_ix (ix_listK K) (pv 2) (pv 0) (fun _ _ => rfl)) (pe_op op_mul (pv 3) (pe_callTy call_intB rfl bi.int bt_int (pa_cons (pe_cmpR op_eq (pv 0) (pv 4) (nomark _)) pa_nil)))) pe_int) (fun _ _ => rfl)))) pa_nil))) (pss_cons (ps_if (PW.pt (pw_or (pt_cmpR op_eq (pv 12) pe_str (nomark _)) (pw_or1 (pt_cmpR op_eq (pv 12) pe_str (nomark _))))) (pss_one (ps_set (i := 12) sc_law_names.nd rfl (Or.inl rfl) (pe_op op_add_str (pv 12) pe_str))) pss_nil) (pss_one (ps_expr (pe_bm PySem.F.plainAttrs_list PySem.F.slot_list_append PySem.F.type_list_append mt_append (pv 10) (pa_cons (pv 12) pa_nil))))))) (pss_one (ps_ret (pv 10))))))))))))), ?_⟩
  refine seq_abs fun N hN => ?_
  simp only [tAsg, tC, gName, L2.start, List.map_cons, List.map_nil, List.length_cons, List.length_nil, Nat.reduceAdd, Nat.reduceSub, List.replicate, List.cons_append, List.nil_append, List.set_cons_succ, List.set_cons_zero]
  refine hN _ _ ?_
  clear hN
  refine seq_abs fun N hN => ?_
  simp only [tAsg, tCall, tCons, tVar, List.getElem?_cons_zero, Option.some.injEq, List.getElem?_cons_succ, tNil, spDr, List.append_nil, List.cons.injEq, and_true, gName, List.set_cons_succ, List.set_cons_zero, and_assoc, exists_and_left, exists_eq_left', V.int.injEq, V.ref.injEq]
  refine ⟨ns, k, rfl, hS, hl, by omega, fun fi hfi => hN _ _ ?_⟩
  clear hN
  refine seq_abs fun N hN => ?_
  simp only [tAsg, tOp, tCall, tCons, tVar, List.getElem?_cons_zero, Option.some.injEq, List.getElem?_cons_succ, tC, rI0, V.int.injEq, tNil, spDr, List.append_nil, List.cons.injEq, and_true, rI, gName, List.set_cons_succ, List.set_cons_zero, exists_and_left, exists_eq_left', and_assoc, V.ref.injEq]
  refine ⟨ns, k + 1, by omega, hS, hl, by omega, fun z hz => ⟨.inr ⟨by decide, by decide⟩, ⟨by decide, by decide, by decide⟩, by decide, hN _ _ ?_⟩⟩
  clear hN
  have hsp := Int.emod_nonneg (z * 982451653) (b := 26 ^ Int.toNat 8) (by decide)
  generalize z * 982451653 % 26 ^ Int.toNat 8 = sp at hsp
  refine seq_abs fun N hN => ?_
  simp only [tAsg, tLst, tNil, List.length_nil, gName, List.set_cons_succ, List.set_cons_zero]
  refine ⟨small (by decide), fun pr hpr => hN _ _ ?_⟩
  clear hN
  have s1 := same_new hpr (.lst [])
  have k1 : upd H pr (.lst []) pr = some (.lst (([] : List Nat).map nV)) := upd_same
  generalize upd H pr (.lst []) = H1 at s1 k1 ⊢
  refine seq_join (fun σ H' => ∃ (rs : List Nat) (sp : Int) (o : Option V), Same H H' ∧ H' pr = some (.lst (rs.map nV)) ∧ rs.length = 8 ∧ (∀ r ∈ rs, r < 26) ∧ σ = [some (V.ref a), some (V.int k), some (V.int m), some (V.str "abcdefghijklmnopqrstuvwxyz"), some (V.int fi), some (V.int sp), some (V.ref pr), o, none, none, none, none, none]) (fun N hN => ?_) (fun σ H' h => ?_)
  · simp only [cx_K, tFor_eq, iRng1, tCons, tC, tNil, List.cons.injEq, V.int.injEq, and_true, exists_eq_left']
    refine ⟨by decide, by decide, ?_⟩
    refine fw_range (n := Int.toNat 8) (fun i σ H' => ∃ (rs : List Nat) (sp : Int) (o : Option V), Same H H' ∧ H' pr = some (.lst (rs.map nV)) ∧ rs.length = i ∧ (∀ r ∈ rs, r < 26) ∧ 0 ≤ sp ∧ σ = [some (V.ref a), some (V.int k), some (V.int m), some (V.str "abcdefghijklmnopqrstuvwxyz"), some (V.int fi), some (V.int sp), some (V.ref pr), o, none, none, none, none, none]) ⟨[], _, _, s1, k1, rfl, (fun r hr => by cases hr), hsp, rfl⟩ (fun i σ H' hi h => ?_) (fun σ H' h => ?_)
    · obtain ⟨rs, sp, o, s2, k2, hrl, hr26, hs0, rfl⟩ := h
      have hi8 : i < 8 := hi
      simp only [gName, tSeq, tDrop, tBM, tVar, List.set_cons_succ, List.set_cons_zero, List.getElem?_cons_succ, List.getElem?_cons_zero, Option.some.injEq, tCons, tOp, tC, rI, V.int.injEq, tNil, rAppend, List.cons.injEq, and_true, tAsg, true_and, exists_and_left, exists_eq_left', V.ref.injEq]
      have h0 : 0 ≤ sp % 26 := by omega
      refine ⟨.inl ⟨rfl, _, SqL.of k2⟩, by decide, _, k2, small1000 (by rw [List.length_map]; omega), ⟨by decide, by decide⟩, s2.upd hpr, rs ++ [(sp % 26).toNat], ?_, by rw [List.length_append, hrl]; rfl, fun r hr => ?_, sp / 26, by omega, rfl, _, rfl⟩
      · rw [upd_same, List.map_append]
        show some (HO.lst (rs.map nV ++ [V.int (sp % 26)])) = some (HO.lst (rs.map nV ++ [V.int (((sp % 26).toNat : Nat) : Int)]))
        rw [show (((sp % 26).toNat : Nat) : Int) = sp % 26 by omega]
      · rcases List.mem_append.mp hr with hr | hr
        · exact hr26 r hr
        · rw [List.mem_singleton.mp hr]; omega
    · obtain ⟨rs, sp, o, s2, k2, hrl, hr26, hs0, rfl⟩ := h
      exact hN _ _ ⟨rs, _, _, s2, k2, hrl, hr26, rfl⟩
  clear s1 k1
  obtain ⟨rs, sp, o, s1, k1, hrl, hr26, rfl⟩ := h
  refine seq_abs fun N hN => ?_
  simp only [tIfS, tTest, tOp, tVar, List.getElem?_cons_succ, List.getElem?_cons_zero, Option.some.injEq, tC, rI, V.int.injEq, rEq, V.bl.injEq, tSeq, tAsg, rIxL, cx_K, rI0, gSub, rSetL, tRet, exists_and_left, tLC_eq, iRng1, tCons, tNil, List.cons.injEq, and_true, exists_eq_left', V.ref.injEq, tNext, decide_eq_true_eq]
  refine ⟨by decide, rfl, ?_⟩
  by_cases hf3 : fi % 3 = 0
  · rw [if_pos hf3]
    obtain ⟨r0, rt, rfl⟩ : ∃ r0 rt, rs = r0 :: rt := by
      cases rs with
      | nil => simp at hrl
      | cons r0 rt => exact ⟨r0, rt, rfl⟩
    replace k1 : H' pr = some (.lst (nV r0 :: rt.map nV)) := k1
    refine ⟨_, SqL.of k1, nV r0, at0, _, rfl, by decide, ?_⟩
    obtain ⟨r1, hr1, e1⟩ : ∃ r1 : Nat, (1 ≤ r1 ∧ r1 ≤ 12) ∧ (1 + (r0 : Int) % 12) = (r1 : Int) := ⟨1 + r0 % 12, by omega, by omega⟩
    rw [e1]
    refine ⟨_, k1, 0, by simp [ixN], by omega, by omega, ?_⟩
    show LcW _ _ _ _ _ _ _ (upd H' pr (HO.lst ((r1 :: rt).map nV))) Q
    have hr' : ∀ r ∈ r1 :: rt, r < 26 := fun r hr => by
      rcases List.mem_cons.mp hr with rfl | hr
      · omega
      · exact hr26 r (List.mem_cons_of_mem _ hr)
    have hrl' : (r1 :: rt).length = 8 := hrl
    have s2 := s1.upd (o := .lst ((r1 :: rt).map nV)) hpr
    have k2 : upd H' pr (.lst ((r1 :: rt).map nV)) pr = some (.lst ((r1 :: rt).map nV)) := upd_same
    generalize upd H' pr (.lst ((r1 :: rt).map nV)) = H2 at s2 k2 ⊢
    clear k1 s1 hrl hr26
    refine lc_range (n := (m : Int).toNat) (fun i ys σ H3 => Same H2 H3 ∧ ys = (List.range i).map (fun j => V.str (wd ((r1 :: rt).take (j + 1)))) ∧ ∃ o, σ = [o, some (V.str "abcdefghijklmnopqrstuvwxyz"), some (V.ref pr)]) ⟨Same.refl _, rfl, _, rfl⟩ (small (by omega)) (fun i ys σ H3 e => ?_) (fun i ys σ H3 C hi e hC => ?_) (fun ys σ H3 e p hp => ?_)
    · rw [e.2.1, List.length_map, List.length_range]
      exact Nat.le_refl _
    · obtain ⟨s3, rfl, o, rfl⟩ := e
      have e0 : (0 : Int) + (i : Int) + 1 = ((i + 1 : Nat) : Int) := by omega
      simp only [gName, tBM, tC, tCons, List.set_cons_zero, tNil, V.str.injEq, List.cons.injEq, and_true, exists_eq_left', tLC_eq, iList, tSl, tVar, List.getElem?_cons_succ, List.getElem?_cons_zero, Option.some.injEq, tNoPart, tPart, tOp, rI0, V.int.injEq, rSlL, V.ref.injEq, exists_and_left]
      refine ⟨rfl, _, SqL.of (s3 _ _ k2), fun p1 hp1 => ?_⟩
      rw [e0, cut_take _ _ (by rw [List.length_map]; omega), ← List.map_take]
      have s4 := s3.trans (same_new hp1 (.lst (((r1 :: rt).take (i + 1)).map nV)))
      have k4 : upd H3 p1 (.lst (((r1 :: rt).take (i + 1)).map nV)) p1 = some (.lst (((r1 :: rt).take (i + 1)).map nV)) := upd_same
      generalize upd H3 p1 (.lst (((r1 :: rt).take (i + 1)).map nV)) = H4 at s4 k4 ⊢
      have hq : ∀ r ∈ (r1 :: rt).take (i + 1), r < 26 := fun r hr => hr' r (List.mem_of_mem_take hr)
      have hql : ((r1 :: rt).take (i + 1)).length ≤ 8 := by rw [List.length_take]; omega
      generalize hqs : (r1 :: rt).take (i + 1) = qs at k4 hq hql ⊢
      refine ⟨⟨_, SqL.of k4⟩, ?_⟩
      refine lc_list (xs := qs.map nV) (fun k ys σ H5 => H5 = H4 ∧ ys = (qs.take k).map (fun r => V.str ⟨#[97 + r]⟩) ∧ ∃ o, σ = [o, some (V.str "abcdefghijklmnopqrstuvwxyz")]) ⟨rfl, rfl, _, rfl⟩ (small (by rw [List.length_map]; omega)) (fun k ys σ H5 e => ?_) (fun k ys σ H5 e => by rw [e.1]; exact SqL.of k4) (fun k x ys σ H5 C' hx e hC' => ?_) (fun ys σ H5 e p hp => ?_)
      · rw [e.2.1, List.length_map, List.length_take]
        exact Nat.min_le_left ..
      · obtain ⟨rfl, rfl, o, rfl⟩ := e
        rw [List.getElem?_map] at hx
        obtain ⟨r, hr, rfl⟩ := Option.map_eq_some_iff.mp hx
        obtain ⟨hkl, hk2⟩ := List.getElem?_eq_some_iff.mp hr
        simp only [gName, tOp, tVar, List.set_cons_zero, List.getElem?_cons_succ, List.getElem?_cons_zero, Option.some.injEq, rIxS, exists_and_left, exists_eq_left', V.int.injEq, V.str.injEq]
        refine ⟨small (by decide +kernel), _, letter_is r (hq r (List.mem_of_getElem? hr)), hC' _ _ _ ⟨rfl, ?_, _, rfl⟩⟩
        rw [List.take_succ_eq_append_getElem hkl, hk2, List.map_append]
        rfl
      · obtain ⟨rfl, rfl, o, rfl⟩ := e
        rw [List.length_map, List.take_of_length_le (Nat.le_refl _)]
        refine ⟨p, rfl, qs.map (fun r => (⟨#[97 + r]⟩ : Str)), SqL.of (by rw [upd_same, List.map_map]; rfl), ?_, hC _ _ _ ⟨s4.trans (same_new hp _), ?_, _, rfl⟩⟩
        · rw [List.map_map]
          have e1 : ((fun x : Str => x.length) ∘ fun r => (⟨#[97 + r]⟩ : Str)) = fun _ => 1 := rfl
          rw [e1, List.length_map]
          have e2 : (qs.map fun _ => 1).sum = qs.length := by
            clear hqs k4 hq hql
            induction qs with
            | nil => rfl
            | cons q qs ih => rw [List.map_cons, List.sum_cons, ih, List.length_cons]; omega
          rw [e2, show (Str.ofString "").length = 0 from rfl]
          omega
        · rw [join_wd, List.range_succ, List.map_append, ← hqs]
          rfl
    · obtain ⟨s3, rfl, o, rfl⟩ := e
      rw [show (m : Int).toNat = m from Int.toNat_natCast _]
      refine q p ((List.range m).map fun j => wd ((r1 :: rt).take (j + 1))) _ ((s2.trans s3).trans (same_new hp _)) ⟨by rw [upd_same, List.map_map]; rfl, by rw [List.length_map, List.length_range], ?_, fun z hz => ?_⟩
      · refine List.pairwise_iff_getElem.mpr fun x y hx hy hxy e => ?_
        rw [List.length_map, List.length_range] at hx hy
        rw [List.getElem_map, List.getElem_map, List.getElem_range, List.getElem_range] at e
        have := congrArg List.length (wd_inj e)
        rw [List.length_take, List.length_take] at this
        omega
      · obtain ⟨j, hj, rfl⟩ := List.mem_map.mp hz
        have hj := List.mem_range.mp hj
        have hlj : (wd ((r1 :: rt).take (j + 1))).length = j + 1 := by rw [wd_len, List.length_take]; omega
        have h0 : (wd ((r1 :: rt).take (j + 1))).cps.toList[0]? = some (97 + r1) := by rw [wd_cps]; rfl
        refine ⟨by omega, by omega, fun c hc => ?_, fun e => ?_, fun e => ?_⟩
        · rw [wd_cps] at hc
          obtain ⟨r, hr, rfl⟩ := List.mem_map.mp hc
          have := hr' r (List.mem_of_mem_take hr)
          omega
        · rw [e, show ("none" : Str).cps.toList[0]? = some 110 by decide +kernel] at h0
          have := Option.some.inj h0
          omega
        · rw [e, show ("all" : Str).cps.toList[0]? = some 97 by decide +kernel] at h0
          have := Option.some.inj h0
          omega
  rw [if_neg hf3]
  refine hN _ _ ?_
  clear hN
  refine seq_abs fun N hN => ?_
  simp only [tAsg, tOp, tC, tVar, List.getElem?_cons_succ, List.getElem?_cons_zero, Option.some.injEq, rI, V.int.injEq, rI0, gName, List.set_cons_succ, List.set_cons_zero, exists_and_left, exists_eq_left']
  refine ⟨⟨by decide, by decide⟩, by decide, hN _ _ ?_⟩
  clear hN
  obtain ⟨sz, hsz, esz⟩ : ∃ sz : Nat, (1 ≤ sz ∧ sz ≤ 8) ∧ 1 + fi / 3 % 8 = (sz : Int) := ⟨(1 + fi / 3 % 8).toNat, by omega, by omega⟩
  rw [esz]
  refine seq_abs fun N hN => ?_
  simp only [tAsg, tOp, tVar, List.getElem?_cons_succ, List.getElem?_cons_zero, Option.some.injEq, tC, rI, V.int.injEq, gName, List.set_cons_succ, List.set_cons_zero, exists_and_left, exists_eq_left']
  refine ⟨⟨by decide, by decide⟩, by omega, hN _ _ ?_⟩
  clear hN
  have ha0 := Int.emod_nonneg (fi / 24) (b := (sz : Int)) (by omega)
  have ha1 := Int.emod_lt_of_pos (fi / 24) (b := (sz : Int)) (by omega)
  obtain ⟨at', hat, eat⟩ : ∃ at' : Nat, at' < sz ∧ fi / 24 % (sz : Int) = (at' : Int) := ⟨(fi / 24 % (sz : Int)).toNat, by omega, by omega⟩
  rw [eat]
  clear ha0 ha1 eat esz
  refine seq_abs fun N hN => ?_
  simp only [tAsg, tLst, tNil, List.length_nil, gName, List.set_cons_succ, List.set_cons_zero]
  refine ⟨small (by decide), fun pn hpn => hN _ _ ?_⟩
  clear hN
  have npn := s1.free hpn
  have nrn : pr ≠ pn := ne_of_none k1 hpn
  have s2 := s1.trans (same_new hpn (.lst []))
  have k2 : upd H' pn (.lst []) pn = some (.lst (([] : List Str).map V.str)) := upd_same
  replace k1 := same_new hpn (.lst []) _ _ k1
  generalize upd H' pn (.lst []) = H2 at s2 k1 k2 ⊢
  refine seq_join (fun σ H' => ∃ (o7 o11 o12 : Option V), Same H H' ∧ H' pn = some (.lst (((List.range m).map fun n => nmF (wn rs sz at' n)).map V.str)) ∧ σ = [some (V.ref a), some (V.int k), some (V.int m), some (V.str "abcdefghijklmnopqrstuvwxyz"), some (V.int fi), some (V.int sp), some (V.ref pr), o7, some (V.int sz), some (V.int at'), some (V.ref pn), o11, o12]) (fun N hN => ?_) (fun σ H' h => ?_)
  · simp only [cx_K, exists_and_left, tFor_eq, iRng1, tCons, tVar, List.getElem?_cons_succ, List.getElem?_cons_zero, Option.some.injEq, tNil, List.cons.injEq, and_true, exists_eq_left', V.int.injEq]
    refine ⟨by omega, by omega, ?_⟩
    refine fw_range (n := (m : Int).toNat) (fun i σ H' => ∃ (o7 o11 o12 : Option V), Same H H' ∧ H' pr = some (.lst (rs.map nV)) ∧ H' pn = some (.lst (((List.range i).map fun n => nmF (wn rs sz at' n)).map V.str)) ∧ σ = [some (V.ref a), some (V.int k), some (V.int m), some (V.str "abcdefghijklmnopqrstuvwxyz"), some (V.int fi), some (V.int sp), some (V.ref pr), o7, some (V.int sz), some (V.int at'), some (V.ref pn), o11, o12]) ⟨_, _, _, s2, k1, k2, rfl⟩ (fun i σ H' hi h => ?_) (fun σ H' h => ?_)
    rotate_left
    · obtain ⟨o7, o11, o12, s3, _, k3, rfl⟩ := h
      rw [show (m : Int).toNat = m from Int.toNat_natCast _] at k3
      exact hN _ _ ⟨_, _, _, s3, k3, rfl⟩
    obtain ⟨o7, o11, o12, s3, kr, k3, rfl⟩ := h
    have e0 : (0 : Int) + (i : Int) = ((i : Nat) : Int) := by omega
    have him : i < m := by omega
    show tSeq _ _ _ _ _
    refine seq_abs fun N hN => ?_
    simp only [tAsg, tBM, tC, tCons, List.set_cons_succ, List.set_cons_zero, tNil, V.str.injEq, List.cons.injEq, and_true, gName, exists_eq_left', tLC_eq, iRng1, tVar, List.getElem?_cons_succ, List.getElem?_cons_zero, Option.some.injEq, V.int.injEq]
    rw [e0]
    refine ⟨rfl, by omega, by omega, ?_⟩
    refine lc_range (n := (sz : Int).toNat) (fun j ys σ H5 => H5 = H' ∧ ys = ((wn rs sz at' i).take j).map (fun r => V.str ⟨#[97 + r]⟩) ∧ ∃ o, σ = [o, some (V.str "abcdefghijklmnopqrstuvwxyz"), some (V.ref pr), some (V.int i), some (V.int at')]) ⟨rfl, rfl, _, rfl⟩ (small (by omega)) (fun j ys σ H5 e => ?_) (fun j ys σ H5 C' hj e hC' => ?_) (fun ys σ H5 e p hp => ?_)
    · rw [e.2.1, List.length_map, List.length_take]
      exact Nat.min_le_left ..
    · obtain ⟨rfl, rfl, o, rfl⟩ := e
      have e1 : (0 : Int) + (j : Int) = ((j : Nat) : Int) := by omega
      have hj8 : j < rs.length := by omega
      simp only [gName, tOp, tVar, List.set_cons_zero, List.getElem?_cons_succ, List.getElem?_cons_zero, Option.some.injEq, rIxL, tCB, tCons, rEq, tNil, List.cons.injEq, V.bl.injEq, and_true, rI, V.int.injEq, rI0, tC, rIxS, exists_and_left, exists_eq_left', decide_eq_true_eq, V.ref.injEq, V.str.injEq]
      rw [e1]
      refine ⟨_, SqL.of kr, nV rs[j], atI_nat (by rw [List.getElem?_map, List.getElem?_eq_getElem hj8]; rfl), ?_⟩
      have e2 : ((rs[j] : Int) + (i : Int) * (if (j : Int) = (at' : Int) then 1 else 0)) % 26 = (((rs.getD j 0 + (if j = at' then i else 0)) % 26 : Nat) : Int) := by
        rw [List.getD_eq_getElem?_getD, List.getElem?_eq_getElem hj8]
        show ((rs[j] : Int) + (i : Int) * (if (j : Int) = (at' : Int) then 1 else 0)) % 26 = (((rs[j] + (if j = at' then i else 0)) % 26 : Nat) : Int)
        by_cases hja : j = at'
        · rw [if_pos hja, if_pos (by omega)]; omega
        · rw [if_neg hja, if_neg (by omega)]; omega
      refine ⟨rfl, .inl ⟨by omega, by omega⟩, _, rfl, by decide, small (by decide +kernel), 97 + (rs.getD j 0 + (if j = at' then i else 0)) % 26, ?_, hC' _ _ _ ⟨rfl, ?_, _, rfl⟩⟩
      · rw [e2]
        exact letter_is _ (by omega)
      · have hjl : j < (wn rs sz at' i).length := by rw [wn_len]; omega
        rw [List.take_succ_eq_append_getElem hjl, List.map_append]
        have e3 : (wn rs sz at' i)[j] = (rs.getD j 0 + (if j = at' then i else 0)) % 26 := by
          have : (wn rs sz at' i)[j]? = some ((rs.getD j 0 + (if j = at' then i else 0)) % 26) := by
            unfold wn
            rw [List.getElem?_map, List.getElem?_range (by omega)]
            rfl
          rw [List.getElem?_eq_getElem hjl] at this
          exact Option.some.inj this
        rw [e3]
        rfl
    obtain ⟨rfl, rfl, o, rfl⟩ := e
    rw [show (sz : Int).toNat = sz from Int.toNat_natCast _, List.take_of_length_le (by rw [wn_len]; exact Nat.le_refl _)]
    have hwl := wn_len rs sz at' i
    refine ⟨p, rfl, (wn rs sz at' i).map (fun r => (⟨#[97 + r]⟩ : Str)), SqL.of (by rw [upd_same, List.map_map]; rfl), ?_, hN _ _ ?_⟩
    · rw [List.map_map]
      have e1 : ((fun x : Str => x.length) ∘ fun r => (⟨#[97 + r]⟩ : Str)) = fun _ => 1 := rfl
      rw [e1, List.length_map]
      have e2 : ∀ qs : List Nat, (qs.map fun _ => 1).sum = qs.length := fun qs => by
        induction qs with
        | nil => rfl
        | cons q qs ih => rw [List.map_cons, List.sum_cons, ih, List.length_cons]; omega
      rw [e2, show (Str.ofString "").length = 0 from rfl]
      omega
    clear hN
    rw [join_wd]
    have s4 := s3.trans (same_new hp (.lst ((wn rs sz at' i).map fun r => V.str ⟨#[97 + r]⟩)))
    replace kr := same_new hp (.lst ((wn rs sz at' i).map fun r => V.str ⟨#[97 + r]⟩)) _ _ kr
    replace k3 := same_new hp (.lst ((wn rs sz at' i).map fun r => V.str ⟨#[97 + r]⟩)) _ _ k3
    generalize upd H5 p (.lst ((wn rs sz at' i).map fun r => V.str ⟨#[97 + r]⟩)) = H6 at s4 kr k3 ⊢
    refine seq_join (fun σ H' => H' = H6 ∧ σ = [some (V.ref a), some (V.int k), some (V.int m), some (V.str "abcdefghijklmnopqrstuvwxyz"), some (V.int fi), some (V.int sp), some (V.ref pr), o7, some (V.int sz), some (V.int at'), some (V.ref pn), some (V.int i), some (V.str (nmF (wn rs sz at' i)))]) (fun N hN => ?_) (fun σ H' h => ?_)
    · have hx1 : (wd (wn rs sz at' i)).length + (Str.ofString "x").length ≤ sizeLine := by
        rw [wd_len, hwl, show (Str.ofString "x").length = 1 by decide +kernel]
        exact small (by omega)
      simp only [tIfS, tOr, tTest, tOp, tVar, List.getElem?_cons_succ, List.getElem?_cons_zero, Option.some.injEq, tC, rEq, V.bl.injEq, tAsg, V.str.injEq, gName, List.set_cons_succ, List.set_cons_zero, exists_eq_left', tNext, if_true, decide_eq_true_eq]
      unfold nmF at hN
      refine ⟨rfl, ?_⟩
      by_cases c1 : wd (wn rs sz at' i) = "none"
      · rw [if_pos c1]
        rw [if_pos (.inl c1)] at hN
        exact ⟨hx1, hN _ _ ⟨rfl, rfl⟩⟩
      rw [if_neg c1]
      refine ⟨rfl, ?_⟩
      by_cases c2 : wd (wn rs sz at' i) = "all"
      · rw [if_pos c2]
        rw [if_pos (.inr c2)] at hN
        exact ⟨hx1, hN _ _ ⟨rfl, rfl⟩⟩
      rw [if_neg c2]
      rw [if_neg (by rintro (z | z); exact c1 z; exact c2 z)] at hN
      exact hN _ _ ⟨rfl, rfl⟩
    obtain ⟨rfl, rfl⟩ := h
    simp only [tDrop, tBM, tVar, List.getElem?_cons_succ, List.getElem?_cons_zero, Option.some.injEq, tCons, tNil, rAppend, List.cons.injEq, and_true, true_and, exists_and_left, exists_eq_left', V.ref.injEq]
    refine ⟨.inl ⟨rfl, _, SqL.of k3⟩, _, k3, small1000 (by rw [List.length_map, List.length_map, List.length_range]; omega), s4.upd npn, by rw [upd_ne nrn]; exact kr, ?_, _, rfl⟩
    rw [upd_same, List.range_succ, List.map_append, List.map_append]
    rfl
  obtain ⟨o7, o11, o12, s3, k3, rfl⟩ := h
  simp only [tRet, tVar, List.getElem?_cons_succ, List.getElem?_cons_zero, Option.some.injEq, exists_eq_left']
  exact q pn _ _ s3 ⟨k3, by rw [List.length_map, List.length_range], nmF_nd hrl hr26 hsz.2 hat h5, fun z hz => by
    obtain ⟨n, _, rfl⟩ := List.mem_map.mp hz
    exact nmF_nm hsz⟩
end
end C
set_option Elab.async false
set_option linter.all false
set_option maxRecDepth 100000
set_option maxHeartbeats 8000000
namespace C
open PySem L2
seal PE PT PW PA PS PSs PG PGs PI PPs PO PSet PIf
abbrev s_mask_of : Stmt := top 2
theorem sc_mask_of : FnScope ["numbers", "mask", "n"] ["numbers"] (defScope s_mask_of) := ⟨rfl, rfl, rfl, by decide +kernel, rfl, by decide +kernel, by decide +kernel⟩
abbrev s_bits_of : Stmt := top 3
theorem sc_bits_of : FnScope ["mask", "bits", "rest", "low"] ["mask"] (defScope s_bits_of) := ⟨rfl, rfl, rfl, by decide +kernel, rfl, by decide +kernel, by decide +kernel⟩
abbrev s_Floor_init : Stmt := inClass (top 13) 0
theorem sc_Floor_init : FnScope ["self", "many", "clashes", "a", "b"] ["self", "many", "clashes"] (defScope s_Floor_init) := ⟨rfl, rfl, rfl, by decide +kernel, rfl, by decide +kernel, by decide +kernel⟩
abbrev s_Floor_common_of : Stmt := inClass (top 13) 1
theorem sc_Floor_common_of : FnScope ["self", "sets", "common", "spots"] ["self", "sets"] (defScope s_Floor_common_of) := ⟨rfl, rfl, rfl, by decide +kernel, rfl, by decide +kernel, by decide +kernel⟩
abbrev s_Floor_counter_of : Stmt := inClass (top 13) 2
theorem sc_Floor_counter_of : FnScope ["self", "spots"] ["self", "spots"] (defScope s_Floor_counter_of) := ⟨rfl, rfl, rfl, by decide +kernel, rfl, by decide +kernel, by decide +kernel⟩
def IsMask (m : Nat) (ns : List Nat) : Prop := ∀ i, m.testBit i = decide (i ∈ ns)
def spMask (K : PySem.W.Frag) : Sp := fun vs H Q _ => ∃ (a : Addr) (ns : List Nat), vs = [.ref a] ∧ SqL K H a (ns.map nV) ∧ (∀ n ∈ ns, n < 100) ∧ ∀ m : Nat, IsMask m ns → Q (.int m) H
def spBits : Sp := fun vs H Q _ => ∃ (m : Nat) (xs : List Nat), vs = [.int m] ∧ Bits m xs ∧ (∀ x ∈ xs, x < 100) ∧ ∀ p H', Same H H' → H p = none → H' p = some (.lst (xs.map nV)) → Q (.ref p) H'
theorem mask_put {m n : Nat} {ns : List Nat} (h : IsMask m ns) : IsMask (m ||| 2 ^ n) (ns ++ [n]) := fun i => by
  rw [Nat.testBit_or, h, Nat.testBit_two_pow]
  by_cases e : n = i
  · subst e; simp
  · simp [e, Ne.symm e]
theorem bits_len {m : Nat} {xs : List Nat} (h : Bits m xs) (hx : ∀ x ∈ xs, x < 100) : xs.length ≤ 100 := by
  have : ∀ (xs : List Nat) (b : Nat), xs.Pairwise (· < ·) → (∀ x ∈ xs, b ≤ x ∧ x < 100) → xs.length + b ≤ 100 ∨ xs = [] := by
    intro xs
    induction xs with
    | nil => intro b _ _; exact .inr rfl
    | cons x xs ih =>
      intro b hp hb
      have hp' := List.pairwise_cons.mp hp
      have hx := hb x List.mem_cons_self
      rcases ih (x + 1) hp'.2 (fun y hy => ⟨hp'.1 y hy, (hb y (List.mem_cons_of_mem _ hy)).2⟩) with h | h
      · left; rw [List.length_cons]; omega
      · subst h; left; rw [List.length_cons, List.length_nil]; omega
  rcases this xs 0 h.1 (fun x hx' => ⟨Nat.zero_le _, hx x hx'⟩) with h | h
  · omega
  · subst h; simp
section
variable {P : Program} {w : World} {K : PySem.W.Frag} {mg : Str → Option Value} {base : Heap} {f : Addr} {fd : FuncData}
theorem ok_mask_of (bi : Bi mg) (F : Fun K "mask_of" "mask_of" s_mask_of f fd) : FnOk P w K mg base CX0 1 f fd ["numbers"] (spMask K) := by
  refine F.ok sc_mask_of (fun vs H Q E h => ?_) (fun cdv A outer s H vs Q E hr h => ?_)
  · obtain ⟨a, ns, rfl, _⟩ := h
    rfl
  obtain ⟨a, ns, rfl, ha, hn, q⟩ := h
  refine ⟨_, (pss_cons (ps_set (i := 1) sc_mask_of.nd rfl (Or.inl rfl) pe_int) (pss_cons (ps_for PassesOwn.never rfl (pi_list (pv 0)) (pg_name (i := 2) sc_mask_of.nd rfl (Or.inl rfl)) (pss_one (ps_aug (i := 1) sc_mask_of.nd rfl (Or.inl rfl) (pe_op op_shl pe_int (pv 2)) ip_or))) (pss_one (ps_ret (pv 1))))), ?_⟩
  refine seq_abs fun N hN => ?_
  simp only [tAsg, tC, gName, L2.start, List.map_cons, List.map_nil, List.length_cons, List.length_nil, Nat.reduceAdd, Nat.reduceSub, List.replicate, List.cons_append, List.nil_append, List.set_cons_succ, List.set_cons_zero]
  refine hN _ _ ?_
  clear hN
  refine seq_join (fun σ H' => H' = H ∧ ∃ (m : Nat) (o : Option V), IsMask m ns ∧ σ = [some (V.ref a), some (V.int m), o]) (fun N hN => ?_) (fun σ H' h => ?_)
  · simp only [cx_K, tFor_eq, iList, tVar, List.getElem?_cons_zero, Option.some.injEq, exists_eq_left', V.ref.injEq]
    refine ⟨⟨_, ha⟩, ?_⟩
    refine fw_list (xs := ns.map nV) (fun i σ H' => H' = H ∧ ∃ (m : Nat) (o : Option V), IsMask m (ns.take i) ∧ σ = [some (V.ref a), some (V.int m), o]) ⟨rfl, 0, _, fun i => by simp, rfl⟩ (fun i σ H' _ h => by rw [h.1]; exact ha) (fun i x σ H' hx h => ?_) (fun σ H' h => ?_)
    · obtain ⟨rfl, m, o, hm, rfl⟩ := h
      rw [List.getElem?_map] at hx
      cases hni : ns[i]? with
      | none => rw [hni] at hx; cases hx
      | some n =>
        rw [hni] at hx
        cases hx
        have hnb := hn n (List.mem_of_getElem? hni)
        simp only [gName, tAug, List.set_cons_succ, List.set_cons_zero, List.getElem?_cons_succ, List.getElem?_cons_zero, Option.some.injEq, tOp, tC, tVar, rI, V.int.injEq, ipI, List.cons.injEq, and_true, true_and, exists_and_left, exists_eq_left']
        refine ⟨⟨by omega, by omega, by decide⟩, m ||| 2 ^ n, ?_, ?_, _, rfl⟩
        · obtain ⟨hi, e⟩ := List.getElem?_eq_some_iff.mp hni
          rw [List.take_succ_eq_append_getElem hi, e]
          exact mask_put hm
        · rw [shl_one, or_mask]
    · obtain ⟨rfl, m, o, hm, rfl⟩ := h
      rw [List.length_map, List.take_of_length_le (Nat.le_refl _)] at hm
      exact hN _ _ ⟨rfl, m, o, hm, rfl⟩
  obtain ⟨rfl, m, o, hm, rfl⟩ := h
  simp only [tRet, tVar, List.getElem?_cons_succ, List.getElem?_cons_zero, Option.some.injEq, exists_eq_left']
  exact q m hm
theorem ok_bits_of (bi : Bi mg) (F : Fun K "bits_of" "bits_of" s_bits_of f fd) : FnOk P w K mg base CX0 1 f fd ["mask"] spBits := by
  refine F.ok sc_bits_of (fun vs H Q E h => ?_) (fun cdv A outer s H vs Q E hr h => ?_)
  · obtain ⟨m, xs, rfl, _⟩ := h
    rfl
  obtain ⟨m, xs, rfl, hb, hx, q⟩ := h
  have hxl := bits_len hb hx
  refine ⟨_, (pss_cons (ps_set (i := 1) sc_bits_of.nd rfl (Or.inl rfl) (pe_lst pa_nil)) (pss_cons (ps_set (i := 2) sc_bits_of.nd rfl (Or.inl rfl) (pv 0)) (pss_cons (ps_while PassesOwn.never (pt_truth (pv 2) (fun _ => rfl)) (pss_cons (ps_set (i := 3) sc_bits_of.nd rfl (Or.inl rfl) (pe_op op_and (pv 2) (pe_un un_neg (pv 2)))) (pss_cons (ps_expr (pe_bm PySem.F.plainAttrs_list PySem.F.slot_list_append PySem.F.type_list_append mt_append (pv 1) (pa_cons (pe_op op_sub (pe_bm0 PySem.F.plainAttrs_int PySem.F.slot_int_bit_length PySem.F.type_int_bit_length mt_bit_length (pv 3)) pe_int) pa_nil))) (pss_one (ps_aug (i := 2) sc_bits_of.nd rfl (Or.inl rfl) (pv 3) ip_xor))))) (pss_one (ps_ret (pv 1)))))), ?_⟩
  refine seq_abs fun N hN => ?_
  simp only [tAsg, tLst, tNil, List.length_nil, gName, L2.start, List.map_cons, List.map_nil, List.length_cons, Nat.reduceAdd, Nat.reduceSub, List.replicate, List.cons_append, List.nil_append, List.set_cons_succ, List.set_cons_zero]
  refine ⟨small (by simp), fun p hp => hN _ _ ?_⟩
  clear hN
  refine seq_abs fun N hN => ?_
  simp only [tAsg, tVar, List.getElem?_cons_zero, Option.some.injEq, gName, List.set_cons_succ, List.set_cons_zero, exists_eq_left']
  refine hN _ _ ?_
  clear hN
  have s1 := same_new hp (.lst [])
  have k1 : upd H p (.lst []) p = some (.lst ((xs.take 0).map nV)) := upd_same
  generalize upd H p (.lst []) = H1 at s1 k1 ⊢
  refine seq_join (fun σ H' => ∃ (o1 o2 : Option V), Same H H' ∧ H' p = some (.lst (xs.map nV)) ∧ σ = [some (V.int m), some (V.ref p), o1, o2]) (fun N hN => ?_) (fun σ H' h => ?_)
  · simp only [tWhile, tVar, cx_K, tSeq, tAsg, tOp, tUn, rU, rI0, V.int.injEq, gName, tDrop, tBM, tCons, tBM0, tC, tNil, rAppend, List.cons.injEq, and_true, exists_and_left, exists_eq_left']
    refine ⟨fun k σ H' => ∃ (i r : Nat) (o : Option V), k = xs.length - i ∧ i ≤ xs.length ∧ Same H H' ∧ H' p = some (.lst ((xs.take i).map nV)) ∧ Bits r (xs.drop i) ∧ σ = [some (V.int m), some (V.ref p), some (V.int r), o], ⟨_, 0, m, _, rfl, Nat.zero_le _, s1, k1, hb, rfl⟩, fun k σ H' h => ?_⟩
    obtain ⟨i, r, o, rfl, hi, s2, k2, hr', rfl⟩ := h
    simp only [List.getElem?_cons_succ, List.getElem?_cons_zero, Option.some.injEq, exists_and_left, List.set_cons_succ, List.set_cons_zero, exists_eq_left', V.ref.injEq, V.int.injEq]
    refine ⟨_, rfl, ?_⟩
    cases hd : xs.drop i with
    | nil =>
      rw [hd] at hr'
      have e0 := hr'.nil
      subst e0
      rw [if_neg (by decide)]
      have hil : xs.length ≤ i := by
        have := congrArg List.length hd
        rw [List.length_drop, List.length_nil] at this
        omega
      rw [List.take_of_length_le hil] at k2
      exact hN _ _ ⟨_, _, s2, k2, rfl⟩
    | cons x rest =>
      rw [hd] at hr'
      have hxb : r.testBit x = true := by rw [hr'.2]; simp
      obtain ⟨hr0, hl, hb2⟩ := hr'.cons
      rw [if_pos (by simp; omega)]
      have hil : i < xs.length := by
        have := congrArg List.length hd
        rw [List.length_drop, List.length_cons] at this
        omega
      have hxi : xs[i]? = some x := by
        have := congrArg (·[0]?) hd
        simpa using this
      have hdr : xs.drop (i + 1) = rest := by
        have := congrArg (List.drop 1) hd
        rw [List.drop_drop] at this
        simpa using this
      refine ⟨fun σ' H'' => ∃ (o : Option V), Same H H'' ∧ H'' p = some (.lst ((xs.take (i + 1)).map nV)) ∧ σ' = [some (V.int m), some (V.ref p), some (V.int ((r &&& (r - 1) : Nat) : Int)), o], fun σ' H'' h => ?_, ?_⟩
      · obtain ⟨o', a1, a2, rfl⟩ := h
        exact ⟨xs.length - (i + 1), by omega, i + 1, rfl, by omega, a1, a2, _, by rw [hdr]; exact hb2, _, rfl⟩
      have elow : Builtin.bitAnd (r : Int) (-(r : Int)) = ((2 ^ x : Nat) : Int) := by rw [low_mask hr0, hl]
      simp only [rBitLen, V.int.injEq, tAug, List.getElem?_cons_succ, List.getElem?_cons_zero, Option.some.injEq, tVar, ipI, List.set_cons_succ, List.set_cons_zero, List.cons.injEq, and_true, true_and, exists_and_left, exists_eq_left']
      rw [elow, bits_pow]
      refine ⟨.inl ⟨rfl, _, SqL.of k2⟩, rfl, _, k2, small1000 (by rw [List.length_map, List.length_take]; omega), s2.upd hp, ?_, xor_low hl hxb, _, rfl⟩
      have e : (((x + 1 : Nat) : Int) - 1) = (x : Int) := by omega
      obtain ⟨_, ei⟩ := List.getElem?_eq_some_iff.mp hxi
      rw [upd_same, e, List.take_succ_eq_append_getElem hil, ei, List.map_append]
      rfl
  obtain ⟨o1, o2, s2, k2, rfl⟩ := h
  simp only [tRet, tVar, List.getElem?_cons_succ, List.getElem?_cons_zero, Option.some.injEq, exists_eq_left']
  exact q _ _ s2 hp k2
end
end C
set_option Elab.async false
set_option linter.all false
set_option maxRecDepth 100000
set_option maxHeartbeats 8000000
namespace C
open PySem L2
seal PE PT PW PA PS PSs PG PGs PI PPs PO PSet PIf
def clOf (ps : List (Nat × Nat)) (a b : Nat) : Bool := ps.any fun p => (p.1 == a && p.2 == b) || (p.1 == b && p.2 == a)
theorem clOf_comm (ps : List (Nat × Nat)) (a b : Nat) : clOf ps a b = clOf ps b a := by
  unfold clOf
  congr 1
  funext p
  rw [Bool.or_comm]
theorem clOf_snoc (ps : List (Nat × Nat)) (p : Nat × Nat) (a b : Nat) : clOf (ps ++ [p]) a b = (clOf ps a b || ((p.1 == a && p.2 == b) || (p.1 == b && p.2 == a))) := by
  unfold clOf
  rw [List.any_append]
  simp
def dP2 (p : Nat × Nat) : Dt := .tup [.int p.1, .int p.2]
def Ok2 (m : Nat) (ps : List (Nat × Nat)) : Prop := ∀ p ∈ ps, p.1 < p.2 ∧ p.2 < m
theorem p2At {H : Hp} {p : Nat × Nat} {v : V} (h : DAt H (dP2 p) v) : ∃ a, v = .ref a ∧ H a = some (.tup [nV p.1, nV p.2]) := by
  obtain ⟨a, vs, e1, e2, u1, r1, q1, h1, u2, r2, q2, h2, h3⟩ := h
  have h1 : u1 = nV p.1 := h1
  have h2 : u2 = nV p.2 := h2
  have h3 : r2 = [] := h3
  subst h3 q2 q1 h1 h2
  exact ⟨a, e1, e2⟩
def cnt (m : Nat) (ps : List (Nat × Nat)) (sp : List Nat) : List Nat := (List.range m).filter fun i => sp.all fun a => clOf ps a i
theorem cnt_mem {m : Nat} {ps : List (Nat × Nat)} {sp : List Nat} {i : Nat} : i ∈ cnt m ps sp ↔ i < m ∧ (sp.all fun a => clOf ps a i) = true := by
  unfold cnt
  rw [List.mem_filter, List.mem_range]
theorem cnt_rise (m : Nat) (ps : List (Nat × Nat)) (sp : List Nat) : (cnt m ps sp).Pairwise (· < ·) := List.Pairwise.filter _ List.pairwise_lt_range
structure FlC (K : PySem.W.Frag) (C : Addr) : Prop where
  cl : Cls K C
  nE : NoAttr K C "everywhere"
  nC : NoAttr K C "clashing"
def flF (e : Nat) (l : Addr) : List (Str × V) := [("everywhere", nV e), ("clashing", .ref l)]
theorem fl_e (e : Nat) (l : Addr) : (flF e l).lookup ("everywhere" : Str) = some (nV e) := by
  unfold flF
  rw [List.lookup_cons, show (("everywhere" : Str) == "everywhere") = true by decide +kernel]
theorem fl_c (e : Nat) (l : Addr) : (flF e l).lookup ("clashing" : Str) = some (.ref l) := by
  unfold flF
  rw [List.lookup_cons, show (("clashing" : Str) == "everywhere") = false by decide +kernel, List.lookup_cons, show (("clashing" : Str) == "clashing") = true by decide +kernel]
structure Msk (m : Nat) (ps : List (Nat × Nat)) (cs : List Nat) : Prop where
  len : cs.length = m
  bit : ∀ (a c : Nat), cs[a]? = some c → ∀ i, c.testBit i = clOf ps a i
def FlAt (C : Addr) (H : Hp) (r : Addr) (m : Nat) (ps : List (Nat × Nat)) : Prop := ∃ dx l cs, H r = some (.ins C dx (flF (2 ^ m - 1) l)) ∧ H l = some (.lst (cs.map nV)) ∧ Msk m ps cs
theorem FlAt.same {C : Addr} {H H' : Hp} {r : Addr} {m : Nat} {ps : List (Nat × Nat)} (e : Same H H') (h : FlAt C H r m ps) : FlAt C H' r m ps := by
  obtain ⟨dx, l, cs, h1, h2, h3⟩ := h
  exact ⟨dx, l, cs, e _ _ h1, e _ _ h2, h3⟩
theorem msk_nil (m : Nat) : Msk m [] (List.replicate m 0) := ⟨List.length_replicate .., fun a c h i => by
  obtain ⟨_, e⟩ := List.getElem?_eq_some_iff.mp h
  rw [List.getElem_replicate] at e
  subst e
  simp [clOf]⟩
theorem msk_put {m : Nat} {ps : List (Nat × Nat)} {cs : List Nat} {a b ca cb : Nat} (h : Msk m ps cs) (hab : a ≠ b) (ha : cs[a]? = some ca) (hb : cs[b]? = some cb) : Msk m (ps ++ [(a, b)]) ((cs.set a (ca ||| 2 ^ b)).set b (cb ||| 2 ^ a)) := by
  refine ⟨by rw [List.length_set, List.length_set]; exact h.len, fun x c hx i => ?_⟩
  have la := (List.getElem?_eq_some_iff.mp ha).1
  have lb := (List.getElem?_eq_some_iff.mp hb).1
  rw [clOf_snoc]
  by_cases e1 : b = x
  · subst e1
    rw [List.getElem?_set_self (by rw [List.length_set]; exact lb)] at hx
    cases hx
    rw [Nat.testBit_or, h.bit b cb hb, Nat.testBit_two_pow]
    have : (a == b) = false := beq_eq_false_iff_ne.mpr hab
    simp only [this, Bool.false_and, Bool.false_or, beq_self_eq_true, Bool.and_true]
    congr 1
  · rw [List.getElem?_set_ne e1] at hx
    by_cases e2 : a = x
    · subst e2
      rw [List.getElem?_set_self la] at hx
      cases hx
      rw [Nat.testBit_or, h.bit a ca ha, Nat.testBit_two_pow]
      have : (b == a) = false := beq_eq_false_iff_ne.mpr (Ne.symm hab)
      simp only [this, Bool.and_false, Bool.or_false, beq_self_eq_true, Bool.true_and]
      congr 1
    · rw [List.getElem?_set_ne e2] at hx
      rw [h.bit x c hx]
      have t1 : (a == x) = false := beq_eq_false_iff_ne.mpr e2
      have t2 : (b == x) = false := beq_eq_false_iff_ne.mpr e1
      simp [t1, t2]
def spFI (C : Addr) : Sp := fun vs H Q _ => ∃ (r dx ca : Addr) (m : Nat) (us : List V) (ps : List (Nat × Nat)), vs = [.ref r, .int m, .ref ca] ∧ H r = some (.ins C dx []) ∧ ca ≠ r ∧ H ca = some (.lst us) ∧ DAts H (ps.map dP2) us ∧ Ok2 m ps ∧ m ≤ 90 ∧ ∀ H', SameX r H H' → FlAt C H' r m ps → Q .non H'
def spCo (K : PySem.W.Frag) (C : Addr) : Sp := fun vs H Q _ => ∃ (r sa : Addr) (m : Nat) (ps : List (Nat × Nat)) (ms : List Nat), vs = [.ref r, .ref sa] ∧ FlAt C H r m ps ∧ SqL K H sa (ms.map nV) ∧ ms.length ≤ 1000 ∧ ∀ c : Nat, (∀ i, c.testBit i = (decide (i < m) && ms.all fun x => x.testBit i)) → Q (.int c) H
def spCn (C : Addr) : Sp := fun vs H Q _ => ∃ (r : Addr) (m s : Nat) (ps : List (Nat × Nat)) (xs : List Nat), vs = [.ref r, .int s] ∧ FlAt C H r m ps ∧ m ≤ 90 ∧ Bits s xs ∧ (∀ x ∈ xs, x < m) ∧ ∀ (c : Nat) H', Same H H' → IsMask c (cnt m ps xs) → Q (.int c) H'
section
variable {P : Program} {w : World} {K : PySem.W.Frag} {mg : Str → Option Value} {base : Heap} {f : Addr} {fd : FuncData}
theorem ok_common {C : Addr} (T : FlC K C) (F : Fun K "common_of" "Floor.common_of" s_Floor_common_of f fd) : FnOk P w K mg base CX0 1 f fd ["self", "sets"] (spCo K C) := by
  refine F.ok sc_Floor_common_of (fun vs H Q E h => ?_) (fun cdv A outer s H vs Q E hr h => ?_)
  · obtain ⟨r, sa, m, ps, ms, rfl, _⟩ := h
    rfl
  obtain ⟨r, sa, m, ps, ms, rfl, ⟨dx, l, cs, hr', hl, hm⟩, hs, h1000, q⟩ := h
  refine ⟨_, (pss_cons (ps_set (i := 2) sc_Floor_common_of.nd rfl (Or.inl rfl) (pe_fld (pv 0) rfl)) (pss_cons (ps_for PassesOwn.never rfl (pi_list (pv 1)) (pg_name (i := 3) sc_Floor_common_of.nd rfl (Or.inl rfl)) (pss_one (ps_aug (i := 2) sc_Floor_common_of.nd rfl (Or.inl rfl) (pv 3) ip_and))) (pss_one (ps_ret (pv 2))))), ?_⟩
  refine seq_abs fun N hN => ?_
  simp only [tAsg, tFld, tVar, L2.start, List.map_cons, List.map_nil, List.length_cons, List.length_nil, Nat.reduceAdd, Nat.reduceSub, List.replicate, List.cons_append, List.nil_append, List.getElem?_cons_zero, Option.some.injEq, cx_K, gName, List.set_cons_succ, List.set_cons_zero, exists_and_left, exists_eq_left', V.ref.injEq]
  refine ⟨C, dx, _, hr', T.cl, T.nE, _, fl_e _ _, hN _ _ ?_⟩
  clear hN
  refine seq_join (fun σ H' => H' = H ∧ ∃ (c : Nat) (o : Option V), (∀ i, c.testBit i = (decide (i < m) && ms.all fun x => x.testBit i)) ∧ σ = [some (V.ref r), some (V.ref sa), some (nV c), o]) (fun N hN => ?_) (fun σ H' h => ?_)
  · simp only [cx_K, tFor_eq, iList, tVar, List.getElem?_cons_succ, List.getElem?_cons_zero, Option.some.injEq, exists_eq_left', V.ref.injEq]
    refine ⟨⟨_, hs⟩, ?_⟩
    refine fw_list (xs := ms.map nV) (fun k σ H' => H' = H ∧ ∃ (c : Nat) (o : Option V), (∀ i, c.testBit i = (decide (i < m) && (ms.take k).all fun x => x.testBit i)) ∧ σ = [some (V.ref r), some (V.ref sa), some (nV c), o]) ⟨rfl, 2 ^ m - 1, _, fun i => by rw [Nat.testBit_two_pow_sub_one]; simp, rfl⟩ (fun i σ H' _ h => by rw [h.1]; exact hs) (fun k x σ H' hx h => ?_) (fun σ H' h => ?_)
    · obtain ⟨rfl, c, o, hc, rfl⟩ := h
      rw [List.getElem?_map] at hx
      cases hni : ms[k]? with
      | none => rw [hni] at hx; cases hx
      | some n =>
        rw [hni] at hx
        cases hx
        simp only [gName, tAug, List.set_cons_succ, List.set_cons_zero, List.getElem?_cons_succ, List.getElem?_cons_zero, Option.some.injEq, tVar, ipI, List.cons.injEq, V.int.injEq, and_true, true_and, exists_and_left, exists_eq_left']
        refine ⟨c &&& n, fun i => ?_, and_mask c n, _, rfl⟩
        obtain ⟨hk, e⟩ := List.getElem?_eq_some_iff.mp hni
        rw [Nat.testBit_and, hc, List.take_succ_eq_append_getElem hk, e, List.all_append, Bool.and_assoc]
        simp
    · obtain ⟨rfl, c, o, hc, rfl⟩ := h
      rw [List.length_map, List.take_of_length_le (Nat.le_refl _)] at hc
      exact hN _ _ ⟨rfl, c, o, hc, rfl⟩
  obtain ⟨rfl, c, o, hc, rfl⟩ := h
  simp only [tRet, tVar, List.getElem?_cons_succ, List.getElem?_cons_zero, Option.some.injEq, exists_eq_left']
  exact q c hc
end
end C
set_option Elab.async false
set_option linter.all false
set_option maxRecDepth 100000
set_option maxHeartbeats 8000000
namespace C
open PySem L2
seal PE PT PW PA PS PSs PG PGs PI PPs PO PSet PIf
theorem fl_no (e : Nat) (l : Addr) {x : Str} (h1 : (x == ("everywhere" : Str)) = false) (h2 : (x == ("clashing" : Str)) = false) : (flF e l).lookup x = none := by
  unfold flF
  rw [List.lookup_cons, h1, List.lookup_cons, h2]
  rfl
theorem fl_new (e : Nat) (l : Addr) : putF "clashing" (.ref l) (putF "everywhere" (nV e) []) = flF e l := by
  unfold flF
  rfl
theorem all_mask (m : Nat) : (1 : Int) * 2 ^ (m : Int).toNat - 1 = ((2 ^ m - 1 : Nat) : Int) := by
  rw [shl_one]
  have := Nat.two_pow_pos m
  omega
theorem rep_zero (m : Nat) : (List.replicate m [V.int 0]).flatten = (List.replicate m 0).map nV := by
  induction m with
  | zero => rfl
  | succ m ih =>
    rw [List.replicate_succ, List.flatten_cons, ih, List.replicate_succ, List.map_cons]
    rfl
theorem ixN_nat {n p : Nat} (h : p < n) : ixN n (p : Int) = some p := by
  unfold ixN
  rw [if_pos (by omega), if_pos (by omega), Int.toNat_natCast]
theorem samex_new {r l : Addr} {H H' : Hp} {o : HO} (e : SameX r H H') (h : H l = none) : SameX r H (upd H' l o) := fun b u hb n => by
  have : b ≠ l := fun z => by rw [z, h] at hb; cases hb
  rw [upd_ne this]
  exact e b u hb n
section
variable {P : Program} {w : World} {K : PySem.W.Frag} {mg : Str → Option Value} {base : Heap} {f : Addr} {fd : FuncData}
theorem ok_finit {C : Addr} (T : FlC K C) (F : Fun K "__init__" "Floor.__init__" s_Floor_init f fd) : FnOk P w K mg base CX0 1 f fd ["self", "many", "clashes"] (spFI C) := by
  refine F.ok sc_Floor_init (fun vs H Q E h => ?_) (fun cdv A outer s H vs Q E hr h => ?_)
  · obtain ⟨r, dx, ca, m, us, ps, rfl, _⟩ := h
    rfl
  obtain ⟨r, dx, ca, m, us, ps, rfl, hr', hcr, hca, hps, hok, hm, q⟩ := h
  have hul : us.length = ps.length := by have := DAts.length hps; rwa [List.length_map] at this
  refine ⟨_, (pss_cons (ps_fld (pv 0) (pe_op op_sub (pe_op op_shl pe_int (pv 1)) pe_int) rfl) (pss_cons (ps_fld (pv 0) (pe_op op_rep (pe_lst (pa_cons pe_int pa_nil)) (pv 1)) rfl) (pss_one (ps_for PassesOwn.never rfl (pi_list (pv 2)) (pg_tup rfl (pgs_cons (pg_name (i := 3) sc_Floor_init.nd rfl (Or.inl rfl)) (pgs_cons (pg_name (i := 4) sc_Floor_init.nd rfl (Or.inl rfl)) pgs_nil))) (pss_cons (ps_augS (pe_fld (pv 0) rfl) (pv 3) get_list (pe_op op_shl pe_int (pv 4)) ip_or set_list) (pss_one (ps_augS (pe_fld (pv 0) rfl) (pv 4) get_list (pe_op op_shl pe_int (pv 3)) ip_or set_list))))))), ?_⟩
  refine seq_abs fun N hN => ?_
  simp only [sFld, tOp, tC, tVar, L2.start, List.map_cons, List.map_nil, List.length_cons, List.length_nil, Nat.reduceAdd, Nat.reduceSub, List.replicate, List.cons_append, List.nil_append, List.getElem?_cons_succ, List.getElem?_cons_zero, Option.some.injEq, rI, V.int.injEq, rI0, cx_K, exists_and_left, exists_eq_left', V.ref.injEq]
  refine ⟨⟨by omega, by omega, by decide⟩, C, dx, [], hr', T.cl, T.nE, by decide, hN _ _ ?_⟩
  clear hN
  rw [all_mask]
  refine seq_abs fun N hN => ?_
  simp only [sFld, tOp, tLst, tCons, tC, tNil, List.length_cons, List.length_nil, Nat.reduceAdd, tVar, List.getElem?_cons_succ, List.getElem?_cons_zero, Option.some.injEq, rRep, V.ref.injEq, cx_K, exists_and_left, exists_eq_left', V.int.injEq]
  refine ⟨small (by simp), fun p0 hp0 => ⟨[V.int 0], upd_same, by omega, by omega, small (by simp; omega), fun l hl => ?_⟩⟩
  have hn0 : p0 ≠ r := fun z => by rw [z, upd_same] at hp0; cases hp0
  have hH0 : H p0 = none := by rw [upd_ne hn0] at hp0; exact hp0
  have hln : l ≠ p0 := fun z => by rw [z, upd_same] at hl; cases hl
  rw [upd_ne hln] at hl
  have hlr : l ≠ r := fun z => by rw [z, upd_same] at hl; cases hl
  rw [upd_ne hlr] at hl
  have kr : upd (upd (upd H r (.ins C dx (putF "everywhere" (nV (2 ^ m - 1)) []))) p0 (.lst [.int 0])) l (.lst ((List.replicate (m : Int).toNat [V.int 0]).flatten)) r = some (.ins C dx (putF "everywhere" (nV (2 ^ m - 1)) [])) := by
    rw [upd_ne (Ne.symm hlr), upd_ne (Ne.symm hn0), upd_same]
  refine ⟨C, dx, _, kr, T.cl, T.nC, by show 1 < 1000; decide, hN _ _ ?_⟩
  clear hN
  rw [fl_new]
  have x1 : SameX r H (upd (upd (upd (upd H r (.ins C dx (putF "everywhere" (nV (2 ^ m - 1)) []))) p0 (.lst [.int 0])) l (.lst ((List.replicate (m : Int).toNat [V.int 0]).flatten))) r (.ins C dx (flF (2 ^ m - 1) l))) := SameX.upd (samex_new (samex_new (SameX.upd (SameX.refl r H)) hH0) hl)
  have x2 : upd (upd (upd (upd H r (.ins C dx (putF "everywhere" (nV (2 ^ m - 1)) []))) p0 (.lst [.int 0])) l (.lst ((List.replicate (m : Int).toNat [V.int 0]).flatten))) r (.ins C dx (flF (2 ^ m - 1) l)) r = some (.ins C dx (flF (2 ^ m - 1) l)) := upd_same
  have x3 : upd (upd (upd (upd H r (.ins C dx (putF "everywhere" (nV (2 ^ m - 1)) []))) p0 (.lst [.int 0])) l (.lst ((List.replicate (m : Int).toNat [V.int 0]).flatten))) r (.ins C dx (flF (2 ^ m - 1) l)) l = some (.lst ((List.replicate m 0).map nV)) := by
    rw [upd_ne hlr, upd_same, Int.toNat_natCast, rep_zero]
  generalize upd (upd (upd (upd H r (.ins C dx (putF "everywhere" (nV (2 ^ m - 1)) []))) p0 (.lst [.int 0])) l (.lst ((List.replicate (m : Int).toNat [V.int 0]).flatten))) r (.ins C dx (flF (2 ^ m - 1) l)) = H1 at x1 x2 x3 ⊢
  clear kr hn0 hln hp0 hH0
  simp only [cx_K, tFor_eq, iList, tVar, List.getElem?_cons_succ, List.getElem?_cons_zero, Option.some.injEq, exists_eq_left', V.ref.injEq]
  refine ⟨⟨_, SqL.of (x1 _ _ hca hcr)⟩, ?_⟩
  refine fw_list (xs := us) (fun k σ H' => ∃ (o1 o2 : Option V) (cs : List Nat), SameX r H H' ∧ H' r = some (.ins C dx (flF (2 ^ m - 1) l)) ∧ H' l = some (.lst (cs.map nV)) ∧ Msk m (ps.take k) cs ∧ σ = [some (V.ref r), some (V.int m), some (V.ref ca), o1, o2]) ⟨_, _, _, x1, x2, x3, msk_nil m, rfl⟩ (fun k σ H' _ h => ?_) (fun k x σ H' hx h => ?_) (fun σ H' h => ?_)
  · obtain ⟨o1, o2, cs, h1, _⟩ := h
    exact SqL.of (h1 _ _ hca hcr)
  · obtain ⟨o1, o2, cs, h1, h2, h3, h4, rfl⟩ := h
    have hk : k < ps.length := by rw [← hul]; exact (List.getElem?_eq_some_iff.mp hx).1
    obtain ⟨v, hv1, hv2⟩ := DAts.get (d := dP2 ps[k]) hps (by rw [List.getElem?_map, List.getElem?_eq_getElem hk]; rfl)
    rw [hx] at hv1
    cases hv1
    have hab := hok _ (List.getElem_mem hk)
    obtain ⟨t, rfl, ht⟩ := p2At hv2
    have htr : t ≠ r := fun z => by rw [z, hr'] at ht; cases ht
    have ht' := h1 _ _ ht htr
    have e4 : ps.take (k + 1) = ps.take k ++ [(ps[k].1, ps[k].2)] := by rw [List.take_succ_eq_append_getElem hk]
    rw [e4]
    clear e4
    generalize ps[k].1 = a at ht' hab
    generalize ps[k].2 = b at ht' hab
    have la : a < cs.length := by rw [h4.len]; omega
    have lb : b < cs.length := by rw [h4.len]; omega
    have ga := List.getElem?_eq_getElem la
    have gb := List.getElem?_eq_getElem lb
    generalize cs[a] = ca' at ga
    generalize cs[b] = cb' at gb
    simp only [gTup, V.ref.injEq, gCons, gName, gNil, tSeq, tAugS, tFld, tVar, List.set_cons_succ, List.set_cons_zero, List.getElem?_cons_zero, Option.some.injEq, List.getElem?_cons_succ, rGetL, tOp, tC, rI, V.int.injEq, ipI, rSetL, List.cons.injEq, and_true, true_and, exists_and_left, exists_eq_left']
    refine ⟨[nV a, nV b], SqT.of ht', rfl, nV a, [nV b], rfl, nV b, [], rfl, rfl, ?_⟩
    have mset : ∀ (cs : List Nat) (i v : Nat), (cs.map nV).set i (V.int (v : Int)) = (cs.set i v).map nV := fun cs i v => (List.map_set (f := nV) (l := cs) (i := i) (a := v)).symm
    refine ⟨C, dx, _, h2, T.cl, T.nC, _, fl_c _ _, l, rfl, _, a, rfl, h3, nV ca', by rw [List.getElem?_map, ga]; rfl, _, rfl, ⟨by omega, by omega, by decide⟩, _, rfl, l, rfl, _, _, rfl, h3, a, ixN_nat (by rw [List.length_map]; exact la), ?_⟩
    rw [shl_one b, or_mask, mset]
    have gb' : (cs.set a (ca' ||| 2 ^ b))[b]? = some cb' := by rw [List.getElem?_set_ne (by omega)]; exact gb
    have lb' : b < (cs.set a (ca' ||| 2 ^ b)).length := by rw [List.length_set]; exact lb
    have j1 : upd H' l (.lst ((cs.set a (ca' ||| 2 ^ b)).map nV)) r = some (.ins C dx (flF (2 ^ m - 1) l)) := by rw [upd_ne (Ne.symm hlr)]; exact h2
    have j2 : upd H' l (.lst ((cs.set a (ca' ||| 2 ^ b)).map nV)) l = some (.lst ((cs.set a (ca' ||| 2 ^ b)).map nV)) := upd_same
    have j3 := samex_new (o := .lst ((cs.set a (ca' ||| 2 ^ b)).map nV)) h1 hl
    generalize upd H' l (.lst ((cs.set a (ca' ||| 2 ^ b)).map nV)) = H2 at j1 j2 j3 ⊢
    refine ⟨C, dx, _, j1, T.cl, T.nC, _, fl_c _ _, l, rfl, _, b, rfl, j2, nV cb', by rw [List.getElem?_map, gb']; rfl, _, rfl, ⟨by omega, by omega, by decide⟩, _, rfl, l, rfl, _, _, rfl, j2, b, ixN_nat (by rw [List.length_map]; exact lb'), ?_⟩
    rw [shl_one a, or_mask, mset]
    exact ⟨samex_new j3 hl, by rw [upd_ne (Ne.symm hlr)]; exact j1, _, _, _, upd_same, msk_put h4 (by omega) ga gb, rfl, rfl⟩
  · obtain ⟨o1, o2, cs, h1, h2, h3, h4, rfl⟩ := h
    rw [hul, List.take_of_length_le (Nat.le_refl _)] at h4
    exact q _ h1 ⟨dx, l, cs, h2, h3, h4⟩
theorem ok_counter_of {C : Addr} (T : FlC K C) (bi : Bi mg) (h_bits_of : Has P w K mg base 1 "bits_of" ["mask"] spBits) (h_Floor_common_of : HasM P w K mg base 1 C "common_of" ["self", "sets"] (spCo K C)) (F : Fun K "counter_of" "Floor.counter_of" s_Floor_counter_of f fd) : FnOk P w K mg base CX0 2 f fd ["self", "spots"] (spCn C) := by
  refine F.ok sc_Floor_counter_of (fun vs H Q E h => ?_) (fun cdv A outer s H vs Q E hr h => ?_)
  · obtain ⟨r, m, s', ps, xs, rfl, _⟩ := h
    rfl
  obtain ⟨r, m, s', ps, xs, rfl, hfl, hm90, hb, hxm, q⟩ := h
  have hfl' := hfl
  obtain ⟨dx, l, cs, hr', hl, hm⟩ := hfl'
  have hx100 : ∀ x ∈ xs, x < 100 := fun x hx => by have := hxm x hx; omega
  have hxl := bits_len hb hx100
  have cl_Floor := T.cl
  refine ⟨_, (pss_one (ps_ret (pe_methH h_Floor_common_of cl_Floor (hr.mono (by omega)) (pv 0) (pa_cons (pe_comp ["a"] ["self"] [0] (pi_list (pe_callH h_bits_of (hr.mono (by omega)) rfl (pa_cons (pv 1) pa_nil))) (fun _ _ _ _ nd => pg_name (i := 0) nd rfl (Or.inl rfl)) (fun _ _ _ _ => pif_nil) (fun _ _ _ _ => (pe_ix (ix_listK K) (pe_fldK K (pv 1) rfl) (pv 0) (fun _ _ => rfl)))) pa_nil)))), ?_⟩
  simp only [tRet, tMeth, tVar, L2.start, List.map_cons, List.map_nil, List.length_cons, List.length_nil, Nat.reduceAdd, Nat.reduceSub, List.replicate, List.append_nil, List.getElem?_cons_zero, Option.some.injEq, tCons, cx_K, tNil, tLC_eq, iList, tCall, List.getElem?_cons_succ, exists_eq_left', exists_and_left, V.ref.injEq]
  refine ⟨_, _, hr', fl_no _ _ (by decide +kernel) (by decide +kernel), ?_⟩
  refine ⟨s', xs, rfl, hb, hx100, fun p H1 s1 hp k1 => ⟨p, rfl, ⟨_, SqL.of k1⟩, ?_⟩⟩
  refine lc_list (xs := xs.map nV) (fun i ys σ H' => H' = H1 ∧ ys = ((xs.take i).map fun a => cs.getD a 0).map nV ∧ ∃ o, σ = [o, some (V.ref r)]) ⟨rfl, rfl, _, rfl⟩ (small (by rw [List.length_map]; omega)) (fun i ys σ H' e => ?_) (fun i ys σ H' e => by rw [e.1]; exact SqL.of k1) (fun i x ys σ H' C' hx e hC => ?_) (fun ys σ H' e p3 hp3 => ?_)
  · obtain ⟨_, rfl, _⟩ := e
    rw [List.length_map, List.length_map, List.length_take]
    omega
  · obtain ⟨rfl, rfl, o, rfl⟩ := e
    rw [List.getElem?_map] at hx
    cases hni : xs[i]? with
    | none => rw [hni] at hx; cases hx
    | some n =>
      rw [hni] at hx
      cases hx
      have hn := hxm n (List.mem_of_getElem? hni)
      have hnc : n < cs.length := by rw [hm.len]; exact hn
      simp only [gName, tOp, tFld, tVar, List.set_cons_zero, List.getElem?_cons_succ, List.getElem?_cons_zero, Option.some.injEq, rIxL, exists_and_left, exists_eq_left', V.int.injEq, V.ref.injEq]
      refine ⟨C, dx, _, s1 _ _ hr', T.cl, T.nC, _, fl_c _ _, l, rfl, _, SqL.of (s1 _ _ hl), nV (cs.getD n 0), ?_, hC _ _ _ ⟨rfl, ?_, _, rfl⟩⟩
      · refine atI_nat (j := n) ?_
        rw [List.getElem?_map, List.getD_eq_getElem?_getD, List.getElem?_eq_getElem hnc]
        rfl
      · obtain ⟨hi, e⟩ := List.getElem?_eq_some_iff.mp hni
        rw [List.take_succ_eq_append_getElem hi, e, List.map_append, List.map_append]
        rfl
  obtain ⟨rfl, rfl, o, rfl⟩ := e
  rw [List.length_map, List.take_of_length_le (Nat.le_refl _)]
  have s3 := same_new hp3 (.lst ((xs.map fun a => cs.getD a 0).map nV))
  refine ⟨r, p3, m, ps, xs.map fun a => cs.getD a 0, rfl, FlAt.same (s1.trans s3) hfl, SqL.of upd_same, by rw [List.length_map]; omega, fun c hc => q c _ (s1.trans s3) fun i => ?_⟩
  rw [hc, Bool.eq_iff_iff, decide_eq_true_eq, cnt_mem, Bool.and_eq_true, decide_eq_true_eq, List.all_map]
  refine and_congr_right fun _ => ?_
  rw [List.all_eq_true, List.all_eq_true]
  have hbit : ∀ x ∈ xs, (cs.getD x 0).testBit i = clOf ps x i := fun x hx => by
    have hnc : x < cs.length := by rw [hm.len]; exact hxm x hx
    rw [List.getD_eq_getElem?_getD, List.getElem?_eq_getElem hnc]
    exact hm.bit x _ (List.getElem?_eq_getElem hnc) i
  constructor
  · intro h x hx
    rw [← hbit x hx]
    exact h x hx
  · intro h x hx
    show (cs.getD x 0).testBit i = true
    rw [hbit x hx]
    exact h x hx
end
end C
set_option Elab.async false
set_option linter.all false
set_option maxRecDepth 100000
set_option maxHeartbeats 8000000
namespace C
open PySem L2
seal PE PT PW PA PS PSs PG PGs PI PPs PO PSet PIf
abbrev s_law_clashes : Stmt := top 22
theorem sc_law_clashes : FnScope ["spell", "many", "pairs", "a", "b"] ["spell", "many"] (defScope s_law_clashes) := ⟨rfl, rfl, rfl, by decide +kernel, rfl, by decide +kernel, by decide +kernel⟩
abbrev s_law_near : Stmt := top 23
theorem sc_law_near : FnScope ["many", "pairs", "near", "a", "b"] ["many", "pairs"] (defScope s_law_near) := ⟨rfl, rfl, rfl, by decide +kernel, rfl, by decide +kernel, by decide +kernel⟩
abbrev s_law_counter : Stmt := top 24
theorem sc_law_counter : FnScope ["near", "spots", "found", "spot"] ["near", "spots"] (defScope s_law_counter) := ⟨rfl, rfl, rfl, by decide +kernel, rfl, by decide +kernel, by decide +kernel⟩
abbrev s_law_some : Stmt := top 25
theorem sc_law_some : FnScope ["cell", "many", "spell", "found", "spot"] ["cell", "many"] (defScope s_law_some) := ⟨rfl, rfl, rfl, by decide +kernel, rfl, by decide +kernel, by decide +kernel⟩
theorem p2s_tups {H H' : Hp} (e : TupSame H H') : ∀ {ps : List (Nat × Nat)} {us : List V}, DAts H (ps.map dP2) us → DAts H' (ps.map dP2) us
  | [], us, h => h
  | p :: ps, us, h => by
    obtain ⟨v, r, e1, e2, e3⟩ := h
    obtain ⟨a, g1, g2⟩ := p2At e2
    exact ⟨v, r, e1, ⟨a, _, g1, e _ _ g2, _, _, rfl, rfl, _, _, rfl, rfl, rfl⟩, p2s_tups e e3⟩
theorem pair_put {H : Hp} {p t : Addr} {us : List V} {ps : List (Nat × Nat)} {a b : Nat} (k : H p = some (.lst us)) (h : DAts H (ps.map dP2) us) (ht : H t = some (.tup [nV a, nV b])) : DAts (upd H p (.lst (us ++ [.ref t]))) ((ps ++ [(a, b)]).map dP2) (us ++ [.ref t]) := by
  have tu : TupSame H (upd H p (.lst (us ++ [.ref t]))) := (TupSame.refl _).upd_lst k
  refine p2s_tups tu ?_
  rw [List.map_append]
  exact DAts.append h (DAts.one ⟨t, _, rfl, ht, _, _, rfl, rfl, _, _, rfl, rfl, rfl⟩)
theorem ok2_put {m a b : Nat} {ps : List (Nat × Nat)} (h : Ok2 m ps) (h1 : a < b) (h2 : b < m) : Ok2 m (ps ++ [(a, b)]) := fun p hp => by
  rcases List.mem_append.mp hp with hp | hp
  · exact h p hp
  · rw [List.mem_singleton.mp hp]; exact ⟨h1, h2⟩
def spCs : Sp := fun vs H Q _ => ∃ (z : Int) (m : Nat), vs = [.int z, .int m] ∧ m ≤ 40 ∧ ∀ p us ps H', Same H H' → H p = none → H' p = some (.lst us) → DAts H' (ps.map dP2) us → Ok2 m ps → ps.length ≤ m * 40 → Q (.ref p) H'
section
variable {P : Program} {w : World} {K : PySem.W.Frag} {mg : Str → Option Value} {base : Heap} {f : Addr} {fd : FuncData}
theorem ok_clashes (bi : Bi mg) (F : Fun K "_law_clashes" "_law_clashes" s_law_clashes f fd) : FnOk P w K mg base CX0 1 f fd ["spell", "many"] spCs := by
  refine F.ok sc_law_clashes (fun vs H Q E h => ?_) (fun cdv A outer s H vs Q E hr h => ?_)
  · obtain ⟨z, m, rfl, _⟩ := h
    rfl
  obtain ⟨z, m, rfl, hm, q⟩ := h
  refine ⟨_, (pss_cons (ps_set (i := 2) sc_law_clashes.nd rfl (Or.inl rfl) (pe_lst pa_nil)) (pss_cons (ps_for PassesOwn.never rfl (pi_range1 rfl bi.range (pa_cons (pv 1) pa_nil)) (pg_name (i := 3) sc_law_clashes.nd rfl (Or.inl rfl)) (pss_one (ps_for PassesOwn.never rfl (pi_range2 rfl bi.range (pa_cons (pe_op op_add (pv 3) pe_int) (pa_cons (pv 1) pa_nil))) (pg_name (i := 4) sc_law_clashes.nd rfl (Or.inl rfl)) (pss_cons (ps_if (pt_cmpR op_eq (pe_op op_mod (pv 0) pe_int) pe_int (nomark _)) (pss_one (ps_expr (pe_bm PySem.F.plainAttrs_list PySem.F.slot_list_append PySem.F.type_list_append mt_append (pv 2) (pa_cons (pe_tup (pa_cons (pv 3) (pa_cons (pv 4) pa_nil))) pa_nil)))) pss_nil) (pss_one (ps_set (i := 0) sc_law_clashes.nd rfl (Or.inl rfl) (pe_op op_fdiv (pv 0) pe_int))))))) (pss_one (ps_ret (pv 2))))), ?_⟩
  refine seq_abs fun N hN => ?_
  simp only [tAsg, tLst, tNil, List.length_nil, gName, L2.start, List.map_cons, List.map_nil, List.length_cons, Nat.reduceAdd, Nat.reduceSub, List.replicate, List.cons_append, List.nil_append, List.set_cons_succ, List.set_cons_zero]
  refine ⟨small (by simp), fun p hp => hN _ _ ?_⟩
  clear hN
  have s1 := same_new hp (.lst [])
  have k1 : upd H p (.lst []) p = some (.lst []) := upd_same
  generalize upd H p (.lst []) = H1 at s1 k1 ⊢
  refine seq_join (fun σ H' => ∃ (o1 o2 o3 : Option V) (us : List V) (ps : List (Nat × Nat)), Same H H' ∧ H' p = some (.lst us) ∧ DAts H' (ps.map dP2) us ∧ Ok2 m ps ∧ ps.length ≤ m * 40 ∧ σ = [o1, some (V.int m), some (V.ref p), o2, o3]) (fun N hN => ?_) (fun σ H' h => ?_)
  · simp only [cx_K, tFor_eq, iRng1, tCons, tVar, List.getElem?_cons_succ, List.getElem?_cons_zero, Option.some.injEq, tNil, List.cons.injEq, and_true, exists_eq_left', V.int.injEq]
    refine ⟨by omega, by omega, ?_⟩
    refine fw_range (n := (m : Int).toNat) (fun i σ H' => ∃ (o2 o3 : Option V) (z : Int) (us : List V) (ps : List (Nat × Nat)), Same H H' ∧ H' p = some (.lst us) ∧ DAts H' (ps.map dP2) us ∧ Ok2 m ps ∧ ps.length ≤ i * 40 ∧ σ = [some (V.int z), some (V.int m), some (V.ref p), o2, o3]) ⟨_, _, _, [], [], s1, k1, rfl, (fun p z => by cases z), by simp, rfl⟩ (fun i σ H' hi h => ?_) (fun σ H' h => ?_)
    · obtain ⟨o2, o3, z, us, ps, s2, k2, h2, hok, hpl, rfl⟩ := h
      have him : i < m := by omega
      simp only [gName, exists_and_left, List.set_cons_succ, List.set_cons_zero, tFor_eq, iRng2, tCons, tOp, tVar, List.getElem?_cons_succ, List.getElem?_cons_zero, Option.some.injEq, tC, rI0, V.int.injEq, tNil, List.cons.injEq, and_true, and_assoc, exists_eq_left']
      refine ⟨by omega, by omega, by omega, by omega, ?_⟩
      refine fw_range (fun j σ H' => ∃ (o : Option V) (z : Int) (us : List V) (ps : List (Nat × Nat)), Same H H' ∧ H' p = some (.lst us) ∧ DAts H' (ps.map dP2) us ∧ Ok2 m ps ∧ ps.length ≤ i * 40 + j ∧ σ = [some (V.int z), some (V.int m), some (V.ref p), some (V.int (0 + i)), o]) ⟨_, _, us, ps, s2, k2, h2, hok, by omega, rfl⟩ (fun j σ H' hj h => ?_) (fun σ H' h => ?_)
      · obtain ⟨o, z, us, ps, s3, k3, h3, hok, hpl, rfl⟩ := h
        have hjm : i + 1 + j < m := by omega
        have e1 : (0 : Int) + (i : Int) = ((i : Nat) : Int) := by omega
        have e2 : (0 : Int) + (i : Int) + 1 + (j : Int) = ((i + 1 + j : Nat) : Int) := by omega
        simp only [gName, tSeq, tIfS, tTest, tOp, tVar, List.set_cons_succ, List.set_cons_zero, List.getElem?_cons_zero, Option.some.injEq, tC, rI, V.int.injEq, rEq, V.bl.injEq, tDrop, tBM, List.getElem?_cons_succ, tCons, tTup, tNil, List.length_cons, List.length_nil, Nat.reduceAdd, rAppend, List.cons.injEq, and_true, tAsg, true_and, exists_and_left, exists_eq_left', V.ref.injEq, tNext, decide_eq_true_eq]
        refine ⟨by decide, rfl, ?_⟩
        split
        · refine ⟨.inl ⟨rfl, _, SqL.of k3⟩, small (by simp), fun t ht => ?_⟩
          rw [e2, e1] at *
          have s4 := same_new ht (.tup [nV i, nV (i + 1 + j)])
          have kt : upd H' t (.tup [nV i, nV (i + 1 + j)]) t = some (.tup [nV i, nV (i + 1 + j)]) := upd_same
          generalize upd H' t (.tup [nV i, nV (i + 1 + j)]) = H4 at s4 kt ⊢
          have hul : us.length = ps.length := by have := DAts.length h3; rwa [List.length_map] at this
          exact ⟨us, s4 _ _ k3, Nat.lt_of_le_of_lt (m := 100000) (by omega) (by decide), ⟨by decide, by decide⟩, (s3.trans s4).upd hp, _, _, _, upd_same, _, pair_put (s4 _ _ k3) (DAts.same s4 h3) kt, ok2_put hok (by omega) hjm, by simp; omega, rfl, rfl⟩
        · exact ⟨⟨by decide, by decide⟩, s3, _, _, us, k3, ps, h3, hok, by omega, rfl, rfl⟩
      · obtain ⟨o, z, us, ps, s3, k3, h3, hok, hpl, rfl⟩ := h
        exact ⟨s3, _, _, _, _, k3, _, h3, hok, by omega, rfl⟩
    · obtain ⟨o2, o3, z, us, ps, s2, k2, h2, hok, hpl, rfl⟩ := h
      exact hN _ _ ⟨_, _, _, us, ps, s2, k2, h2, hok, by omega, rfl⟩
  obtain ⟨o1, o2, o3, us, ps, s2, k2, h2, hok, hpl, rfl⟩ := h
  simp only [tRet, tVar, List.getElem?_cons_succ, List.getElem?_cons_zero, Option.some.injEq, exists_eq_left']
  exact q p us ps _ s2 hp k2 h2 hok hpl
end
end C
set_option Elab.async false
set_option linter.all false
set_option maxRecDepth 100000
set_option maxHeartbeats 8000000
namespace C
open PySem L2
seal PE PT PW PA PS PSs PG PGs PI PPs PO PSet PIf
def rowB (m : Nat) (ps : List (Nat × Nat)) (a : Nat) : List V := (List.range m).map fun b => V.bl (clOf ps a b)
def NrAt (H : Hp) (p : Addr) (m : Nat) (ps : List (Nat × Nat)) : Prop := ∃ rs : List Addr, H p = some (.lst (rs.map V.ref)) ∧ rs.length = m ∧ ∀ (a : Nat) (r : Addr), rs[a]? = some r → H r = some (.lst (rowB m ps a))
theorem NrAt.same {H H' : Hp} {p : Addr} {m : Nat} {ps : List (Nat × Nat)} (e : Same H H') (h : NrAt H p m ps) : NrAt H' p m ps := by
  obtain ⟨rs, h1, h2, h3⟩ := h
  exact ⟨rs, e _ _ h1, h2, fun a r hr => e _ _ (h3 a r hr)⟩
theorem row_set {m b : Nat} (f : Nat → Bool) (hb : b < m) : ((List.range m).map fun j => V.bl (f j)).set b (V.bl true) = (List.range m).map fun j => V.bl (f j || (b == j)) := by
  apply List.ext_getElem?
  intro i
  by_cases hi : b = i
  · subst hi
    rw [List.getElem?_set_self (by rw [List.length_map, List.length_range]; exact hb), List.getElem?_map, List.getElem?_range hb]
    simp
  · rw [List.getElem?_set_ne hi, List.getElem?_map, List.getElem?_map]
    cases h : (List.range m)[i]? with
    | none => rfl
    | some j =>
      have : j = i := by
        have := List.getElem?_eq_some_iff.mp h
        obtain ⟨h1, h2⟩ := this
        rw [List.getElem_range] at h2
        exact h2.symm
      subst this
      have : (b == j) = false := beq_eq_false_iff_ne.mpr hi
      simp [this]
theorem rowB_put {m a b x : Nat} {ps : List (Nat × Nat)} (hab : a ≠ b) : rowB m (ps ++ [(a, b)]) x = (List.range m).map fun j => V.bl (if x = a then clOf ps a j || (b == j) else if x = b then clOf ps b j || (a == j) else clOf ps x j) := by
  unfold rowB
  refine List.map_congr_left fun j _ => ?_
  rw [clOf_snoc]
  congr 1
  by_cases h1 : x = a
  · subst h1
    rw [if_pos rfl]
    have : (b == x) = false := beq_eq_false_iff_ne.mpr (Ne.symm hab)
    simp [this]
  · rw [if_neg h1]
    have t1 : (a == x) = false := beq_eq_false_iff_ne.mpr (Ne.symm h1)
    by_cases h2 : x = b
    · subst h2
      rw [if_pos rfl]
      simp [t1]
    · rw [if_neg h2]
      have t2 : (b == x) = false := beq_eq_false_iff_ne.mpr (Ne.symm h2)
      simp [t1, t2]
theorem rowB_a {m a b : Nat} {ps : List (Nat × Nat)} (hab : a ≠ b) : rowB m (ps ++ [(a, b)]) a = (List.range m).map fun j => V.bl (clOf ps a j || (b == j)) := by
  rw [rowB_put hab]
  simp only [if_true]
theorem rowB_b {m a b : Nat} {ps : List (Nat × Nat)} (hab : a ≠ b) : rowB m (ps ++ [(a, b)]) b = (List.range m).map fun j => V.bl (clOf ps b j || (a == j)) := by
  rw [rowB_put hab]
  simp only [if_neg (Ne.symm hab), if_true]
theorem rowB_o {m a b x : Nat} {ps : List (Nat × Nat)} (hab : a ≠ b) (h1 : x ≠ a) (h2 : x ≠ b) : rowB m (ps ++ [(a, b)]) x = rowB m ps x := by
  rw [rowB_put hab]
  simp only [if_neg h1, if_neg h2]
  rfl
theorem rep_false (m : Nat) (a : Nat) : (List.replicate m [V.bl false]).flatten = rowB m [] a := by
  unfold rowB clOf
  induction m with
  | zero => rfl
  | succ m ih =>
    rw [List.range_succ, List.map_append, ← ih, List.replicate_succ', List.flatten_append]
    rfl
def spNr : Sp := fun vs H Q _ => ∃ (m : Nat) (pa : Addr) (us : List V) (ps : List (Nat × Nat)), vs = [.int m, .ref pa] ∧ m ≤ 90 ∧ H pa = some (.lst us) ∧ DAts H (ps.map dP2) us ∧ Ok2 m ps ∧ ∀ p H', Same H H' → NrAt H' p m ps → Q (.ref p) H'
def spLc (K : PySem.W.Frag) : Sp := fun vs H Q _ => ∃ (na sa : Addr) (m : Nat) (ps : List (Nat × Nat)) (sp : List Nat), vs = [.ref na, .ref sa] ∧ m ≤ 90 ∧ NrAt H na m ps ∧ SqL K H sa (sp.map nV) ∧ (∀ x ∈ sp, x < m) ∧ sp.length ≤ 1000 ∧ ∀ p H', Same H H' → H p = none → H' p = some (.lst ((cnt m ps sp).map nV)) → Q (.ref p) H'
section
variable {P : Program} {w : World} {K : PySem.W.Frag} {mg : Str → Option Value} {base : Heap} {f : Addr} {fd : FuncData}
theorem ok_near (bi : Bi mg) (F : Fun K "_law_near" "_law_near" s_law_near f fd) : FnOk P w K mg base CX0 1 f fd ["many", "pairs"] spNr := by
  refine F.ok sc_law_near (fun vs H Q E h => ?_) (fun cdv A outer s H vs Q E hr h => ?_)
  · obtain ⟨m, pa, us, ps, rfl, _⟩ := h
    rfl
  obtain ⟨m, pa, us, ps, rfl, hm, hpa, hps, hok, q⟩ := h
  have hul : us.length = ps.length := by have := DAts.length hps; rwa [List.length_map] at this
  refine ⟨_, (pss_cons (ps_comp (i := 2) ["a"] ["many"] [0] sc_law_near.nd rfl (pi_range1 rfl bi.range (pa_cons (pv 0) pa_nil)) (fun _ _ _ _ nd => pg_name (i := 0) nd rfl (Or.inl rfl)) (fun _ _ _ _ => pif_nil) (fun _ _ _ _ => (pe_op op_rep (pe_lst (pa_cons pe_bl pa_nil)) (pv 1)))) (pss_cons (ps_for PassesOwn.never rfl (pi_list (pv 1)) (pg_tup rfl (pgs_cons (pg_name (i := 3) sc_law_near.nd rfl (Or.inl rfl)) (pgs_cons (pg_name (i := 4) sc_law_near.nd rfl (Or.inl rfl)) pgs_nil))) (pss_cons (ps_asg pe_bl (pg_sub (pe_ix ix_list (pv 2) (pv 3) (fun _ _ => rfl)) (pv 4) set_list)) (pss_one (ps_asg pe_bl (pg_sub (pe_ix ix_list (pv 2) (pv 4) (fun _ _ => rfl)) (pv 3) set_list))))) (pss_one (ps_ret (pv 2))))), ?_⟩
  refine seq_abs fun N hN => ?_
  simp only [tAsg, L2.start, List.map_cons, List.map_nil, List.length_cons, List.length_nil, Nat.reduceAdd, Nat.reduceSub, List.replicate, List.cons_append, List.nil_append, gName, List.set_cons_succ, List.set_cons_zero, tLC_eq, iRng1, tCons, tVar, List.getElem?_cons_zero, Option.some.injEq, tNil, List.cons.injEq, and_true, exists_eq_left', V.int.injEq]
  refine ⟨by omega, by omega, ?_⟩
  refine lc_range (lo := 0) (n := (m : Int).toNat) (fun i ys σ H' => Same H H' ∧ (∃ rs : List Addr, ys = rs.map V.ref ∧ rs.length = i ∧ rs.Nodup ∧ (∀ r ∈ rs, H r = none) ∧ ∀ r ∈ rs, H' r = some (.lst (rowB m [] 0))) ∧ ∃ o, σ = [o, some (V.int m)]) ⟨Same.refl _, ⟨[], rfl, rfl, List.nodup_nil, (fun r z => by cases z), fun r z => by cases z⟩, _, rfl⟩ (small (by omega)) (fun i ys σ H' e => ?_) (fun i ys σ H' C hi e hC => ?_) (fun ys σ H' e p hp => hN _ _ ?_)
  · obtain ⟨_, ⟨rs, rfl, hl, _⟩, _⟩ := e
    rw [List.length_map]
    omega
  · obtain ⟨es, ⟨rs, rfl, hl, hnd, hfr, hrw⟩, o, rfl⟩ := e
    simp only [gName, tOp, tLst, tCons, tC, tNil, List.length_cons, List.length_nil, Nat.reduceAdd, tVar, List.set_cons_zero, List.getElem?_cons_succ, List.getElem?_cons_zero, Option.some.injEq, rRep, V.ref.injEq, exists_and_left, exists_eq_left', V.int.injEq]
    refine ⟨small (by simp), fun p0 hp0 => ⟨[V.bl false], upd_same, by omega, by omega, small (by simp; omega), fun r hr' => hC _ _ _ ?_⟩⟩
    have s1 := same_new hp0 (.lst [V.bl false])
    have s2 := same_new hr' (.lst ((List.replicate (m : Int).toNat [V.bl false]).flatten))
    have kr : upd (upd H' p0 (.lst [V.bl false])) r (.lst ((List.replicate (m : Int).toNat [V.bl false]).flatten)) r = some (.lst (rowB m [] 0)) := by rw [upd_same, Int.toNat_natCast, rep_false m 0]
    have hrn : r ∉ rs := fun z => by
      have := s1 _ _ (hrw r z)
      rw [hr'] at this
      cases this
    generalize upd (upd H' p0 (.lst [V.bl false])) r (.lst ((List.replicate (m : Int).toNat [V.bl false]).flatten)) = H2 at s2 kr ⊢
    have ss := s1.trans s2
    refine ⟨es.trans ss, ⟨rs ++ [r], by rw [List.map_append]; rfl, by simp [hl], List.nodup_append.mpr ⟨hnd, by simp, fun x hx y hy e => hrn (by rw [List.mem_singleton.mp hy] at e; rw [← e]; exact hx)⟩, fun x hx => ?_, fun x hx => ?_⟩, _, rfl⟩
    · rcases List.mem_append.mp hx with hx | hx
      · exact hfr x hx
      · rw [List.mem_singleton.mp hx]
        exact (es.trans s1).free hr'
    · rcases List.mem_append.mp hx with hx | hx
      · exact ss _ _ (hrw x hx)
      · rw [List.mem_singleton.mp hx]
        exact kr
  obtain ⟨es, ⟨rs, rfl, hl, hnd, hfr, hrw⟩, o, rfl⟩ := e
  clear hN
  have s1 := same_new hp (.lst (rs.map V.ref))
  have k1 : upd H' p (.lst (rs.map V.ref)) p = some (.lst (rs.map V.ref)) := upd_same
  have hpr : p ∉ rs := fun z => by
    have := hrw p z
    rw [hp] at this
    cases this
  generalize upd H' p (.lst (rs.map V.ref)) = H1 at s1 k1 ⊢
  have s2 := es.trans s1
  have hrl : rs.length = m := by omega
  have hr0 : ∀ (a : Nat) (r : Addr), rs[a]? = some r → H1 r = some (.lst (rowB m [] a)) := fun a r hr' => by
    have := s1 _ _ (hrw r (List.mem_of_getElem? hr'))
    exact this
  clear hrw hl s1
  refine seq_join (fun σ H' => ∃ (o1 o2 : Option V), Same H H' ∧ H' p = some (.lst (rs.map V.ref)) ∧ (∀ (a : Nat) (r : Addr), rs[a]? = some r → H' r = some (.lst (rowB m ps a))) ∧ σ = [some (V.int m), some (V.ref pa), some (V.ref p), o1, o2]) (fun N hN => ?_) (fun σ H' h => ?_)
  · simp only [cx_K, tFor_eq, iList, tVar, List.getElem?_cons_succ, List.getElem?_cons_zero, Option.some.injEq, exists_eq_left', V.ref.injEq]
    refine ⟨⟨_, SqL.of (s2 _ _ hpa)⟩, ?_⟩
    refine fw_list (xs := us) (fun k σ H' => ∃ (o1 o2 : Option V), Same H H' ∧ H' p = some (.lst (rs.map V.ref)) ∧ (∀ (a : Nat) (r : Addr), rs[a]? = some r → H' r = some (.lst (rowB m (ps.take k) a))) ∧ σ = [some (V.int m), some (V.ref pa), some (V.ref p), o1, o2]) ⟨_, _, s2, k1, hr0, rfl⟩ (fun k σ H' _ h => ?_) (fun k x σ H' hx h => ?_) (fun σ H' h => ?_)
    · obtain ⟨o1, o2, h1, _⟩ := h
      exact SqL.of (h1 _ _ hpa)
    · obtain ⟨o1, o2, h1, h2, h3, rfl⟩ := h
      have hk : k < ps.length := by rw [← hul]; exact (List.getElem?_eq_some_iff.mp hx).1
      obtain ⟨v, hv1, hv2⟩ := DAts.get (d := dP2 ps[k]) hps (by rw [List.getElem?_map, List.getElem?_eq_getElem hk]; rfl)
      rw [hx] at hv1
      cases hv1
      have hab := hok _ (List.getElem_mem hk)
      obtain ⟨t, rfl, ht⟩ := p2At hv2
      have ht' := h1 _ _ ht
      have e4 : ps.take (k + 1) = ps.take k ++ [(ps[k].1, ps[k].2)] := by rw [List.take_succ_eq_append_getElem hk]
      rw [e4]
      clear e4
      generalize ps[k].1 = a at ht' hab
      generalize ps[k].2 = b at ht' hab
      generalize ps.take k = qs at h3 ⊢
      have la : a < rs.length := by omega
      have lb : b < rs.length := by omega
      have ga := List.getElem?_eq_getElem la
      have gb := List.getElem?_eq_getElem lb
      have hne : rs[a] ≠ rs[b] := fun z => by
        have := (List.getElem_inj hnd).mp z
        omega
      have ra := h3 a _ ga
      have rb := h3 b _ gb
      have fa := hfr _ (List.getElem_mem la)
      have fb := hfr _ (List.getElem_mem lb)
      have npa : p ≠ rs[a] := fun z => hpr (by rw [z]; exact List.getElem_mem la)
      have npb : p ≠ rs[b] := fun z => hpr (by rw [z]; exact List.getElem_mem lb)
      simp only [gTup, V.ref.injEq, gCons, gName, gNil, tSeq, tAsg, tC, gSub, tOp, tVar, List.set_cons_succ, List.set_cons_zero, List.getElem?_cons_succ, List.getElem?_cons_zero, Option.some.injEq, rIxL, rSetL, List.cons.injEq, and_true, true_and, exists_and_left, exists_eq_left']
      refine ⟨[nV a, nV b], SqT.of ht', rfl, nV a, [nV b], rfl, nV b, [], rfl, rfl, ?_⟩
      have rl : ∀ x, (rowB m qs x).length = m := fun x => by unfold rowB; rw [List.length_map, List.length_range]
      refine ⟨_, _, rfl, SqL.of h2, _, atI_nat (j := a) (by rw [List.getElem?_map, ga]; rfl), rs[a], rfl, _, _, rfl, ra, b, ixN_nat (by rw [rl]; omega), _, _, rfl, SqL.of (by rw [upd_ne npa]; exact h2), _, atI_nat (j := b) (by rw [List.getElem?_map, gb]; rfl), rs[b], rfl, _, _, rfl, by rw [upd_ne (Ne.symm hne)]; exact rb, a, ixN_nat (by rw [rl]; omega), (h1.upd fa).upd fb, by rw [upd_ne npb, upd_ne npa]; exact h2, fun x r hr' => ?_, _, rfl⟩
      have hab' : a ≠ b := by omega
      have ux : r = rs[x]'(List.getElem?_eq_some_iff.mp hr').1 := (List.getElem?_eq_some_iff.mp hr').2.symm
      have lx := (List.getElem?_eq_some_iff.mp hr').1
      by_cases e1 : x = b
      · subst e1
        rw [ux, upd_same, rowB_b hab']
        unfold rowB
        rw [row_set (fun j => clOf qs x j) (by omega)]
      · have n1 : r ≠ rs[b] := fun z => by
          rw [ux] at z
          exact e1 ((List.getElem_inj hnd).mp z)
        rw [upd_ne n1]
        by_cases e2 : x = a
        · subst e2
          rw [ux, upd_same, rowB_a hab']
          unfold rowB
          rw [row_set (fun j => clOf qs x j) (by omega)]
        · have n2 : r ≠ rs[a] := fun z => by
            rw [ux] at z
            exact e2 ((List.getElem_inj hnd).mp z)
          rw [upd_ne n2, rowB_o hab' e2 e1]
          exact h3 x r hr'
    · obtain ⟨o1, o2, h1, h2, h3, rfl⟩ := h
      rw [hul, List.take_of_length_le (Nat.le_refl _)] at h3
      exact hN _ _ ⟨_, _, h1, h2, h3, rfl⟩
  obtain ⟨o1, o2, h1, h2, h3, rfl⟩ := h
  simp only [tRet, tVar, List.getElem?_cons_succ, List.getElem?_cons_zero, Option.some.injEq, exists_eq_left']
  exact q p _ h1 ⟨rs, h2, hrl, h3⟩
theorem ok_lcounter (bi : Bi mg) (F : Fun K "_law_counter" "_law_counter" s_law_counter f fd) : FnOk P w K mg base CX0 1 f fd ["near", "spots"] (spLc K) := by
  refine F.ok sc_law_counter (fun vs H Q E h => ?_) (fun cdv A outer s H vs Q E hr h => ?_)
  · obtain ⟨na, sa, m, ps, sp, rfl, _⟩ := h
    rfl
  obtain ⟨na, sa, m, ps, sp, rfl, hm, hnr, hs, hsm, hsl, q⟩ := h
  obtain ⟨rs, hn, hrl, hrw⟩ := hnr
  refine ⟨_, (pss_cons (ps_set (i := 2) sc_law_counter.nd rfl (Or.inl rfl) (pe_lst pa_nil)) (pss_cons (ps_for PassesOwn.never rfl (pi_range1 rfl bi.range (pa_cons (pe_callB call_len rfl bi.len bt_len (pa_cons (pv 0) pa_nil)) pa_nil)) (pg_name (i := 3) sc_law_counter.nd rfl (Or.inr rfl)) (pss_one (ps_if (pt_val (pe_callB call_all rfl bi.all bt_all (pa_cons (pe_comp ["other"] ["near", "spot"] [0, 3] (pi_list (pv 1)) (fun _ _ _ _ nd => pg_name (i := 0) nd rfl (Or.inl rfl)) (fun _ _ _ _ => pif_nil) (fun _ _ _ _ => (pe_ix (ix_listK K) (pe_ix (ix_listK K) (pv 1) (pv 2) (fun _ _ => rfl)) (pv 0) (fun _ _ => rfl)))) pa_nil))) (pss_one (ps_expr (pe_bm PySem.F.plainAttrs_list PySem.F.slot_list_append PySem.F.type_list_append mt_append (pv 2) (pa_cons (pv 3) pa_nil)))) pss_nil))) (pss_one (ps_ret (pv 2))))), ?_⟩
  refine seq_abs fun N hN => ?_
  simp only [tAsg, tLst, tNil, List.length_nil, gName, L2.start, List.map_cons, List.map_nil, List.length_cons, Nat.reduceAdd, Nat.reduceSub, List.replicate, List.cons_append, List.nil_append, List.set_cons_succ, List.set_cons_zero]
  refine ⟨small (by simp), fun p hp => hN _ _ ?_⟩
  clear hN
  have s1 := same_new hp (.lst [])
  have k1 : upd H p (.lst []) p = some (.lst []) := upd_same
  generalize upd H p (.lst []) = H1 at s1 k1 ⊢
  refine seq_join (fun σ H' => ∃ (o : Option V), Same H H' ∧ H' p = some (.lst ((cnt m ps sp).map nV)) ∧ σ = [some (V.ref na), some (V.ref sa), some (V.ref p), o]) (fun N hN => ?_) (fun σ H' h => ?_)
  · simp only [cx_K, exists_and_left, cx_calm, true_and, tFor_eq, iRng1, tCons, tCB, tVar, List.getElem?_cons_zero, Option.some.injEq, tNil, List.cons.injEq, and_true, V.int.injEq, exists_eq_left']
    refine ⟨_, .inl ⟨_, SqL.of (s1 _ _ hn), rfl⟩, by rw [List.length_map]; omega, by rw [List.length_map]; omega, ?_⟩
    rw [List.length_map, hrl]
    refine fw_range (n := (m : Int).toNat) (fun i σ H' => ∃ (o : Option V), Same H H' ∧ H' p = some (.lst (((List.range i).filter fun i => sp.all fun a => clOf ps a i).map nV)) ∧ σ = [some (V.ref na), some (V.ref sa), some (V.ref p), o]) ⟨_, s1, k1, rfl⟩ (fun i σ H' hi h => ?_) (fun σ H' h => ?_)
    · obtain ⟨o, s2, k2, rfl⟩ := h
      have him : i < m := by omega
      have hir : i < rs.length := by omega
      have e0 : (0 : Int) + (i : Int) = ((i : Nat) : Int) := by omega
      simp only [gName, tIfS, tB, tCB, tCons, List.set_cons_succ, List.set_cons_zero, tNil, List.cons.injEq, and_true, V.bl.injEq, tDrop, tBM, tVar, List.getElem?_cons_succ, List.getElem?_cons_zero, Option.some.injEq, rAppend, true_and, exists_and_left, exists_eq_left', V.ref.injEq, tNext, tLC_eq, iList]
      rw [e0]
      refine ⟨⟨_, Same.seq s2 hs⟩, ?_⟩
      refine lc_list (xs := sp.map nV) (fun k ys σ H'' => H'' = H' ∧ ys = ((sp.take k).map fun a => clOf ps i a).map V.bl ∧ ∃ o, σ = [o, some (V.ref na), some (V.int i)]) ⟨rfl, rfl, _, rfl⟩ (small (by rw [List.length_map]; omega)) (fun k ys σ H'' e => ?_) (fun k ys σ H'' e => by rw [e.1]; exact Same.seq s2 hs) (fun k x ys σ H'' C hx e hC => ?_) (fun ys σ H'' e p3 hp3 => ?_)
      · obtain ⟨_, rfl, _⟩ := e
        rw [List.length_map, List.length_map, List.length_take]
        omega
      · obtain ⟨rfl, rfl, o, rfl⟩ := e
        rw [List.getElem?_map] at hx
        cases hni : sp[k]? with
        | none => rw [hni] at hx; cases hx
        | some n =>
          rw [hni] at hx
          cases hx
          have hn' := hsm n (List.mem_of_getElem? hni)
          have gr := hrw i _ (List.getElem?_eq_getElem hir)
          simp only [gName, tOp, tVar, List.set_cons_zero, List.getElem?_cons_succ, List.getElem?_cons_zero, Option.some.injEq, rIxL, exists_and_left, exists_eq_left', V.int.injEq, V.ref.injEq]
          refine ⟨_, SqL.of (s2 _ _ hn), _, atI_nat (j := i) (by rw [List.getElem?_map, List.getElem?_eq_getElem hir]; rfl), rs[i], rfl, _, SqL.of (s2 _ _ gr), V.bl (clOf ps i n), atI_nat (j := n) ?_, hC _ _ _ ⟨rfl, ?_, _, rfl⟩⟩
          · unfold rowB
            rw [List.getElem?_map, List.getElem?_range hn']
            rfl
          · obtain ⟨hi, e⟩ := List.getElem?_eq_some_iff.mp hni
            rw [List.take_succ_eq_append_getElem hi, e, List.map_append, List.map_append]
            rfl
      obtain ⟨rfl, rfl, oo, rfl⟩ := e
      rw [List.length_map, List.take_of_length_le (Nat.le_refl _)]
      have s3 := same_new hp3 (.lst ((sp.map fun a => clOf ps i a).map V.bl))
      refine ⟨p3, rfl, _, SqL.of upd_same, ?_⟩
      have ea : ((sp.map fun a => clOf ps i a).all id) = (sp.all fun a => clOf ps a i) := by
        rw [List.all_map]
        congr 1
        funext a
        exact clOf_comm ps i a
      rw [ea]
      have hfl : ∀ b : Bool, (sp.all fun a => clOf ps a i) = b → (List.range (i + 1)).filter (fun i => sp.all fun a => clOf ps a i) = (List.range i).filter (fun i => sp.all fun a => clOf ps a i) ++ (if b = true then [i] else []) := fun b hb => by
        rw [List.range_succ, List.filter_append, List.filter_cons, List.filter_nil, hb]
      have hflen : ((List.range i).filter (fun i => sp.all fun a => clOf ps a i)).length ≤ i := by
        have := List.length_filter_le (fun i => sp.all fun a => clOf ps a i) (List.range i)
        rwa [List.length_range] at this
      cases hb : (sp.all fun a => clOf ps a i) with
      | false =>
        rw [if_neg Bool.false_ne_true]
        refine ⟨s2.trans s3, ?_, _, rfl⟩
        rw [hfl false hb, if_neg Bool.false_ne_true, List.append_nil]
        exact s3 _ _ k2
      | true =>
        rw [if_pos rfl]
        refine ⟨.inl ⟨rfl, _, SqL.of (s3 _ _ k2)⟩, _, s3 _ _ k2, small1000 (by rw [List.length_map]; omega), (s2.trans s3).upd hp, ?_, _, rfl⟩
        rw [upd_same, hfl true hb, if_pos rfl, List.map_append]
        rfl
    · obtain ⟨o, s2, k2, rfl⟩ := h
      rw [Int.toNat_natCast] at k2
      exact hN _ _ ⟨_, s2, k2, rfl⟩
  obtain ⟨o, s2, k2, rfl⟩ := h
  simp only [tRet, tVar, List.getElem?_cons_succ, List.getElem?_cons_zero, Option.some.injEq, exists_eq_left']
  exact q p _ s2 hp k2
end
end C
set_option Elab.async false
set_option linter.all false
set_option maxRecDepth 100000
set_option maxHeartbeats 8000000
namespace C
open PySem L2
seal PE PT PW PA PS PSs PG PGs PI PPs PO PSet PIf
theorem p1025 : (0 : Int) < 10 ^ Int.toNat 25 := by show (0 : Int) < 10 ^ 25; simp
def spSm : Sp := fun vs H Q _ => ∃ (z : Int) (m : Nat), vs = [.int z, .int m] ∧ 1 ≤ m ∧ m ≤ 90 ∧ ∀ (p : Addr) (sp : List Nat) (H' : Hp), Same H H' → H' p = some (.lst (sp.map nV)) → (∀ x ∈ sp, x < m) → sp.length ≤ 100 → Q (.ref p) H'
theorem nat_mod {z : Int} {m : Nat} (h : 1 ≤ m) : ∃ n : Nat, z % (m : Int) = n ∧ n < m := by
  have h1 := Int.emod_nonneg z (b := (m : Int)) (by omega)
  have h2 := Int.emod_lt_of_pos z (b := (m : Int)) (by omega)
  exact ⟨(z % (m : Int)).toNat, by omega, by omega⟩
theorem nats_of {zs : List Int} {m : Nat} (h : ∀ z ∈ zs, 0 ≤ z ∧ z < (m : Int)) : ∃ sp : List Nat, zs.map V.int = sp.map nV ∧ sp.length = zs.length ∧ ∀ x ∈ sp, x < m := by
  refine ⟨zs.map Int.toNat, ?_, List.length_map .., fun x hx => ?_⟩
  · rw [List.map_map]
    refine List.map_congr_left fun z hz => ?_
    have := h z hz
    show V.int z = V.int (z.toNat : Int)
    congr 1
    omega
  · obtain ⟨z, hz, rfl⟩ := List.mem_map.mp hx
    have := h z hz
    omega
theorem nodup_subI : ∀ {l m : List Int}, l.Nodup → (∀ x ∈ l, x ∈ m) → l.length ≤ m.length
  | [], m, _, _ => Nat.zero_le _
  | x :: l, m, hn, hs => by
    have hx : x ∈ m := hs x List.mem_cons_self
    have hn' := List.nodup_cons.mp hn
    have := nodup_subI (l := l) (m := m.erase x) hn'.2 fun y hy => by
      have hy' := hs y (List.mem_cons_of_mem _ hy)
      have hne : y ≠ x := fun e => hn'.1 (by rw [← e]; exact hy)
      exact (List.mem_erase_of_ne hne).mpr hy'
    rw [List.length_erase_of_mem hx] at this
    have := List.length_pos_of_mem hx
    rw [List.length_cons]
    omega
theorem natsAt (H : Hp) : ∀ zs : List Nat, DAts H (zs.map fun n : Nat => Dt.int n) (zs.map nV)
  | [] => rfl
  | z :: zs => ⟨_, _, rfl, rfl, natsAt H zs⟩
section
variable {P : Program} {w : World} {K : PySem.W.Frag} {mg : Str → Option Value} {base : Heap} {f : Addr} {fd : FuncData}
theorem ok_some (bi : Bi mg) (F : Fun K "_law_some" "_law_some" s_law_some f fd) : FnOk P w K mg base CX0 1 f fd ["cell", "many"] spSm := by
  refine F.ok sc_law_some (fun vs H Q E h => ?_) (fun cdv A outer s H vs Q E hr h => ?_)
  · obtain ⟨z, m, rfl, _⟩ := h
    rfl
  obtain ⟨z, m, rfl, h1, hm, q⟩ := h
  obtain ⟨x, ex, hx⟩ := nat_mod (z := z / 3) h1
  obtain ⟨y, ey, hy⟩ := nat_mod (z := z / 3 / m) h1
  have hmp : (0 : Int) < m := by omega
  refine ⟨_, (pss_cons (ps_if (pt_cmpR op_eq (pe_op op_mod (pv 0) pe_int) pe_int (nomark _)) (pss_one (ps_ret (pe_lst (pa_cons (pe_op op_mod (pe_op op_fdiv (pv 0) pe_int) (pv 1)) pa_nil)))) pss_nil) (pss_cons (ps_if (pt_cmpR op_eq (pe_op op_mod (pv 0) pe_int) pe_int (nomark _)) (pss_one (ps_ret (pe_callB call_sortedN rfl bi.sorted bt_sorted (pa_cons (pe_callTy call_setI rfl bi.set bt_set (pa_cons (pe_lst (pa_cons (pe_op op_mod (pe_op op_fdiv (pv 0) pe_int) (pv 1)) (pa_cons (pe_op op_mod (pe_op op_fdiv (pe_op op_fdiv (pv 0) pe_int) (pv 1)) (pv 1)) pa_nil))) pa_nil)) pa_nil)))) pss_nil) (pss_cons (ps_set (i := 2) sc_law_some.nd rfl (Or.inl rfl) (pe_op op_mod (pe_op op_mul (pe_op op_fdiv (pv 0) pe_int) pe_int) (pe_op op_pow pe_int pe_int))) (pss_cons (ps_set (i := 3) sc_law_some.nd rfl (Or.inl rfl) (pe_lst pa_nil)) (pss_cons (ps_for PassesOwn.never rfl (pi_range1 rfl bi.range (pa_cons (pv 1) pa_nil)) (pg_name (i := 4) sc_law_some.nd rfl (Or.inl rfl)) (pss_cons (ps_if (pt_cmpR op_eq (pe_op op_mod (pv 2) pe_int) pe_int (nomark _)) (pss_one (ps_expr (pe_bm PySem.F.plainAttrs_list PySem.F.slot_list_append PySem.F.type_list_append mt_append (pv 3) (pa_cons (pv 4) pa_nil)))) pss_nil) (pss_one (ps_set (i := 2) sc_law_some.nd rfl (Or.inl rfl) (pe_op op_fdiv (pv 2) pe_int))))) (pss_one (ps_ret (pv 3)))))))), ?_⟩
  refine seq_abs fun N hN => ?_
  simp only [tIfS, tTest, tOp, tVar, L2.start, List.map_cons, List.map_nil, List.length_cons, List.length_nil, Nat.reduceAdd, Nat.reduceSub, List.replicate, List.cons_append, List.nil_append, List.getElem?_cons_zero, Option.some.injEq, tC, rI, V.int.injEq, rEq, V.bl.injEq, tRet, tLst, tCons, List.getElem?_cons_succ, tNil, exists_and_left, exists_eq_left', tNext, decide_eq_true_eq]
  refine ⟨by decide, rfl, ?_⟩
  by_cases c0 : z % 3 = 0
  · rw [if_pos c0]
    refine ⟨⟨by decide, by decide⟩, hmp, small (by simp), fun p hp => ?_⟩
    rw [ex]
    exact q p [x] _ (same_new hp _) upd_same (fun y hy => by rw [List.mem_singleton.mp hy]; exact hx) (by simp)
  rw [if_neg c0]
  refine hN _ _ ?_
  clear hN
  refine seq_abs fun N hN => ?_
  simp only [tIfS, tTest, tOp, tVar, List.getElem?_cons_zero, Option.some.injEq, tC, rI, V.int.injEq, rEq, V.bl.injEq, tRet, tCB, tCons, tLst, List.getElem?_cons_succ, tNil, List.length_cons, List.length_nil, Nat.reduceAdd, cx_calm, List.cons.injEq, V.ref.injEq, and_true, cx_K, cx_P, cx_w, exists_and_left, exists_eq_left', true_and, tNext, decide_eq_true_eq]
  refine ⟨by decide, rfl, ?_⟩
  by_cases c1 : z % 3 = 1
  · rw [if_pos c1]
    refine ⟨⟨by decide, by decide⟩, hmp, ⟨by decide, by decide⟩, ⟨hmp, by omega⟩, hmp, small (by simp), fun p hp => ?_⟩
    rw [ex, ey]
    have s1 := same_new hp (.lst [nV x, nV y])
    refine ⟨[(x : Int), (y : Int)], SqL.of upd_same, by simp, fun p2 ys hp2 hnd hmem => ?_⟩
    have hyl := nodup_subI hnd fun x hx => (hmem x).mp hx
    have s2 := same_new hp2 (NuO P w p2 ys)
    refine ⟨ys, upd_same, by simp at hyl; omega, fun p3 zs hp3 hpm hso => ?_⟩
    have s3 := same_new hp3 (.lst (zs.map V.int))
    obtain ⟨sp, e1, e2, e3⟩ := nats_of (zs := zs) (m := m) fun z hz => by
      have := (hmem z).mp (hpm.mem_iff.mp hz)
      simp only [List.mem_cons, List.not_mem_nil, or_false] at this
      rcases this with rfl | rfl <;> omega
    have hzl := hpm.length_eq
    refine q p3 sp _ ((s1.trans s2).trans s3) (by rw [upd_same, e1]) e3 (by simp at hyl; omega)
  rw [if_neg c1]
  refine hN _ _ ?_
  clear hN
  refine seq_abs fun N hN => ?_
  simp only [tAsg, tOp, tVar, List.getElem?_cons_zero, Option.some.injEq, tC, rI, V.int.injEq, gName, List.set_cons_succ, List.set_cons_zero, exists_and_left, exists_eq_left']
  refine ⟨⟨by decide, by decide⟩, .inr ⟨by decide, by decide⟩, ⟨by decide, by decide, by decide⟩, p1025, hN _ _ ?_⟩
  clear hN
  generalize z / 3 * 982451653 % 10 ^ Int.toNat 25 = sl
  refine seq_abs fun N hN => ?_
  simp only [tAsg, tLst, tNil, List.length_nil, gName, List.set_cons_succ, List.set_cons_zero]
  refine ⟨small (by simp), fun p hp => hN _ _ ?_⟩
  clear hN
  have s1 := same_new hp (.lst [])
  have k1 : upd H p (.lst []) p = some (.lst []) := upd_same
  generalize upd H p (.lst []) = H1 at s1 k1 ⊢
  refine seq_join (fun σ H' => ∃ (o1 o2 : Option V) (sp : List Nat), Same H H' ∧ H' p = some (.lst (sp.map nV)) ∧ (∀ x ∈ sp, x < m) ∧ sp.length ≤ 100 ∧ σ = [some (V.int z), some (V.int m), o1, some (V.ref p), o2]) (fun N hN => ?_) (fun σ H' h => ?_)
  · simp only [cx_K, tFor_eq, iRng1, tCons, tVar, List.getElem?_cons_succ, List.getElem?_cons_zero, Option.some.injEq, tNil, List.cons.injEq, and_true, exists_eq_left', V.int.injEq]
    refine ⟨by omega, by omega, ?_⟩
    refine fw_range (n := (m : Int).toNat) (fun i σ H' => ∃ (sl : Int) (o2 : Option V) (sp : List Nat), Same H H' ∧ H' p = some (.lst (sp.map nV)) ∧ (∀ x ∈ sp, x < m) ∧ sp.length ≤ i ∧ σ = [some (V.int z), some (V.int m), some (V.int sl), some (V.ref p), o2]) ⟨_, _, [], s1, k1, (fun x z => by cases z), Nat.le_refl _, rfl⟩ (fun i σ H' hi h => ?_) (fun σ H' h => ?_)
    · obtain ⟨sl, o2, sp, s2, k2, h2, h3, rfl⟩ := h
      have e0 : (0 : Int) + (i : Int) = ((i : Nat) : Int) := by omega
      simp only [gName, tSeq, tIfS, tTest, tOp, tVar, List.set_cons_succ, List.set_cons_zero, List.getElem?_cons_succ, List.getElem?_cons_zero, Option.some.injEq, tC, rI, V.int.injEq, rEq, V.bl.injEq, tDrop, tBM, tCons, tNil, rAppend, List.cons.injEq, and_true, tAsg, true_and, exists_and_left, exists_eq_left', V.ref.injEq, tNext, decide_eq_true_eq]
      refine ⟨by decide, rfl, ?_⟩
      rw [e0]
      split
      · refine ⟨.inl ⟨rfl, _, SqL.of k2⟩, _, k2, small1000 (by rw [List.length_map]; omega), ⟨by decide, by decide⟩, s2.upd hp, _, _, sp ++ [i], by rw [upd_same, List.map_append]; rfl, fun x hx => ?_, by simp; omega, rfl, rfl⟩
        rcases List.mem_append.mp hx with hx | hx
        · exact h2 x hx
        · rw [List.mem_singleton.mp hx]; omega
      · exact ⟨⟨by decide, by decide⟩, s2, _, _, sp, k2, h2, by omega, rfl, rfl⟩
    · obtain ⟨sl, o2, sp, s2, k2, h2, h3, rfl⟩ := h
      exact hN _ _ ⟨_, _, sp, s2, k2, h2, by omega, rfl⟩
  obtain ⟨o1, o2, sp, s2, k2, h2, h3, rfl⟩ := h
  simp only [tRet, tVar, List.getElem?_cons_succ, List.getElem?_cons_zero, Option.some.injEq, exists_eq_left']
  exact q p sp _ s2 k2 h2 h3
end
end C
set_option Elab.async false
set_option linter.all false
set_option maxRecDepth 100000
set_option maxHeartbeats 8000000
namespace C
open PySem L2
seal PE PT PW PA PS PSs PG PGs PI PPs PO PSet PIf
theorem cnt_lt {m : Nat} {ps : List (Nat × Nat)} {sp : List Nat} {i : Nat} (h : i ∈ cnt m ps sp) : i < m := (cnt_mem.mp h).1
theorem nodup_subG {α : Type} [DecidableEq α] : ∀ {l m : List α}, l.Nodup → (∀ x ∈ l, x ∈ m) → l.length ≤ m.length
  | [], m, _, _ => Nat.zero_le _
  | x :: l, m, hn, hs => by
    have hx : x ∈ m := hs x List.mem_cons_self
    have hn' := List.nodup_cons.mp hn
    have := nodup_subG (l := l) (m := m.erase x) hn'.2 fun y hy => by
      have hy' := hs y (List.mem_cons_of_mem _ hy)
      have hne : y ≠ x := fun e => hn'.1 (by rw [← e]; exact hy)
      exact (List.mem_erase_of_ne hne).mpr hy'
    rw [List.length_erase_of_mem hx] at this
    have := List.length_pos_of_mem hx
    rw [List.length_cons]
    omega
theorem rise_len {m : Nat} {xs : List Nat} (h1 : xs.Pairwise (· < ·)) (h2 : ∀ x ∈ xs, x < m) : xs.length ≤ m := by
  have := nodup_subG (l := xs) (m := List.range m) (h1.imp fun h => Nat.ne_of_lt h) fun x hx => List.mem_range.mpr (h2 x hx)
  rwa [List.length_range] at this
theorem mapGetV {α : Type} {H : Hp} {f : α → Dt} {xs : List α} {us : List V} {i : Nat} {v : V} (h : DAts H (xs.map f) us) (hv : us[i]? = some v) : ∃ x, xs[i]? = some x ∧ DAt H (f x) v := by
  have hl := DAts.length h
  rw [List.length_map] at hl
  have hi : i < xs.length := by rw [← hl]; exact (List.getElem?_eq_some_iff.mp hv).1
  obtain ⟨u, h1, h2⟩ := DAts.get (d := f xs[i]) h (by rw [List.getElem?_map, List.getElem?_eq_getElem hi]; rfl)
  rw [hv] at h1
  cases h1
  exact ⟨_, List.getElem?_eq_getElem hi, h2⟩
end C
set_option Elab.async false
set_option linter.all false
set_option maxRecDepth 100000
set_option maxHeartbeats 8000000
namespace C
open PySem L2
seal PE PT PW PA PS PSs PG PGs PI PPs PO PSet PIf
abbrev s_law_world : Stmt := top 26
theorem sc_law_world : FnScope ["script", "k", "names", "many", "pairs", "near", "rows", "n", "some"] ["script", "k", "names"] (defScope s_law_world) := ⟨rfl, rfl, rfl, by decide +kernel, rfl, by decide +kernel, by decide +kernel⟩
abbrev s_law_copy : Stmt := top 27
theorem sc_law_copy : FnScope ["world"] ["world"] (defScope s_law_copy) := ⟨rfl, rfl, rfl, by decide +kernel, rfl, by decide +kernel, by decide +kernel⟩
abbrev Ro := Addr × Str × Addr × List Nat
def TrAt (H : Hp) (m : Nat) (T : List Ro) : Prop := ∀ e ∈ T, H e.1 = some (.tup [.str e.2.1, .ref e.2.2.1]) ∧ H e.2.2.1 = some (.lst (e.2.2.2.map nV)) ∧ (∀ i ∈ e.2.2.2, i < m) ∧ e.2.2.2.Pairwise (· < ·)
theorem TrAt.same {H H' : Hp} {m : Nat} {T : List Ro} (e : Same H H') (h : TrAt H m T) : TrAt H' m T := fun r hr => let ⟨h1, h2, h3⟩ := h r hr; ⟨e _ _ h1, e _ _ h2, h3⟩
structure WdAt (H : Hp) (wa : Addr) (m : Nat) (ps : List (Nat × Nat)) (T : List Ro) (ca la : Addr) (us : List V) : Prop where
  tup : H wa = some (.tup [nV m, .ref ca, .ref la])
  cl : H ca = some (.lst us)
  dat : DAts H (ps.map dP2) us
  ok2 : Ok2 m ps
  pl : ps.length ≤ 300
  m1 : 1 ≤ m
  m90 : m ≤ 40
  rows : H la = some (.lst ((T.map (·.1)).map V.ref))
  tr : TrAt H m T
  nd : (T.map (·.2.1)).Nodup
  tl : T.length ≤ 5
theorem WdAt.same {H H' : Hp} {wa : Addr} {m : Nat} {ps : List (Nat × Nat)} {T : List Ro} {ca la : Addr} {us : List V} (e : Same H H') (h : WdAt H wa m ps T ca la us) : WdAt H' wa m ps T ca la us :=
  ⟨e _ _ h.tup, e _ _ h.cl, DAts.same e h.dat, h.ok2, h.pl, h.m1, h.m90, e _ _ h.rows, h.tr.same e, h.nd, h.tl⟩
theorem perm_map_ex {α β : Type} {f : α → β} {l' l : List β} (h : l'.Perm l) : ∀ T : List α, l = T.map f → ∃ T' : List α, T'.Perm T ∧ l' = T'.map f := by
  induction h with
  | nil => intro T e; exact ⟨T, List.Perm.refl _, e⟩
  | cons x _ ih =>
    intro T e
    cases T with
    | nil => cases e
    | cons t T1 =>
      rw [List.map_cons] at e
      obtain ⟨e1, e2⟩ := List.cons.inj e
      obtain ⟨T', p, e3⟩ := ih T1 e2
      exact ⟨t :: T', p.cons _, by rw [List.map_cons, e1, e3]⟩
  | swap x y l =>
    intro T e
    cases T with
    | nil => cases e
    | cons t1 T =>
      cases T with
      | nil => cases (List.cons.inj e).2
      | cons t2 T1 =>
        rw [List.map_cons, List.map_cons] at e
        obtain ⟨e1, e2⟩ := List.cons.inj e
        obtain ⟨e2, e3⟩ := List.cons.inj e2
        exact ⟨t2 :: t1 :: T1, List.Perm.swap .., by rw [List.map_cons, List.map_cons, e1, e2, e3]⟩
  | trans _ _ ih1 ih2 =>
    intro T e
    obtain ⟨T1, p1, e1⟩ := ih2 T e
    obtain ⟨T2, p2, e2⟩ := ih1 T1 e1
    exact ⟨T2, p2.trans p1, e2⟩
def spWd (K : PySem.W.Frag) : Sp := fun vs H Q _ => ∃ (a na : Addr) (ns : List Int) (k j : Nat) (zs : List Str), vs = [.ref a, .int k, .ref na] ∧ SqL K H a (ns.map V.int) ∧ ns.length ≤ 63 ∧ k ≤ 50 ∧ Nms H na j zs ∧ 1 ≤ j ∧ j ≤ 5 ∧ ∀ (wa : Addr) (m : Nat) (ps : List (Nat × Nat)) (T : List Ro) (ca la : Addr) (us : List V) (H' : Hp), Same H H' → WdAt H' wa m ps T ca la us → (T.map (·.2.1)).Perm zs → Q (.ref wa) H'
section
variable {P : Program} {w : World} {K : PySem.W.Frag} {mg : Str → Option Value} {base : Heap} {f : Addr} {fd : FuncData}
theorem ok_world (bi : Bi mg) (h_law_draw : Has P w K mg base 1 "_law_draw" ["script", "k"] (spDr K)) (h_law_clashes : Has P w K mg base 1 "_law_clashes" ["spell", "many"] spCs) (h_law_near : Has P w K mg base 1 "_law_near" ["many", "pairs"] spNr) (h_law_some : Has P w K mg base 1 "_law_some" ["cell", "many"] spSm) (h_law_counter : Has P w K mg base 1 "_law_counter" ["near", "spots"] (spLc K)) (F : Fun K "_law_world" "_law_world" s_law_world f fd) : FnOk P w K mg base CX0 2 f fd ["script", "k", "names"] (spWd K) := by
  refine F.ok sc_law_world (fun vs H Q E h => ?_) (fun cdv A outer s H vs Q E hr h => ?_)
  · obtain ⟨a, na, ns, k, j, zs, rfl, _⟩ := h
    rfl
  obtain ⟨a, na, ns, k, j, zs, rfl, hS, hl, hk, hnm, hj1, hj5, q⟩ := h
  refine ⟨_, (pss_cons (ps_set (i := 3) sc_law_world.nd rfl (Or.inl rfl) (pe_op op_add pe_int (pe_op op_mod (pe_callH h_law_draw (hr.mono (by omega)) rfl (pa_cons (pv 0) (pa_cons (pv 1) pa_nil))) pe_int))) (pss_cons (ps_set (i := 4) sc_law_world.nd rfl (Or.inl rfl) (pe_callH h_law_clashes (hr.mono (by omega)) rfl (pa_cons (pe_op op_mod (pe_op op_mul (pe_callH h_law_draw (hr.mono (by omega)) rfl (pa_cons (pv 0) (pa_cons (pe_op op_add (pv 1) pe_int) pa_nil))) pe_int) (pe_op op_pow pe_int pe_int)) (pa_cons (pv 3) pa_nil)))) (pss_cons (ps_set (i := 5) sc_law_world.nd rfl (Or.inl rfl) (pe_callH h_law_near (hr.mono (by omega)) rfl (pa_cons (pv 3) (pa_cons (pv 4) pa_nil)))) (pss_cons (ps_set (i := 6) sc_law_world.nd rfl (Or.inl rfl) (pe_lst pa_nil)) (pss_cons (ps_for PassesOwn.never rfl (pi_range1 rfl bi.range (pa_cons (pe_callB call_len rfl bi.len bt_len (pa_cons (pv 2) pa_nil)) pa_nil)) (pg_name (i := 7) sc_law_world.nd rfl (Or.inl rfl)) (pss_cons (ps_set (i := 8) sc_law_world.nd rfl (Or.inl rfl) (pe_callH h_law_some (hr.mono (by omega)) rfl (pa_cons (pe_callH h_law_draw (hr.mono (by omega)) rfl (pa_cons (pv 0) (pa_cons (pe_op op_add (pe_op op_add (pv 1) pe_int) (pv 7)) pa_nil))) (pa_cons (pv 3) pa_nil)))) (pss_one (ps_expr (pe_bm PySem.F.plainAttrs_list PySem.F.slot_list_append PySem.F.type_list_append mt_append (pv 6) (pa_cons (pe_tup (pa_cons (pe_ix ix_list (pv 2) (pv 7) (fun _ _ => rfl)) (pa_cons (pe_callH h_law_counter (hr.mono (by omega)) rfl (pa_cons (pv 5) (pa_cons (pv 8) pa_nil))) pa_nil))) pa_nil)))))) (pss_one (ps_ret (pe_tup (pa_cons (pv 3) (pa_cons (pv 4) (pa_cons (pe_callB call_sortedP rfl bi.sorted bt_sorted (pa_cons (pv 6) pa_nil)) pa_nil))))))))))), ?_⟩
  refine seq_abs fun N hN => ?_
  simp only [tAsg, tOp, tC, tCall, tCons, tVar, L2.start, List.map_cons, List.map_nil, List.length_cons, List.length_nil, Nat.reduceAdd, Nat.reduceSub, List.replicate, List.cons_append, List.nil_append, List.getElem?_cons_zero, Option.some.injEq, List.getElem?_cons_succ, tNil, List.append_nil, rI, V.int.injEq, rI0, gName, List.set_cons_succ, List.set_cons_zero, exists_and_left, exists_eq_left']
  refine ⟨a, ns, k, rfl, hS, hl, by omega, fun z hz => ⟨z, rfl, by decide, hN _ _ ?_⟩⟩
  clear hN
  obtain ⟨m, em⟩ : ∃ m : Nat, 1 + z % 7 = (m : Int) := ⟨(1 + z % 7).toNat, by omega⟩
  have hm1 : 1 ≤ m := by omega
  have hm7 : m ≤ 7 := by omega
  rw [em]
  refine seq_abs fun N hN => ?_
  simp only [tAsg, tCall, tCons, tOp, tVar, List.getElem?_cons_zero, Option.some.injEq, List.getElem?_cons_succ, tC, rI0, V.int.injEq, tNil, List.append_nil, rI, gName, List.set_cons_succ, List.set_cons_zero, exists_eq_left', exists_and_left]
  refine ⟨a, ns, k + 1, rfl, hS, hl, by omega, fun z2 hz2 => ⟨z2, rfl, .inr ⟨by decide, by decide⟩, ⟨by decide, by decide, by decide⟩, by decide, ?_⟩⟩
  refine ⟨_, m, rfl, by omega, fun ca us ps H1 s1 hca kca hps hok hpl => hN _ _ ?_⟩
  clear hN
  replace hS := Same.seq s1 hS
  replace hnm := hnm.same s1
  refine seq_abs fun N hN => ?_
  simp only [tAsg, tCall, tCons, tVar, List.getElem?_cons_succ, List.getElem?_cons_zero, Option.some.injEq, tNil, List.append_nil, gName, List.set_cons_succ, List.set_cons_zero, exists_eq_left']
  refine ⟨m, ca, us, ps, rfl, by omega, kca, hps, hok, fun nr H2 s2 hnr => hN _ _ ?_⟩
  clear hN
  replace hS := Same.seq s2 hS
  replace hnm := hnm.same s2
  replace kca := s2 _ _ kca
  replace hps := DAts.same s2 hps
  have s02 := s1.trans s2
  refine seq_abs fun N hN => ?_
  simp only [tAsg, tLst, tNil, List.length_nil, gName, List.set_cons_succ, List.set_cons_zero]
  refine ⟨small (by decide), fun ra hra => hN _ _ ?_⟩
  clear hN
  have s3 := same_new hra (.lst [])
  have kra : upd H2 ra (.lst []) ra = some (.lst []) := upd_same
  generalize upd H2 ra (.lst []) = H3 at s3 kra ⊢
  have hjz := hnm.len
  refine seq_join (fun σ H' => ∃ (o1 o2 : Option V) (T : List Ro), Same H2 H' ∧ H' ra = some (.lst ((T.map (·.1)).map V.ref)) ∧ TrAt H' m T ∧ T.map (·.2.1) = zs ∧ σ = [some (V.ref a), some (V.int k), some (V.ref na), some (V.int m), some (V.ref ca), some (V.ref nr), some (V.ref ra), o1, o2]) (fun N hN => ?_) (fun σ H' h => ?_)
  · simp only [cx_K, exists_and_left, tFor_eq, iRng1, tCons, tCB, tVar, List.getElem?_cons_succ, List.getElem?_cons_zero, Option.some.injEq, tNil, List.cons.injEq, and_true, V.int.injEq, exists_eq_left']
    refine ⟨zs.length, .inl ⟨_, SqL.of (s3 _ _ hnm.lst), (List.length_map _).symm⟩, by omega, by omega, ?_⟩
    refine fw_range (n := (zs.length : Int).toNat) (fun i σ H' => ∃ (o1 o2 : Option V) (T : List Ro), Same H2 H' ∧ H' ra = some (.lst ((T.map (·.1)).map V.ref)) ∧ TrAt H' m T ∧ (∀ e ∈ T, e.2.2.1 ≠ ra) ∧ T.map (·.2.1) = zs.take i ∧ σ = [some (V.ref a), some (V.int k), some (V.ref na), some (V.int m), some (V.ref ca), some (V.ref nr), some (V.ref ra), o1, o2]) ⟨_, _, [], s3, kra, (fun e h => by cases h), (fun e h => by cases h), rfl, rfl⟩ (fun i σ H' hi h => ?_) (fun σ H' h => ?_)
    · obtain ⟨o1, o2, T, s4, k4, h4, hne, hT, rfl⟩ := h
      have hiz : i < zs.length := by omega
      have e0 : (0 : Int) + (i : Int) = ((i : Nat) : Int) := by omega
      rw [e0]
      refine seq_abs fun N hN => ?_
      simp only [tAsg, tCall, tCons, tVar, List.set_cons_succ, List.set_cons_zero, List.getElem?_cons_zero, Option.some.injEq, tOp, List.getElem?_cons_succ, tC, rI0, V.int.injEq, tNil, List.append_nil, gName, exists_eq_left', exists_and_left]
      refine ⟨a, ns, k + 2 + i, rfl, Same.seq s4 hS, hl, by omega, fun z3 hz3 => ?_⟩
      refine ⟨z3, m, rfl, hm1, by omega, fun sa sp H5 s5 k5 hsp hspl => hN _ _ ?_⟩
      clear hN
      have s45 := s4.trans s5
      simp only [tDrop, tBM, tVar, List.getElem?_cons_succ, List.getElem?_cons_zero, Option.some.injEq, tCons, tTup, tOp, rIxL, tCall, tNil, List.append_nil, List.length_cons, List.length_nil, Nat.reduceAdd, rAppend, List.cons.injEq, and_true, true_and, exists_and_left, exists_eq_left', V.int.injEq, V.ref.injEq]
      have hTl : T.length = i := by have := congrArg List.length hT; rw [List.length_map, List.length_take] at this; omega
      refine ⟨.inl ⟨rfl, _, SqL.of (s5 _ _ k4)⟩, _, SqL.of (s45 _ _ hnm.lst), V.str zs[i], atI_nat (j := i) (by rw [List.getElem?_map, List.getElem?_eq_getElem hiz]; rfl), ?_⟩
      refine ⟨nr, sa, m, ps, sp, rfl, by omega, hnr.same s45, SqL.of k5, hsp, by omega, fun lp H6 s6 hlp k6 => ⟨small (by decide), fun p hp => ?_⟩⟩
      have s7 := same_new hp (.tup [V.str zs[i], V.ref lp])
      have k7 : upd H6 p (.tup [V.str zs[i], V.ref lp]) p = some (.tup [V.str zs[i], V.ref lp]) := upd_same
      generalize upd H6 p (.tup [V.str zs[i], V.ref lp]) = H7 at s7 k7 ⊢
      have k4' := (s5.trans (s6.trans s7)) _ _ k4
      have hlpne : lp ≠ ra := fun z => by rw [z, s5 _ _ k4] at hlp; cases hlp
      refine ⟨_, k4', by rw [List.length_map, List.length_map, hTl]; exact Nat.lt_of_lt_of_le (show i < 64 by omega) (small (by decide)), (s45.trans (s6.trans s7)).upd hra, _, _, T ++ [(p, zs[i], lp, cnt m ps sp)], ?_, fun e he => ?_, fun e he => ?_, ?_, rfl, rfl⟩
      · rw [upd_same, List.map_append, List.map_append]
        rfl
      · have key : H7 e.1 = some (.tup [.str e.2.1, .ref e.2.2.1]) ∧ H7 e.2.2.1 = some (.lst (e.2.2.2.map nV)) ∧ ((∀ i ∈ e.2.2.2, i < m) ∧ e.2.2.2.Pairwise (· < ·)) ∧ e.2.2.1 ≠ ra := by
          rcases List.mem_append.mp he with he | he
          · have := h4.same (s5.trans (s6.trans s7)) e he
            exact ⟨this.1, this.2.1, this.2.2, hne e he⟩
          · rw [List.mem_singleton.mp he]
            exact ⟨k7, s7 _ _ k6, ⟨fun x hx => cnt_lt hx, cnt_rise ..⟩, hlpne⟩
        obtain ⟨g1, g2, g3, g4⟩ := key
        have g5 : e.1 ≠ ra := fun z => by rw [z, k4'] at g1; cases g1
        exact ⟨by rw [upd_ne g5]; exact g1, by rw [upd_ne g4]; exact g2, g3⟩
      · rcases List.mem_append.mp he with he | he
        · exact hne e he
        · rw [List.mem_singleton.mp he]; exact hlpne
      · rw [List.map_append, hT, List.take_succ_eq_append_getElem hiz]
        rfl
    · obtain ⟨o1, o2, T, s4, k4, h4, _, hT, rfl⟩ := h
      rw [Int.toNat_natCast, List.take_of_length_le (Nat.le_refl _)] at hT
      exact hN _ _ ⟨_, _, T, s4, k4, h4, hT, rfl⟩
  obtain ⟨o1, o2, T, s4, k4, h4, hT, rfl⟩ := h
  have hTl : T.length = zs.length := by have := congrArg List.length hT; rwa [List.length_map] at this
  simp only [tRet, tTup, tCons, tVar, List.getElem?_cons_succ, List.getElem?_cons_zero, Option.some.injEq, tCB, tNil, cx_calm, List.cons.injEq, and_true, List.length_cons, List.length_nil, Nat.reduceAdd, exists_and_left, true_and, exists_eq_left', V.ref.injEq]
  refine ⟨T.map (·.1), k4, zs, by rw [List.length_map, hTl], by omega, hnm.nd, fun i b z hb hz => ?_, fun l as' hl' hperm => ⟨small (by decide), fun p hp => ?_⟩⟩
  · rw [List.getElem?_map] at hb
    obtain ⟨e, he, rfl⟩ := Option.map_eq_some_iff.mp hb
    rw [← hT, List.getElem?_map, he] at hz
    cases hz
    exact ⟨_, (h4 e (List.mem_of_getElem? he)).1⟩
  obtain ⟨T', hp', rfl⟩ := perm_map_ex hperm T rfl
  have s5 := (same_new hl' (.lst ((T'.map (·.1)).map V.ref))).trans (same_new hp (.tup [V.int m, V.ref ca, V.ref l]))
  have hpn : (T'.map (·.2.1)).Perm zs := by rw [← hT]; exact hp'.map _
  refine q p m ps T' ca l us _ ((s02.trans s4).trans s5) ⟨upd_same, (s4.trans s5) _ _ kca, DAts.same (s4.trans s5) hps, hok, by omega, hm1, by omega, same_new hp _ _ _ upd_same, fun e he => h4.same s5 e (hp'.mem_iff.mp he), hpn.nodup_iff.mpr hnm.nd, by rw [hp'.length_eq]; omega⟩ hpn
end
end C
set_option Elab.async false
set_option linter.all false
set_option maxRecDepth 100000
set_option maxHeartbeats 8000000
namespace C
open PySem L2
seal PE PT PW PA PS PSs PG PGs PI PPs PO PSet PIf
abbrev s_is_whole : Stmt := top 10
theorem sc_is_whole : FnScope ["n"] ["n"] (defScope s_is_whole) := ⟨rfl, rfl, rfl, by decide +kernel, rfl, by decide +kernel, by decide +kernel⟩
abbrev s_is_below : Stmt := top 11
theorem sc_is_below : FnScope ["n", "bound"] ["n", "bound"] (defScope s_is_below) := ⟨rfl, rfl, rfl, by decide +kernel, rfl, by decide +kernel, by decide +kernel⟩
abbrev s_is_rising : Stmt := top 14
theorem sc_is_rising : FnScope ["things"] ["things"] (defScope s_is_rising) := ⟨rfl, rfl, rfl, by decide +kernel, rfl, by decide +kernel, by decide +kernel⟩
abbrev s_are_spots : Stmt := top 15
theorem sc_are_spots : FnScope ["many", "spots"] ["many", "spots"] (defScope s_are_spots) := ⟨rfl, rfl, rfl, by decide +kernel, rfl, by decide +kernel, by decide +kernel⟩
abbrev s_are_clashes : Stmt := top 16
theorem sc_are_clashes : FnScope ["many", "clashes"] ["many", "clashes"] (defScope s_are_clashes) := ⟨rfl, rfl, rfl, by decide +kernel, rfl, by decide +kernel, by decide +kernel⟩
def spWhI : Sp := fun vs H Q _ => ∃ i : Int, vs = [.int i] ∧ Q (.bl true) H
def spBeI : Sp := fun vs H Q _ => ∃ i b : Int, vs = [.int i, .int b] ∧ Q (.bl (decide (0 ≤ i ∧ i < b))) H
def spRs (K : PySem.W.Frag) : Sp := fun vs H Q _ => ∃ (b : Bool) (a : Addr) (xs : List V) (f : Nat → Bool), vs = [.ref a] ∧ H a = some (hoK b xs) ∧ (b = true → xs ≠ []) ∧ xs.length ≤ 1000 ∧ (∀ (i : Nat) (x y : V), xs[i]? = some x → xs[i + 1]? = some y → LtV K H x y (f i)) ∧ ∀ H', Same H H' → Q (.bl ((List.range (xs.length - 1)).all f)) H'
def riB (ns : List Int) : Bool := (List.range (ns.length - 1)).all fun i => decide (ns.getD i 0 < ns.getD (i + 1) 0)
def spB (m : Int) (ns : List Int) : Bool := (ns.all fun i => decide (0 ≤ i ∧ i < m)) && riB ns
def dI2 (p : Int × Int) : Dt := .tup [.int p.1, .int p.2]
def riP (ps : List (Int × Int)) : Bool := (List.range (ps.length - 1)).all fun i => HT.lexLt [(ps.getD i (0, 0)).1, (ps.getD i (0, 0)).2] [(ps.getD (i + 1) (0, 0)).1, (ps.getD (i + 1) (0, 0)).2]
def clB (m : Int) (ps : List (Int × Int)) : Bool := (ps.all fun p => spB m [p.1, p.2]) && riP ps
def spAs (K : PySem.W.Frag) : Sp := fun vs H Q _ => ∃ (b : Bool) (m : Int) (a : Addr) (ns : List Int), vs = [.int m, .ref a] ∧ H a = some (hoK b (ns.map V.int)) ∧ (b = true → ns ≠ []) ∧ ns.length ≤ 1000 ∧ ∀ H', Same H H' → Q (.bl (spB m ns)) H'
def spAc (K : PySem.W.Frag) : Sp := fun vs H Q _ => ∃ (m : Int) (a : Addr) (us : List V) (ps : List (Int × Int)), vs = [.int m, .ref a] ∧ H a = some (.lst us) ∧ DAts H (ps.map dI2) us ∧ ps.length ≤ 1000 ∧ ∀ H', Same H H' → Q (.bl (clB m ps)) H'
theorem i2At {H : Hp} {p : Int × Int} {v : V} (h : DAt H (dI2 p) v) : ∃ a, v = .ref a ∧ H a = some (.tup [V.int p.1, V.int p.2]) := by
  obtain ⟨a, vs, rfl, ha, x, r, rfl, hx, y, r2, rfl, hy, hr⟩ := h
  have hx : x = V.int p.1 := hx
  have hy : y = V.int p.2 := hy
  have hr : r2 = [] := hr
  subst hx hy hr
  exact ⟨a, rfl, ha⟩
theorem LtV.same {K : PySem.W.Frag} {H H' : Hp} {x y : V} {b : Bool} (e : Same H H') (h : LtV K H x y b) : LtV K H' x y b := by
  rcases h with h | h | ⟨a, c, ns, ms, h1, h2, h3, h4, h5⟩
  · exact .inl h
  · exact .inr (.inl h)
  · exact .inr (.inr ⟨a, c, ns, ms, h1, h2, Same.tup e h3, Same.tup e h4, h5⟩)
section
variable {P : Program} {w : World} {K : PySem.W.Frag} {mg : Str → Option Value} {base : Heap} {f : Addr} {fd : FuncData}
theorem ok_is_wholeI (bi : Bi mg) (F : Fun K "is_whole" "is_whole" s_is_whole f fd) : FnOk P w K mg base CX0 1 f fd ["n"] spWhI := by
  refine F.ok sc_is_whole (fun vs H Q E h => ?_) (fun cdv A outer s H vs Q E hr h => ?_)
  · obtain ⟨i, rfl, _⟩ := h
    rfl
  obtain ⟨i, rfl, q⟩ := h
  refine ⟨_, (pss_one (ps_ret (pe_and (pe_callB (call_isi (T := "int")) rfl bi.isinstance bt_isinstance (pa_cons (pv 0) (pa_cons (pe_ty bi.int bt_int rfl) pa_nil))) (pe_one (pe_not (pe_callB (call_isi (T := "bool")) rfl bi.isinstance bt_isinstance (pa_cons (pv 0) (pa_cons (pe_ty bi.bool bt_bool rfl) pa_nil)))))))), ?_⟩
  simp only [tRet, tAndV, tCB, tCons, tVar, L2.start, List.map_cons, List.map_nil, List.length_cons, List.length_nil, Nat.reduceAdd, Nat.reduceSub, List.replicate, List.append_nil, List.getElem?_cons_zero, Option.some.injEq, tC, tNil, List.cons.injEq, and_true, cx_K, V.bl.injEq, tNotV, exists_eq_left', exists_and_left]
  exact ⟨_, .int i, true, kit_same, iteT ⟨_, .int i, false, kit_ib, q⟩⟩
theorem ok_is_belowI (bi : Bi mg) (h_is_whole : Has P w K mg base 1 "is_whole" ["n"] spWhI) (F : Fun K "is_below" "is_below" s_is_below f fd) : FnOk P w K mg base CX0 2 f fd ["n", "bound"] spBeI := by
  refine F.ok sc_is_below (fun vs H Q E h => ?_) (fun cdv A outer s H vs Q E hr h => ?_)
  · obtain ⟨i, b, rfl, _⟩ := h
    rfl
  obtain ⟨i, b, rfl, q⟩ := h
  refine ⟨_, (pss_one (ps_ret (pe_and (pe_callH h_is_whole (hr.mono (by omega)) rfl (pa_cons (pv 0) pa_nil)) (pe_one (pe_chain op_le op_lt pe_int (pv 0) (pv 1)))))), ?_⟩
  simp only [tRet, tAndV, tCall, tCons, tVar, L2.start, List.map_cons, List.map_nil, List.length_cons, List.length_nil, Nat.reduceAdd, Nat.reduceSub, List.replicate, List.append_nil, List.getElem?_cons_zero, Option.some.injEq, tNil, spWhI, List.cons.injEq, and_true, V.bl.injEq, tChain, tC, rI0, V.int.injEq, List.getElem?_cons_succ, exists_and_left, exists_eq_left', decide_eq_true_eq, if_true]
  by_cases h : 0 ≤ i
  · rw [if_pos h]
    rw [show decide (0 ≤ i ∧ i < b) = decide (i < b) by simp [h]] at q
    exact q
  · rw [if_neg h]
    rw [show decide (0 ≤ i ∧ i < b) = false by simp [h]] at q
    exact q
theorem ok_is_rising (bi : Bi mg) (bz : mg "zip" = none) (F : Fun K "is_rising" "is_rising" s_is_rising f fd) : FnOk P w K mg base CX0 1 f fd ["things"] (spRs K) := by
  refine F.ok sc_is_rising (fun vs H Q E h => ?_) (fun cdv A outer s H vs Q E hr h => ?_)
  · obtain ⟨b, a, xs, g, rfl, _⟩ := h
    rfl
  obtain ⟨b, a, xs, g, rfl, ha, hb0, hl, hlt, q⟩ := h
  refine ⟨_, (pss_one (ps_ret (pe_callB call_all rfl bi.all bt_all (pa_cons (pe_comp ["one", "other"] [] [] (pi_zipK rfl bz (pa_cons (pv 0) (pa_cons (pe_slice (SlR.or sl_list sl_tup) (pv 0) (po_some pe_int) po_none) pa_nil))) (fun _ _ _ _ nd => pg_tupK (K := K) (n := 2) rfl (pgs_cons (pg_name (i := 0) nd rfl (Or.inl rfl)) (pgs_cons (pg_name (i := 1) nd rfl (Or.inl rfl)) pgs_nil))) (fun _ _ _ _ => pif_nil) (fun _ _ _ _ => (pe_cmpR (op_ltA K hr.units0) (pv 0) (pv 1) (nomark _)))) pa_nil)))), ?_⟩
  simp only [tRet, tCB, tCons, rSlL, cx_K, exists_and_left, rSlT, L2.start, List.map_cons, List.map_nil, List.length_cons, List.length_nil, Nat.reduceAdd, Nat.reduceSub, List.replicate, List.append_nil, tNil, cx_calm, List.cons.injEq, and_true, true_and, tLC_eq, iZipK, tVar, List.getElem?_cons_zero, Option.some.injEq, tSl, tPart, tC, V.int.injEq, tNoPart, V.ref.injEq, and_assoc, exists_eq_left']
  have main : ∀ (p : Addr) (H1 : Hp), Same H H1 → H1 p = some (hoK b (xs.drop 1)) → LcW (Itk b b a p) ["one", "other"] [] (gTup K 2 (gCons (gName 0) (gCons (gName 1) gNil))) none (tOp (rLtA K) (tVar 0) (tVar 1)) [some (V.ref a)] H1 fun x H1 =>
      ∃ p, x = V.ref p ∧ ∃ x, SqL K H1 p (List.map V.bl x) ∧ Q (V.bl (x.all id)) H1 := fun p H1 s1 k1 => by
    have hmin : min xs.length (xs.drop 1).length = xs.length - 1 := by rw [List.length_drop]; omega
    refine lc_zipK (xs := xs) (ys := xs.drop 1) (fun i ys σ H' => Same H1 H' ∧ ys = ((List.range i).map g).map V.bl ∧ ∃ o1 o2, σ = [o1, o2]) ⟨Same.refl _, rfl, _, _, rfl⟩ (small (by rw [hmin]; omega)) (fun i ys σ H' e => ?_) (fun i ys σ H' e => ⟨(s1.trans e.1) _ _ ha, e.1 _ _ k1⟩) (fun i x y ys σ H' C hx hy e hC p2 hp2 => ?_) (fun ys σ H' e p3 hp3 => ?_)
    · rw [e.2.1, List.length_map, List.length_map, List.length_range]
      exact Nat.le_refl _
    · obtain ⟨es, rfl, o1, o2, rfl⟩ := e
      have hy' : xs[i + 1]? = some y := by rw [List.getElem?_drop] at hy; rw [Nat.add_comm]; exact hy
      have s2 := (s1.trans es).trans (same_new hp2 (.tup [x, y]))
      simp only [gTup, V.ref.injEq, gCons, gName, gNil, tOp, tVar, List.set_cons_zero, List.set_cons_succ, List.getElem?_cons_zero, Option.some.injEq, List.getElem?_cons_succ, rLtA, exists_eq_left', exists_and_left]
      refine ⟨_, SqT.of upd_same, rfl, _, _, rfl, _, _, rfl, rfl, g i, LtV.same s2 (hlt i x y hx hy'), hC _ _ _ ⟨es.trans (same_new hp2 _), ?_, _, _, rfl⟩⟩
      rw [List.range_succ, List.map_append, List.map_append]
      rfl
    · obtain ⟨es, rfl, o1, o2, rfl⟩ := e
      refine ⟨p3, rfl, _, SqL.of upd_same, ?_⟩
      rw [hmin, show ((List.range (xs.length - 1)).map g).all id = (List.range (xs.length - 1)).all g by rw [List.all_map]; rfl]
      exact q _ ((s1.trans es).trans (same_new hp3 _))
  cases b with
  | true =>
    obtain ⟨x, us, rfl⟩ : ∃ x us, xs = x :: us := by
      cases xs with
      | nil => exact absurd rfl (hb0 rfl)
      | cons x us => exact ⟨x, us, rfl⟩
    refine .inr ⟨_, SqT.of ha, tail_not_whole _ _, fun p hp => ⟨true, true, _, same_new hp _ _ _ ha, _, upd_same, ?_⟩⟩
    rw [cut_tail]
    exact main p _ (same_new hp _) upd_same
  | false =>
    refine .inl ⟨_, SqL.of ha, fun p hp => ⟨false, false, _, same_new hp _ _ _ ha, _, upd_same, ?_⟩⟩
    rw [show cutV xs (some 1) none = xs.drop 1 by cases xs with | nil => rfl | cons x us => exact cut_tail x us]
    exact main p _ (same_new hp _) upd_same
theorem ok_are_spots (bi : Bi mg) (h_is_below : Has P w K mg base 2 "is_below" ["n", "bound"] spBeI) (h_is_rising : Has P w K mg base 1 "is_rising" ["things"] (spRs K)) (F : Fun K "are_spots" "are_spots" s_are_spots f fd) : FnOk P w K mg base CX0 3 f fd ["many", "spots"] (spAs K) := by
  refine F.ok sc_are_spots (fun vs H Q E h => ?_) (fun cdv A outer s H vs Q E hr h => ?_)
  · obtain ⟨b, m, a, ns, rfl, _⟩ := h
    rfl
  obtain ⟨b, m, a, ns, rfl, ha, hb0, hl, q⟩ := h
  refine ⟨_, (pss_one (ps_ret (pe_and (pe_callB call_all rfl bi.all bt_all (pa_cons (pe_comp ["a"] ["many"] [0] (PI.or (pi_list (pv 1)) (pi_tup (pv 1))) (fun _ _ _ _ nd => pg_name (i := 0) nd rfl (Or.inl rfl)) (fun _ _ _ _ => pif_nil) (fun _ _ _ _ => (pe_callH h_is_below (hr.mono (by omega)) rfl (pa_cons (pv 0) (pa_cons (pv 1) pa_nil))))) pa_nil)) (pe_one (pe_callH h_is_rising (hr.mono (by omega)) rfl (pa_cons (pv 1) pa_nil)))))), ?_⟩
  simp only [tRet, tAndV, tCB, tCons, iList, tVar, cx_K, iTup, L2.start, List.map_cons, List.map_nil, List.length_cons, List.length_nil, Nat.reduceAdd, Nat.reduceSub, List.replicate, List.append_nil, tNil, cx_calm, List.cons.injEq, and_true, V.bl.injEq, tCall, List.getElem?_cons_succ, List.getElem?_cons_zero, Option.some.injEq, exists_eq_left', exists_and_left, true_and, tLC_eq, V.ref.injEq]
  have fin : ∀ (H1 : Hp) (p : Addr), Same H H1 → H1 p = some (.lst ((ns.map fun i => decide (0 ≤ i ∧ i < m)).map V.bl)) → ∃ p', V.ref p = V.ref p' ∧ ∃ x, SqL K H1 p' (List.map V.bl x) ∧ if x.all id = true then spRs K [V.ref a] H1 Q E0 else Q (V.bl false) H1 := fun H1 p s1 k1 => by
    refine ⟨p, rfl, _, SqL.of k1, ?_⟩
    rw [show ((ns.map fun i => decide (0 ≤ i ∧ i < m)).all id) = (ns.all fun i => decide (0 ≤ i ∧ i < m)) by rw [List.all_map]; rfl]
    unfold spB at q
    split
    · rename_i h
      rw [h, Bool.true_and] at q
      refine ⟨b, a, ns.map V.int, fun i => decide (ns.getD i 0 < ns.getD (i + 1) 0), rfl, s1 _ _ ha, fun e z => hb0 e (List.map_eq_nil_iff.mp z), by rw [List.length_map]; exact hl, fun i x y hx hy => .inl ?_, fun H' e => ?_⟩
      · rw [List.getElem?_map] at hx hy
        obtain ⟨n1, h1, rfl⟩ := Option.map_eq_some_iff.mp hx
        obtain ⟨n2, h2, rfl⟩ := Option.map_eq_some_iff.mp hy
        exact ⟨n1, n2, rfl, rfl, by show decide (ns.getD i 0 < ns.getD (i + 1) 0) = _; rw [List.getD_eq_getElem?_getD, List.getD_eq_getElem?_getD, h1, h2]; rfl⟩
      · rw [List.length_map]
        exact q _ (s1.trans e)
    · rename_i h
      rw [Bool.not_eq_true] at h
      rw [h, Bool.false_and] at q
      exact q _ s1
  cases b with
  | false =>
    refine .inl ⟨⟨_, SqL.of ha⟩, ?_⟩
    refine lc_list (xs := ns.map V.int) (fun i ys σ H' => H' = H ∧ ys = ((ns.take i).map fun i => decide (0 ≤ i ∧ i < m)).map V.bl ∧ ∃ o, σ = [o, some (V.int m)]) ⟨rfl, rfl, _, rfl⟩ (small (by rw [List.length_map]; omega)) (fun i ys σ H' e => ?_) (fun i ys σ H' e => by rw [e.1]; exact SqL.of ha) (fun i x ys σ H' C hx e hC => ?_) (fun ys σ H' e p3 hp3 => ?_)
    · rw [e.2.1, List.length_map, List.length_map, List.length_take]; omega
    · obtain ⟨rfl, rfl, o, rfl⟩ := e
      rw [List.getElem?_map] at hx
      obtain ⟨n1, h1, rfl⟩ := Option.map_eq_some_iff.mp hx
      obtain ⟨hil, hie⟩ := List.getElem?_eq_some_iff.mp h1
      simp only [gName, tCall, tCons, tVar, List.set_cons_zero, List.getElem?_cons_zero, Option.some.injEq, List.getElem?_cons_succ, tNil, spBeI, List.append_nil, List.cons.injEq, and_true, and_assoc, exists_and_left, exists_eq_left', V.int.injEq]
      refine hC _ _ _ ⟨rfl, ?_, _, rfl⟩
      rw [List.take_succ_eq_append_getElem hil, hie, List.map_append, List.map_append]
      rfl
    · obtain ⟨rfl, rfl, o, rfl⟩ := e
      rw [List.length_map, List.take_of_length_le (Nat.le_refl _)]
      exact fin _ p3 (same_new hp3 _) upd_same
  | true =>
    refine .inr ⟨⟨_, SqT.of ha⟩, ?_⟩
    refine lc_tup (xs := ns.map V.int) (fun i ys σ H' => H' = H ∧ ys = ((ns.take i).map fun i => decide (0 ≤ i ∧ i < m)).map V.bl ∧ ∃ o, σ = [o, some (V.int m)]) ⟨rfl, rfl, _, rfl⟩ (small (by rw [List.length_map]; omega)) (fun i ys σ H' e => ?_) (fun i ys σ H' e => by rw [e.1]; exact SqT.of ha) (fun i x ys σ H' C hx e hC => ?_) (fun ys σ H' e p3 hp3 => ?_)
    · rw [e.2.1, List.length_map, List.length_map, List.length_take]; omega
    · obtain ⟨rfl, rfl, o, rfl⟩ := e
      rw [List.getElem?_map] at hx
      obtain ⟨n1, h1, rfl⟩ := Option.map_eq_some_iff.mp hx
      obtain ⟨hil, hie⟩ := List.getElem?_eq_some_iff.mp h1
      simp only [gName, tCall, tCons, tVar, List.set_cons_zero, List.getElem?_cons_zero, Option.some.injEq, List.getElem?_cons_succ, tNil, spBeI, List.append_nil, List.cons.injEq, and_true, and_assoc, exists_and_left, exists_eq_left', V.int.injEq]
      refine hC _ _ _ ⟨rfl, ?_, _, rfl⟩
      rw [List.take_succ_eq_append_getElem hil, hie, List.map_append, List.map_append]
      rfl
    · obtain ⟨rfl, rfl, o, rfl⟩ := e
      rw [List.length_map, List.take_of_length_le (Nat.le_refl _)]
      exact fin _ p3 (same_new hp3 _) upd_same
theorem ok_are_clashes (bi : Bi mg) (h_are_spots : Has P w K mg base 3 "are_spots" ["many", "spots"] (spAs K)) (h_is_rising : Has P w K mg base 1 "is_rising" ["things"] (spRs K)) (F : Fun K "are_clashes" "are_clashes" s_are_clashes f fd) : FnOk P w K mg base CX0 4 f fd ["many", "clashes"] (spAc K) := by
  refine F.ok sc_are_clashes (fun vs H Q E h => ?_) (fun cdv A outer s H vs Q E hr h => ?_)
  · obtain ⟨m, a, us, ps, rfl, _⟩ := h
    rfl
  obtain ⟨m, a, us, ps, rfl, ha, hd, hl, q⟩ := h
  refine ⟨_, (pss_one (ps_ret (pe_and (pe_callB call_all rfl bi.all bt_all (pa_cons (pe_comp ["pair"] ["many"] [0] (pi_list (pv 1)) (fun _ _ _ _ nd => pg_name (i := 0) nd rfl (Or.inl rfl)) (fun _ _ _ _ => pif_nil) (fun _ _ _ _ => (pe_callH h_are_spots (hr.mono (by omega)) rfl (pa_cons (pv 1) (pa_cons (pv 0) pa_nil))))) pa_nil)) (pe_one (pe_callH h_is_rising (hr.mono (by omega)) rfl (pa_cons (pv 1) pa_nil)))))), ?_⟩
  simp only [tRet, tAndV, tCB, tCons, cx_K, L2.start, List.map_cons, List.map_nil, List.length_cons, List.length_nil, Nat.reduceAdd, Nat.reduceSub, List.replicate, List.append_nil, tNil, cx_calm, List.cons.injEq, and_true, V.bl.injEq, tCall, tVar, List.getElem?_cons_succ, List.getElem?_cons_zero, Option.some.injEq, exists_eq_left', exists_and_left, true_and, tLC_eq, iList, V.ref.injEq]
  have hul : us.length = ps.length := by have := DAts.length hd; rwa [List.length_map] at this
  refine ⟨⟨_, SqL.of ha⟩, ?_⟩
  refine lc_list (xs := us) (fun i ys σ H' => Same H H' ∧ ys = ((ps.take i).map fun p => spB m [p.1, p.2]).map V.bl ∧ ∃ o, σ = [o, some (V.int m)]) ⟨Same.refl _, rfl, _, rfl⟩ (small (by omega)) (fun i ys σ H' e => ?_) (fun i ys σ H' e => SqL.of (e.1 _ _ ha)) (fun i x ys σ H' C hx e hC => ?_) (fun ys σ H' e p3 hp3 => ?_)
  · rw [e.2.1, List.length_map, List.length_map, List.length_take]; omega
  · obtain ⟨es, rfl, o, rfl⟩ := e
    obtain ⟨p, hp, hpd⟩ := mapGetV hd hx
    obtain ⟨pa, rfl, hpa⟩ := i2At hpd
    obtain ⟨hil, hie⟩ := List.getElem?_eq_some_iff.mp hp
    simp only [gName, tCall, tCons, tVar, List.set_cons_zero, List.getElem?_cons_succ, List.getElem?_cons_zero, Option.some.injEq, tNil, List.append_nil, exists_eq_left']
    refine ⟨true, m, pa, [p.1, p.2], rfl, es _ _ hpa, fun _ => by simp, by simp, fun H3 s3 => hC _ _ _ ⟨es.trans s3, ?_, _, rfl⟩⟩
    rw [List.take_succ_eq_append_getElem hil, hie, List.map_append, List.map_append]
    rfl
  obtain ⟨es, rfl, o, rfl⟩ := e
  rw [hul, List.take_of_length_le (Nat.le_refl _)]
  have s3 := es.trans (same_new hp3 (.lst ((ps.map fun p => spB m [p.1, p.2]).map V.bl)))
  refine ⟨p3, rfl, _, SqL.of upd_same, ?_⟩
  rw [show ((ps.map fun p => spB m [p.1, p.2]).all id) = (ps.all fun p => spB m [p.1, p.2]) by rw [List.all_map]; rfl]
  unfold clB at q
  split
  · rename_i h
    rw [h, Bool.true_and] at q
    refine ⟨false, a, us, fun i => HT.lexLt [(ps.getD i (0, 0)).1, (ps.getD i (0, 0)).2] [(ps.getD (i + 1) (0, 0)).1, (ps.getD (i + 1) (0, 0)).2], rfl, s3 _ _ ha, (fun z => nomatch z), by omega, fun i x y hx hy => .inr (.inr ?_), fun H' e => ?_⟩
    · obtain ⟨p, hp, hpd⟩ := mapGetV hd hx
      obtain ⟨pa, rfl, hpa⟩ := i2At hpd
      obtain ⟨r, hr', hrd⟩ := mapGetV hd hy
      obtain ⟨ra, rfl, hra⟩ := i2At hrd
      exact ⟨pa, ra, [p.1, p.2], [r.1, r.2], rfl, rfl, SqT.of (s3 _ _ hpa), SqT.of (s3 _ _ hra), by show HT.lexLt [(ps.getD i (0, 0)).1, (ps.getD i (0, 0)).2] [(ps.getD (i + 1) (0, 0)).1, (ps.getD (i + 1) (0, 0)).2] = _; rw [List.getD_eq_getElem?_getD, List.getD_eq_getElem?_getD, hp, hr']; rfl⟩
    · rw [hul]
      exact q _ (s3.trans e)
  · rename_i h
    rw [Bool.not_eq_true] at h
    rw [h, Bool.false_and] at q
    exact q _ s3
end
end C
set_option Elab.async false
set_option linter.all false
set_option maxRecDepth 100000
set_option maxHeartbeats 8000000
namespace C
open PySem L2
seal PE PT PW PA PS PSs PG PGs PI PPs PO PSet PIf
abbrev s_Floor_is_full : Stmt := inClass (top 13) 3
theorem sc_Floor_is_full : FnScope ["self", "spots"] ["self", "spots"] (defScope s_Floor_is_full) := ⟨rfl, rfl, rfl, by decide +kernel, rfl, by decide +kernel, by decide +kernel⟩
def spFu (C : Addr) : Sp := fun vs H Q _ => ∃ (r : Addr) (m s : Nat) (ps : List (Nat × Nat)) (xs : List Nat), vs = [.ref r, .int s] ∧ FlAt C H r m ps ∧ m ≤ 90 ∧ Bits s xs ∧ (∀ x ∈ xs, x < m) ∧ ∀ H', Same H H' → Q (.bl (decide (cnt m ps (cnt m ps xs) = xs))) H'
theorem rise_ext : ∀ {l m : List Nat}, l.Pairwise (· < ·) → m.Pairwise (· < ·) → (∀ x, x ∈ l ↔ x ∈ m) → l = m
  | [], [], _, _, _ => rfl
  | [], y :: m, _, _, h => by have := (h y).mpr List.mem_cons_self; cases this
  | x :: l, [], _, _, h => by have := (h x).mp List.mem_cons_self; cases this
  | x :: l, y :: m, hl, hm, h => by
    obtain ⟨h1, h2⟩ := List.pairwise_cons.mp hl
    obtain ⟨h3, h4⟩ := List.pairwise_cons.mp hm
    have e : x = y := by
      rcases List.mem_cons.mp ((h x).mp List.mem_cons_self) with e | e
      · exact e
      · rcases List.mem_cons.mp ((h y).mpr List.mem_cons_self) with e2 | e2
        · exact e2.symm
        · have a := h3 x e
          have b := h1 y e2
          omega
    subst e
    rw [rise_ext h2 h4 fun z => ⟨fun hz => ?_, fun hz => ?_⟩]
    · rcases List.mem_cons.mp ((h z).mp (List.mem_cons_of_mem _ hz)) with e | e
      · have := h1 z hz; omega
      · exact e
    · rcases List.mem_cons.mp ((h z).mpr (List.mem_cons_of_mem _ hz)) with e | e
      · have := h3 z hz; omega
      · exact e
section
variable {P : Program} {w : World} {K : PySem.W.Frag} {mg : Str → Option Value} {base : Heap} {f : Addr} {fd : FuncData}
theorem ok_is_full {C : Addr} (T : FlC K C) (bi : Bi mg) (h_Floor_counter_of : HasM P w K mg base 2 C "counter_of" ["self", "spots"] (spCn C)) (F : Fun K "is_full" "Floor.is_full" s_Floor_is_full f fd) : FnOk P w K mg base CX0 3 f fd ["self", "spots"] (spFu C) := by
  refine F.ok sc_Floor_is_full (fun vs H Q E h => ?_) (fun cdv A outer s H vs Q E hr h => ?_)
  · obtain ⟨r, m, s', ps, xs, rfl, _⟩ := h
    rfl
  obtain ⟨r, m, s', ps, xs, rfl, hfl, hm, hb, hx, q⟩ := h
  have cl_Floor := T.cl
  refine ⟨_, (pss_one (ps_ret (pe_cmpR op_eq (pe_methH h_Floor_counter_of cl_Floor (hr.mono (by omega)) (pv 0) (pa_cons (pe_methH h_Floor_counter_of cl_Floor (hr.mono (by omega)) (pv 0) (pa_cons (pv 1) pa_nil)) pa_nil)) (pv 1) (nomark _)))), ?_⟩
  simp only [tRet, tOp, tMeth, tVar, L2.start, List.map_cons, List.map_nil, List.length_cons, List.length_nil, Nat.reduceAdd, Nat.reduceSub, List.replicate, List.append_nil, List.getElem?_cons_zero, Option.some.injEq, tCons, List.getElem?_cons_succ, tNil, rEq, exists_eq_left', exists_and_left, V.ref.injEq]
  obtain ⟨dx, lx, cs, hr', hl', hmk⟩ := id hfl
  refine ⟨_, _, hr', fl_no _ _ (by decide +kernel) (by decide +kernel), _, _, hr', fl_no _ _ (by decide +kernel) (by decide +kernel), ?_⟩
  refine ⟨r, m, s', ps, xs, rfl, hfl, hm, hb, hx, fun c H1 s1 hc => ?_⟩
  refine ⟨r, m, c, ps, cnt m ps xs, rfl, hfl.same s1, hm, ⟨cnt_rise .., hc⟩, fun x hx => cnt_lt hx, fun c2 H2 s2 hc2 => ⟨rfl, ?_⟩⟩
  have e : decide (V.int (c2 : Int) = V.int (s' : Int)) = decide (cnt m ps (cnt m ps xs) = xs) := by
    rw [decide_eq_decide]
    constructor
    · intro h
      have h : c2 = s' := by have := V.int.inj h; omega
      refine rise_ext (cnt_rise ..) hb.1 fun x => ?_
      have h1 := hc2 x
      rw [h, hb.2 x] at h1
      exact (decide_eq_decide.mp h1).symm
    · intro h
      have h2 : c2 = s' := Nat.eq_of_testBit_eq fun i => by rw [hc2 i, hb.2 i, h]
      rw [h2]
  rw [e]
  exact q _ (s1.trans s2)
end
end C
set_option Elab.async false
set_option linter.all false
set_option maxRecDepth 100000
set_option maxHeartbeats 8000000
namespace C
open PySem L2
seal PE PT PW PA PS PSs PG PGs PI PPs PO PSet PIf
abbrev s_is_name : Stmt := top 8
theorem sc_is_name : FnScope ["text"] ["text"] (defScope s_is_name) := ⟨rfl, rfl, rfl, by decide +kernel, rfl, by decide +kernel, by decide +kernel⟩
theorem big {n : Nat} (h : n ≤ 1000000) : n ≤ sizeLine := Nat.le_trans h (by decide)
def inL (c : Nat) : Bool := !(Builtin.Str.occurrences "abcdefghijklmnopqrstuvwxyz" ⟨#[c]⟩ 0 ("abcdefghijklmnopqrstuvwxyz" : Str).length 1).isEmpty
theorem inL_eq (c : Nat) : inL c = isL c := by
  have e : ("abcdefghijklmnopqrstuvwxyz" : Str).cps.toList = (List.range 26).map (· + 97) := by decide +kernel
  rw [Bool.eq_iff_iff]
  unfold inL
  rw [StrLaws.found_iff, isL_iff]
  constructor
  · rintro ⟨i, h1, h2⟩
    have := (StrLaws.subAt_one "abcdefghijklmnopqrstuvwxyz" c i).mp ⟨h1, h2⟩
    rw [e] at this
    have hm := List.mem_of_getElem? this
    obtain ⟨j, hj, rfl⟩ := List.mem_map.mp hm
    have := List.mem_range.mp hj
    omega
  · intro h
    refine ⟨c - 97, (StrLaws.subAt_one "abcdefghijklmnopqrstuvwxyz" c (c - 97)).mpr ?_⟩
    rw [e, List.getElem?_map, List.getElem?_range (by omega)]
    show some (c - 97 + 97) = some c
    rw [Nat.sub_add_cancel h.1]
def isN (x : Str) : Bool := decide (1 ≤ x.length) && decide (x.length ≤ 8) && x.cps.toList.all inL && !decide (x = "none") && !decide (x = "all")
def spIs : Sp := fun vs H Q _ => ∃ x : Str, vs = [.str x] ∧ x.length ≤ 5000 ∧ ∀ H', Same H H' → Q (.bl (isN x)) H'
theorem isN_no {x : Str} (h : ¬ (1 ≤ x.length ∧ x.length ≤ 8)) : isN x = false := by
  unfold isN
  by_cases h1 : 1 ≤ x.length
  · have h2 : ¬ x.length ≤ 8 := fun z => h ⟨h1, z⟩
    simp [h2]
  · simp [h1]
section
variable {P : Program} {w : World} {K : PySem.W.Frag} {mg : Str → Option Value} {base : Heap} {f : Addr} {fd : FuncData}
theorem ok_is_name (bi : Bi mg) {aW : Addr} (g_LETTERS : Gc mg "LETTERS" (.str "abcdefghijklmnopqrstuvwxyz")) (g_LONGEST_NAME : Gc mg "LONGEST_NAME" (.int 8)) (g_WORDS : Gc mg "WORDS" (.ref aW)) (sW : ∀ H, SqT K H aW [.str "none", .str "all"])
    (F : Fun K "is_name" "is_name" s_is_name f fd) : FnOk P w K mg base CX0 1 f fd ["text"] spIs := by
  refine F.ok sc_is_name (fun vs H Q E h => ?_) (fun cdv A outer s H vs Q E hr h => ?_)
  · obtain ⟨x, rfl, _⟩ := h
    rfl
  obtain ⟨x, rfl, hx, q⟩ := h
  refine ⟨_, (pss_cons (ps_if (PW.pt (pw_or (pt_not (pt_chain op_le op_le pe_int (pe_callB call_len rfl bi.len bt_len (pa_cons (pv 0) pa_nil)) (pe_gc g_LONGEST_NAME rfl))) (pw_or1 (pt_cmpR op_in_seq (pv 0) (pe_gc g_WORDS rfl) (by with_unfolding_all rfl))))) (pss_one (ps_ret pe_bl)) pss_nil) (pss_one (ps_ret (pe_callB call_all rfl bi.all bt_all (pa_cons (pe_comp ["sign"] [] [] (pi_str (pv 0)) (fun _ _ _ _ nd => pg_name (i := 0) nd rfl (Or.inl rfl)) (fun _ _ _ _ => pif_nil) (fun _ _ _ _ => (pe_cmpR op_in_str (pv 0) (pe_gc g_LETTERS rfl) (by with_unfolding_all rfl)))) pa_nil))))), ?_⟩
  simp only [tSeq, tIfS, tOr, tNot, tTest, tChain, tC, tCB, tCons, tVar, L2.start, List.map_cons, List.map_nil, List.length_cons, List.length_nil, Nat.reduceAdd, Nat.reduceSub, List.replicate, List.append_nil, List.getElem?_cons_zero, Option.some.injEq, tNil, List.cons.injEq, and_true, cx_K, rI0, V.int.injEq, V.bl.injEq, Bool.not_eq_true', tRet, tNext, exists_and_left, cx_calm, true_and, tLC_eq, iStr, exists_eq_left', V.str.injEq, if_true, tOp, decide_eq_false_iff_not, decide_eq_true_eq, lenV_str, and_assoc, exists_eq_left]
  refine ⟨big (by omega), ?_⟩
  have no : ¬ (1 ≤ x.length ∧ x.length ≤ 8) → Q (.bl false) H := fun h => by rw [← isN_no h]; exact q H (Same.refl H)
  split
  · rename_i h1
    split
    · rename_i h2
      exact no (fun z => h2 (by omega))
    · rename_i h2
      refine ⟨aW, _, rfl, .inr (sW H), rfl, rfl, _, rfl, ?_⟩
      have e : (if false = true then !inV (V.str x) [V.str "none", V.str "all"] else inV (V.str x) [V.str "none", V.str "all"]) = (decide (x = "none") || decide (x = "all")) := by
        simp only [Bool.false_eq_true, if_false, inV, List.any_cons, List.any_nil, eqV_str, Bool.or_false]
      rw [e]
      split
      · rename_i h3
        have e2 : isN x = false := by
          unfold isN
          rcases (Bool.or_eq_true _ _).mp h3 with h3 | h3
          · rw [h3, Bool.not_true, Bool.and_false, Bool.false_and]
          · rw [h3, Bool.not_true, Bool.and_false]
        rw [← e2]
        exact q H (Same.refl H)
      · rename_i h3
        refine lc_str (z := x) (fun i ys σ H' => H' = H ∧ ys = ((x.cps.toList.take i).map inL).map V.bl ∧ ∃ o, σ = [o]) ⟨rfl, rfl, none, rfl⟩ (big (show x.length ≤ 1000000 by omega)) (fun i ys σ H' e => ?_) (fun i c ys σ H' C hc e hC => ?_) (fun ys σ H' e p hp => ?_)
        · rw [e.2.1, List.length_map, List.length_map, List.length_take]
          omega
        · obtain ⟨eH, e, o, rfl⟩ := e
          simp only [gName, tOp, tVar, List.set_cons_zero, List.getElem?_cons_zero, Option.some.injEq, tC, V.str.injEq, exists_eq_left']
          refine hC _ _ _ ⟨eH, ?_, _, rfl⟩
          have hi : i < x.cps.toList.length := by simpa using (Array.getElem?_eq_some_iff.mp hc).1
          have hc' : x.cps.toList[i] = c := by simpa using (Array.getElem?_eq_some_iff.mp hc).2
          rw [e, List.take_succ_eq_append_getElem hi, List.map_append, List.map_append, hc']
          rfl
        · obtain ⟨rfl, e, _⟩ := e
          refine ⟨p, rfl, x.cps.toList.map inL, SqL.of ?_, ?_⟩
          · rw [upd_same, e, List.take_of_length_le (by simp)]
          · have e2 : isN x = (x.cps.toList.map inL).all id := by
              have h4 := Bool.or_eq_false_iff.mp (Bool.eq_false_iff.mpr h3)
              unfold isN
              rw [h4.1, h4.2, decide_eq_true (show 1 ≤ x.length by omega), decide_eq_true (show x.length ≤ 8 by omega), List.all_map]
              simp only [Bool.true_and, Bool.not_false, Bool.and_true]
              rfl
            rw [← e2]
            exact q _ (same_new hp _)
  · rename_i h1
    exact no (fun z => h1 (by omega))
end
abbrev s_is_world : Stmt := top 17
theorem sc_is_world : FnScope ["world", "many", "floor"] ["world"] (defScope s_is_world) := ⟨rfl, rfl, rfl, by decide +kernel, rfl, by decide +kernel, by decide +kernel⟩
abbrev Gv := Int × List (Int × Int) × List (Str × List Int)
def dRI (r : Str × List Int) : Dt := .tup [.str r.1, .lst (r.2.map Dt.int)]
def dG (g : Gv) : Dt := .tup [.int g.1, .lst (g.2.1.map dI2), .lst (g.2.2.map dRI)]
structure GB (g : Gv) : Prop where
  m : g.1 ≤ 90
  ps : g.2.1.length ≤ 1000
  rs : g.2.2.length ≤ 100
  r : ∀ r ∈ g.2.2, r.1.length ≤ 100 ∧ r.2.length ≤ 1000
def nats (ns : List Int) : List Nat := ns.map Int.toNat
def natp (ps : List (Int × Int)) : List (Nat × Nat) := ps.map fun p => (p.1.toNat, p.2.toNat)
def nmAt (zs : List Str) (i : Nat) : List Nat := (zs.getD i "").cps.toList
theorem nmAt_eq {zs : List Str} {i : Nat} {z : Str} (h : zs[i]? = some z) : nmAt zs i = z.cps.toList := by
  unfold nmAt
  rw [List.getD_eq_getElem?_getD, h]
  rfl
def riS (zs : List Str) : Bool := (List.range (zs.length - 1)).all fun i => decide (nmAt zs i < nmAt zs (i + 1))
def fuB (m : Int) (ps : List (Int × Int)) (ns : List Int) : Bool := decide (cnt m.toNat (natp ps) (cnt m.toNat (natp ps) (nats ns)) = nats ns)
def wB (g : Gv) : Bool := decide (1 ≤ g.1) && (clB g.1 g.2.1 && ((g.2.2.all fun r => isN r.1 && spB g.1 r.2) && (riS (g.2.2.map (·.1)) && g.2.2.all fun r => fuB g.1 g.2.1 r.2)))
def spIw (K : PySem.W.Frag) : Sp := fun vs H Q _ => ∃ (wa : Addr) (g : Gv), vs = [.ref wa] ∧ DAt H (dG g) (.ref wa) ∧ GB g ∧ ∀ H', Same H H' → Q (.bl (wB g)) H'
theorem gAt {H : Hp} {g : Gv} {wa : Addr} (h : DAt H (dG g) (.ref wa)) : ∃ ca la us rs, H wa = some (.tup [.int g.1, .ref ca, .ref la]) ∧ H ca = some (.lst us) ∧ DAts H (g.2.1.map dI2) us ∧ H la = some (.lst rs) ∧ DAts H (g.2.2.map dRI) rs := by
  obtain ⟨a, vs, e, ha, x, r, rfl, hx, y, r2, rfl, ⟨ca, us, rfl, hca, hus⟩, z, r3, rfl, ⟨la, rs, rfl, hla, hrs⟩, hr⟩ := h
  have hx : x = V.int g.1 := hx
  have hr : r3 = [] := hr
  subst hx hr
  cases e
  exact ⟨ca, la, us, rs, ha, hca, hus, hla, hrs⟩
theorem intsOf {H : Hp} : ∀ {ns : List Int} {us : List V}, DAts H (ns.map Dt.int) us → us = ns.map V.int
  | [], us, h => h
  | n :: ns, us, h => by
    obtain ⟨x, r, rfl, hx, hr⟩ := h
    have hx : x = V.int n := hx
    rw [hx, intsOf hr, List.map_cons]
theorem riAt {H : Hp} {r : Str × List Int} {v : V} (h : DAt H (dRI r) v) : ∃ a l, v = .ref a ∧ H a = some (.tup [.str r.1, .ref l]) ∧ H l = some (.lst (r.2.map V.int)) := by
  obtain ⟨a, vs, rfl, ha, x, t, rfl, hx, y, t2, rfl, ⟨l, us, rfl, hl, hus⟩, hr⟩ := h
  have hx : x = V.str r.1 := hx
  have hr : t2 = [] := hr
  subst hx hr
  rw [intsOf hus] at hl
  exact ⟨a, l, rfl, ha, hl⟩
theorem riB_cons (x y : Int) (l : List Int) : riB (x :: y :: l) = (decide (x < y) && riB (y :: l)) := by
  unfold riB
  show (List.range (l.length + 1)).all _ = _
  rw [List.range_succ_eq_map, List.all_cons, List.all_map]
  rfl
theorem riB_pw : ∀ {ns : List Int}, riB ns = true → ns.Pairwise (· < ·)
  | [], _ => .nil
  | [x], _ => List.pairwise_singleton _ _
  | x :: y :: l, h => by
    rw [riB_cons, Bool.and_eq_true, decide_eq_true_eq] at h
    have ih := riB_pw h.2
    refine List.pairwise_cons.mpr ⟨fun z hz => ?_, ih⟩
    rcases List.mem_cons.mp hz with e | e
    · rw [e]; exact h.1
    · have := (List.pairwise_cons.mp ih).1 z e; omega
theorem spB_ok {m : Int} {ns : List Int} (h : spB m ns = true) : (∀ i ∈ ns, 0 ≤ i ∧ i < m) ∧ ns.Pairwise (· < ·) := by
  unfold spB at h
  rw [Bool.and_eq_true, List.all_eq_true] at h
  exact ⟨fun i hi => of_decide_eq_true (h.1 i hi), riB_pw h.2⟩
theorem nats_map {ns : List Int} (h : ∀ i ∈ ns, 0 ≤ i) : ns.map V.int = (nats ns).map nV := by
  unfold nats
  rw [List.map_map]
  refine List.map_congr_left fun i hi => ?_
  have := h i hi
  show V.int i = V.int (i.toNat : Int)
  rw [Int.toNat_of_nonneg this]
theorem nats_ok {m : Int} {ns : List Int} (h : spB m ns = true) : (∀ x ∈ nats ns, x < m.toNat) ∧ (nats ns).Pairwise (· < ·) := by
  obtain ⟨h1, h2⟩ := spB_ok h
  constructor
  · intro x hx
    obtain ⟨i, hi, rfl⟩ := List.mem_map.mp hx
    have := h1 i hi
    omega
  · unfold nats
    rw [List.pairwise_map]
    exact h2.imp_of_mem fun {a b} ha hb hab => by have := h1 a ha; have := h1 b hb; omega
theorem clB_ok {m : Int} {ps : List (Int × Int)} (h : clB m ps = true) : ∀ p ∈ ps, 0 ≤ p.1 ∧ p.1 < p.2 ∧ p.2 < m := fun p hp => by
  unfold clB at h
  rw [Bool.and_eq_true, List.all_eq_true] at h
  obtain ⟨h1, h2⟩ := spB_ok (h.1 p hp)
  have a := h1 p.1 (by simp)
  have b := h1 p.2 (by simp)
  have c := (List.pairwise_cons.mp h2).1 p.2 (by simp)
  omega
theorem natp_map {m : Int} {ps : List (Int × Int)} (h : clB m ps = true) : ps.map dI2 = (natp ps).map dP2 := by
  unfold natp
  rw [List.map_map]
  refine List.map_congr_left fun p hp => ?_
  have := clB_ok h p hp
  show Dt.tup [.int p.1, .int p.2] = Dt.tup [.int (p.1.toNat : Int), .int (p.2.toNat : Int)]
  rw [Int.toNat_of_nonneg (by omega), Int.toNat_of_nonneg (by omega)]
theorem natp_ok {m : Int} {ps : List (Int × Int)} (h : clB m ps = true) : Ok2 m.toNat (natp ps) := fun p hp => by
  obtain ⟨r, hr, rfl⟩ := List.mem_map.mp hp
  have := clB_ok h r hr
  show r.1.toNat < r.2.toNat ∧ r.2.toNat < m.toNat
  omega
section
variable {P : Program} {w : World} {K : PySem.W.Frag} {mg : Str → Option Value} {base : Heap} {f : Addr} {fd : FuncData}
theorem ok_is_world {C : Addr} (T : FlC K C) (bi : Bi mg) (h_is_whole : Has P w K mg base 1 "is_whole" ["n"] spWhI) (h_are_clashes : Has P w K mg base 4 "are_clashes" ["many", "clashes"] (spAc K)) (h_is_name : Has P w K mg base 1 "is_name" ["text"] spIs) (h_are_spots : Has P w K mg base 3 "are_spots" ["many", "spots"] (spAs K)) (h_is_rising : Has P w K mg base 1 "is_rising" ["things"] (spRs K)) (h_Floor_init : HasI P w K mg base 1 C "Floor" ["self", "many", "clashes"] (spFI C)) (h_Floor_is_full : HasM P w K mg base 3 C "is_full" ["self", "spots"] (spFu C)) (h_mask_of : Has P w K mg base 1 "mask_of" ["numbers"] (spMask K)) (F : Fun K "is_world" "is_world" s_is_world f fd) : FnOk P w K mg base CX0 5 f fd ["world"] (spIw K) := by
  refine F.ok sc_is_world (fun vs H Q E h => ?_) (fun cdv A outer s H vs Q E hr h => ?_)
  · obtain ⟨wa, g, rfl, _⟩ := h
    rfl
  obtain ⟨wa, g, rfl, hg, gb, q⟩ := h
  have cl_Floor := T.cl
  refine ⟨_, (pss_cons (ps_set (i := 1) sc_is_world.nd rfl (Or.inr rfl) (pe_ix ix_tup (pv 0) pe_int (fun _ _ => rfl))) (pss_cons (ps_if (PW.pt (pw_or (pt_not (pt_val (pe_callH h_is_whole (hr.mono (by omega)) rfl (pa_cons (pv 1) pa_nil)))) (pw_or (pt_cmpR op_lt (pv 1) pe_int (nomark _)) (pw_or1 (pt_not (pt_val (pe_callH h_are_clashes (hr.mono (by omega)) rfl (pa_cons (pv 1) (pa_cons (pe_ix ix_tup (pv 0) pe_int (fun _ _ => rfl)) pa_nil))))))))) (pss_one (ps_ret pe_bl)) pss_nil) (pss_cons (ps_if (pt_not (pt_val (pe_callB call_all rfl bi.all bt_all (pa_cons (pe_comp ["name", "spots"] ["many"] [1] (pi_list (pe_ix ix_tup (pv 0) pe_int (fun _ _ => rfl))) (fun _ _ _ _ nd => pg_tupK (K := K) (n := 2) rfl (pgs_cons (pg_name (i := 0) nd rfl (Or.inl rfl)) (pgs_cons (pg_name (i := 1) nd rfl (Or.inl rfl)) pgs_nil))) (fun _ _ _ _ => pif_nil) (fun _ _ _ _ => (pe_and (pe_callH h_is_name (hr.mono (by omega)) rfl (pa_cons (pv 0) pa_nil)) (pe_one (pe_callH h_are_spots (hr.mono (by omega)) rfl (pa_cons (pv 2) (pa_cons (pv 1) pa_nil))))))) pa_nil)))) (pss_one (ps_ret pe_bl)) pss_nil) (pss_cons (ps_if (pt_not (pt_val (pe_callH h_is_rising (hr.mono (by omega)) rfl (pa_cons (pe_comp ["name", "spots"] [] [] (pi_list (pe_ix ix_tup (pv 0) pe_int (fun _ _ => rfl))) (fun _ _ _ _ nd => pg_tupK (K := K) (n := 2) rfl (pgs_cons (pg_name (i := 0) nd rfl (Or.inl rfl)) (pgs_cons (pg_name (i := 1) nd rfl (Or.inl rfl)) pgs_nil))) (fun _ _ _ _ => pif_nil) (fun _ _ _ _ => (pv 0))) pa_nil)))) (pss_one (ps_ret pe_bl)) pss_nil) (pss_cons (ps_set (i := 2) sc_is_world.nd rfl (Or.inr rfl) (pe_makeH h_Floor_init (hr.mono (by omega)) rfl (pa_cons (pv 1) (pa_cons (pe_ix ix_tup (pv 0) pe_int (fun _ _ => rfl)) pa_nil)))) (pss_one (ps_ret (pe_callB call_all rfl bi.all bt_all (pa_cons (pe_comp ["name", "spots"] ["floor"] [2] (pi_list (pe_ix ix_tup (pv 0) pe_int (fun _ _ => rfl))) (fun _ _ _ _ nd => pg_tupK (K := K) (n := 2) rfl (pgs_cons (pg_name (i := 0) nd rfl (Or.inl rfl)) (pgs_cons (pg_name (i := 1) nd rfl (Or.inl rfl)) pgs_nil))) (fun _ _ _ _ => pif_nil) (fun _ _ _ _ => (pe_methH h_Floor_is_full cl_Floor (hr.mono (by omega)) (pv 2) (pa_cons (pe_callH h_mask_of (hr.mono (by omega)) rfl (pa_cons (pv 1) pa_nil)) pa_nil)))) pa_nil))))))))), ?_⟩
  obtain ⟨ca, la, us, rs, hwa, hca, hus, hla, hrs⟩ := gAt hg
  have hul : us.length = g.2.1.length := by have := DAts.length hus; rwa [List.length_map] at this
  have hrl : rs.length = g.2.2.length := by have := DAts.length hrs; rwa [List.length_map] at this
  have at1' : ∀ {a b c : V}, atI [a, b, c] 1 = some b := atI_nat (j := 1) rfl
  have at2 : ∀ {a b c : V}, atI [a, b, c] 2 = some c := atI_nat (j := 2) rfl
  refine seq_abs fun N hN => ?_
  simp only [tAsg, tOp, tVar, L2.start, List.map_cons, List.map_nil, List.length_cons, List.length_nil, Nat.reduceAdd, Nat.reduceSub, List.replicate, List.cons_append, List.nil_append, List.getElem?_cons_zero, Option.some.injEq, tC, rIxT, V.int.injEq, cx_K, gName, List.set_cons_succ, List.set_cons_zero, exists_and_left, exists_eq_left', V.ref.injEq]
  refine ⟨_, SqT.of hwa, _, at0, hN _ _ ?_⟩
  clear hN
  refine seq_abs fun N hN => ?_
  simp only [tIfS, tOr, tNot, tB, tCall, tCons, tVar, List.getElem?_cons_succ, List.getElem?_cons_zero, Option.some.injEq, tNil, spWhI, List.append_nil, List.cons.injEq, and_true, V.bl.injEq, Bool.not_eq_true', tRet, tC, tNext, if_true, tTest, tOp, rI0, V.int.injEq, rIxT, cx_K, exists_and_left, exists_eq_left', V.ref.injEq, decide_eq_true_eq, Bool.true_eq_false, if_false]
  by_cases c1 : g.1 < 1
  · rw [if_pos c1]
    rw [show wB g = false by unfold wB; rw [decide_eq_false (by omega), Bool.false_and]] at q
    exact q _ (Same.refl _)
  rw [if_neg c1]
  have w1 : wB g = (clB g.1 g.2.1 && ((g.2.2.all fun r => isN r.1 && spB g.1 r.2) && (riS (g.2.2.map (·.1)) && g.2.2.all fun r => fuB g.1 g.2.1 r.2))) := by unfold wB; rw [decide_eq_true (by omega), Bool.true_and]
  refine ⟨_, SqT.of hwa, _, at1', ?_⟩
  refine ⟨g.1, ca, us, g.2.1, rfl, hca, hus, gb.ps, fun H1 s1 => ⟨_, rfl, ?_⟩⟩
  cases c2 : clB g.1 g.2.1 with
  | false =>
    rw [if_pos rfl]
    rw [w1, c2, Bool.false_and] at q
    exact q _ s1
  | true =>
  rw [if_neg (by decide)]
  rw [c2, Bool.true_and] at w1
  refine hN _ _ ?_
  clear hN
  refine seq_abs fun N hN => ?_
  simp only [tIfS, tNot, tB, tCB, tCons, cx_K, tNil, cx_calm, List.cons.injEq, and_true, V.bl.injEq, Bool.not_eq_true', tRet, tC, tNext, exists_eq_left', exists_and_left, true_and, tLC_eq, iList, tOp, tVar, List.getElem?_cons_zero, Option.some.injEq, rIxT, V.int.injEq, V.ref.injEq]
  refine ⟨_, SqT.of (s1 _ _ hwa), _, at2, la, rfl, ⟨_, SqL.of (s1 _ _ hla)⟩, ?_⟩
  refine lc_list (xs := rs) (fun i ys σ H' => Same H1 H' ∧ ys = ((g.2.2.take i).map fun r => isN r.1 && spB g.1 r.2).map V.bl ∧ ∃ o1 o2, σ = [o1, o2, some (V.int g.1)]) ⟨Same.refl _, rfl, _, _, rfl⟩ (small (by have := gb.rs; omega)) (fun i ys σ H' e => ?_) (fun i ys σ H' e => SqL.of ((s1.trans e.1) _ _ hla)) (fun i x ys σ H' C hx e hC => ?_) (fun ys σ H' e p3 hp3 => ?_)
  · rw [e.2.1, List.length_map, List.length_map, List.length_take]; omega
  · obtain ⟨es, rfl, o1, o2, rfl⟩ := e
    obtain ⟨r, hr', hrd⟩ := mapGetV hrs hx
    obtain ⟨ra, l, rfl, hra, hlr⟩ := riAt hrd
    obtain ⟨hil, hie⟩ := List.getElem?_eq_some_iff.mp hr'
    have hgr := gb.r r (List.mem_of_getElem? hr')
    simp only [gTup, V.ref.injEq, gCons, gName, gNil, tAndV, tCall, tCons, tVar, List.set_cons_zero, List.set_cons_succ, List.getElem?_cons_zero, Option.some.injEq, tNil, spIs, List.append_nil, List.cons.injEq, and_true, V.bl.injEq, List.getElem?_cons_succ, exists_eq_left', exists_and_left]
    refine ⟨_, SqT.of ((s1.trans es) _ _ hra), rfl, _, _, rfl, _, _, rfl, rfl, r.1, rfl, by omega, fun H2 s2 => ?_⟩
    split
    · rename_i h
      refine ⟨false, g.1, l, r.2, rfl, ((s1.trans es).trans s2) _ _ hlr, (fun z => nomatch z), hgr.2, fun H3 s3 => hC _ _ _ ⟨(es.trans s2).trans s3, ?_, _, _, rfl⟩⟩
      rw [List.take_succ_eq_append_getElem hil, hie, List.map_append, List.map_append, List.map_singleton, List.map_singleton, h, Bool.true_and]
    · rename_i h
      rw [Bool.not_eq_true] at h
      refine hC _ _ _ ⟨es.trans s2, ?_, _, _, rfl⟩
      rw [List.take_succ_eq_append_getElem hil, hie, List.map_append, List.map_append, List.map_singleton, List.map_singleton, h, Bool.false_and]
  obtain ⟨es, rfl, o1, o2, rfl⟩ := e
  rw [hrl, List.take_of_length_le (Nat.le_refl _)]
  have s2 := (s1.trans es).trans (same_new hp3 (.lst ((g.2.2.map fun r => isN r.1 && spB g.1 r.2).map V.bl)))
  refine ⟨p3, rfl, _, SqL.of upd_same, ?_⟩
  generalize upd H' p3 (.lst ((g.2.2.map fun r => isN r.1 && spB g.1 r.2).map V.bl)) = H2 at s2 ⊢
  rw [show ((g.2.2.map fun r => isN r.1 && spB g.1 r.2).all id) = (g.2.2.all fun r => isN r.1 && spB g.1 r.2) by rw [List.all_map]; rfl]
  cases c3 : (g.2.2.all fun r => isN r.1 && spB g.1 r.2) with
  | false =>
    rw [if_pos rfl]
    rw [w1, c3, Bool.false_and] at q
    exact q _ s2
  | true =>
  rw [if_neg (by decide)]
  rw [c3, Bool.true_and] at w1
  refine hN _ _ ?_
  clear hN
  refine seq_abs fun N hN => ?_
  simp only [tIfS, tNot, tB, tCall, tCons, cx_K, tNil, List.append_nil, Bool.not_eq_true', tRet, tC, tNext, tLC_eq, iList, tOp, tVar, List.getElem?_cons_zero, Option.some.injEq, rIxT, V.int.injEq, exists_and_left, exists_eq_left', V.ref.injEq]
  refine ⟨_, SqT.of (s2 _ _ hwa), _, at2, la, rfl, ⟨_, SqL.of (s2 _ _ hla)⟩, ?_⟩
  refine lc_list (xs := rs) (fun i ys σ H' => H' = H2 ∧ ys = ((g.2.2.take i).map (·.1)).map V.str ∧ ∃ o1 o2, σ = [o1, o2]) ⟨rfl, rfl, _, _, rfl⟩ (small (by have := gb.rs; omega)) (fun i ys σ H' e => ?_) (fun i ys σ H' e => by rw [e.1]; exact SqL.of (s2 _ _ hla)) (fun i x ys σ H' C hx e hC => ?_) (fun ys σ H' e p4 hp4 => ?_)
  · rw [e.2.1, List.length_map, List.length_map, List.length_take]; omega
  · obtain ⟨rfl, rfl, o1, o2, rfl⟩ := e
    obtain ⟨r, hr', hrd⟩ := mapGetV hrs hx
    obtain ⟨ra, l, rfl, hra, hlr⟩ := riAt hrd
    obtain ⟨hil, hie⟩ := List.getElem?_eq_some_iff.mp hr'
    simp only [gTup, V.ref.injEq, gCons, gName, gNil, tVar, List.set_cons_zero, List.set_cons_succ, List.getElem?_cons_zero, Option.some.injEq, exists_eq_left', exists_and_left]
    refine ⟨_, SqT.of (s2 _ _ hra), rfl, _, _, rfl, _, _, rfl, rfl, hC _ _ _ ⟨rfl, ?_, _, _, rfl⟩⟩
    rw [List.take_succ_eq_append_getElem hil, hie, List.map_append, List.map_append]
    rfl
  obtain ⟨rfl, rfl, o1, o2, rfl⟩ := e
  rw [hrl, List.take_of_length_le (Nat.le_refl _)]
  have s4 := s2.trans (same_new hp4 (.lst ((g.2.2.map (·.1)).map V.str)))
  refine ⟨false, p4, _, fun i => decide (nmAt (g.2.2.map (·.1)) i < nmAt (g.2.2.map (·.1)) (i + 1)), rfl, upd_same, (fun z => nomatch z), by rw [List.length_map, List.length_map]; have := gb.rs; omega, fun i x y hx hy => .inr (.inl ?_), fun H5 s5 => ?_⟩
  · rw [List.getElem?_map] at hx hy
    obtain ⟨n1, h1, rfl⟩ := Option.map_eq_some_iff.mp hx
    obtain ⟨n2, h2, rfl⟩ := Option.map_eq_some_iff.mp hy
    exact ⟨n1, n2, rfl, rfl, by show decide (nmAt (g.2.2.map (·.1)) i < nmAt (g.2.2.map (·.1)) (i + 1)) = _; rw [nmAt_eq h1, nmAt_eq h2]⟩
  have hri : ((List.range (((g.2.2.map (·.1)).map V.str).length - 1)).all fun i => decide (nmAt (g.2.2.map (·.1)) i < nmAt (g.2.2.map (·.1)) (i + 1))) = riS (g.2.2.map (·.1)) := by
    unfold riS
    rw [List.length_map]
  rw [hri]
  refine ⟨_, rfl, ?_⟩
  replace s5 := s4.trans s5
  cases c4 : riS (g.2.2.map (·.1)) with
  | false =>
    rw [if_pos rfl]
    rw [w1, c4, Bool.false_and] at q
    exact q _ s5
  | true =>
  rw [if_neg (by decide)]
  rw [c4, Bool.true_and] at w1
  refine hN _ _ ?_
  clear hN
  refine seq_abs fun N hN => ?_
  simp only [tAsg, tMake, tCons, tVar, List.getElem?_cons_succ, List.getElem?_cons_zero, Option.some.injEq, tOp, tC, rIxT, V.int.injEq, cx_K, tNil, List.append_nil, gName, List.set_cons_succ, List.set_cons_zero, exists_and_left, exists_eq_left', V.ref.injEq]
  have h90 := gb.m
  have hm0 : g.1 = ((g.1.toNat : Nat) : Int) := (Int.toNat_of_nonneg (by omega)).symm
  refine ⟨_, SqT.of (s5 _ _ hwa), _, at1', fun x dx hx hdx hne => ?_⟩
  have s6 : Same H5 (upd (upd H5 dx (.own x)) x (.ins C dx [])) := ((Same.refl H5).upd hdx).upd hx
  have k6 : upd (upd H5 dx (.own x)) x (.ins C dx []) x = some (.ins C dx []) := upd_same
  generalize upd (upd H5 dx (.own x)) x (.ins C dx []) = H6 at s6 k6 ⊢
  have hca5 := s5 _ _ hca
  have hcx : ca ≠ x := fun z => by rw [z, hx] at hca5; cases hca5
  refine ⟨x, dx, ca, g.1.toNat, us, natp g.2.1, by rw [← hm0], k6, hcx, s6 _ _ hca5, DAts.same (s5.trans s6) (by rw [← natp_map c2]; exact hus), natp_ok c2, by omega, fun H7 s7 hfl => ⟨rfl, hN _ _ ?_⟩⟩
  clear hN
  have s57 : Same H5 H7 := fun b o hb => s7 b o (s6 _ _ hb) (fun z => by rw [z, hx] at hb; cases hb)
  have s8 := s5.trans s57
  simp only [tRet, tCB, tCons, cx_K, tNil, cx_calm, List.cons.injEq, and_true, exists_and_left, true_and, tLC_eq, iList, tOp, tVar, List.getElem?_cons_zero, Option.some.injEq, tC, rIxT, V.int.injEq, exists_eq_left', V.ref.injEq]
  refine ⟨_, SqT.of (s8 _ _ hwa), _, at2, la, rfl, ⟨_, SqL.of (s8 _ _ hla)⟩, ?_⟩
  refine lc_list (xs := rs) (fun i ys σ H' => Same H7 H' ∧ ys = ((g.2.2.take i).map fun r => fuB g.1 g.2.1 r.2).map V.bl ∧ ∃ o1 o2, σ = [o1, o2, some (V.ref x)]) ⟨Same.refl _, rfl, _, _, rfl⟩ (small (by have := gb.rs; omega)) (fun i ys σ H' e => ?_) (fun i ys σ H' e => SqL.of ((s8.trans e.1) _ _ hla)) (fun i y ys σ H' C' hx' e hC => ?_) (fun ys σ H' e p3 hp3 => ?_)
  · rw [e.2.1, List.length_map, List.length_map, List.length_take]; omega
  · obtain ⟨es, rfl, o1, o2, rfl⟩ := e
    obtain ⟨r, hr', hrd⟩ := mapGetV hrs hx'
    obtain ⟨ra, l, rfl, hra, hlr⟩ := riAt hrd
    obtain ⟨hil, hie⟩ := List.getElem?_eq_some_iff.mp hr'
    have hsp : spB g.1 r.2 = true := by
      have := List.all_eq_true.mp c3 r (List.mem_of_getElem? hr')
      rw [Bool.and_eq_true] at this
      exact this.2
    obtain ⟨n1, n2⟩ := nats_ok hsp
    have hn0 := nats_map fun i hi => ((spB_ok hsp).1 i hi).1
    have s9 := s8.trans es
    have hfl9 := hfl.same es
    obtain ⟨dx', lx, cs, hr2, _, _⟩ := id hfl9
    simp only [gTup, V.ref.injEq, gCons, gName, gNil, tMeth, tVar, List.set_cons_zero, List.set_cons_succ, List.getElem?_cons_succ, List.getElem?_cons_zero, Option.some.injEq, tCons, tCall, tNil, List.append_nil, exists_eq_left', exists_and_left]
    refine ⟨_, SqT.of (s9 _ _ hra), rfl, _, _, rfl, _, _, rfl, rfl, _, _, hr2, fl_no _ _ (by decide +kernel) (by decide +kernel), ?_⟩
    refine ⟨l, nats r.2, rfl, by rw [← hn0]; exact SqL.of (s9 _ _ hlr), fun n hn => by have := n1 n hn; omega, fun c hc => ?_⟩
    refine ⟨x, g.1.toNat, c, natp g.2.1, nats r.2, rfl, hfl9, by omega, ⟨n2, hc⟩, n1, fun H10 s10 => hC _ _ _ ⟨es.trans s10, ?_, _, _, rfl⟩⟩
    rw [List.take_succ_eq_append_getElem hil, hie, List.map_append, List.map_append]
    rfl
  obtain ⟨es, rfl, o1, o2, rfl⟩ := e
  rw [hrl, List.take_of_length_le (Nat.le_refl _)]
  refine ⟨p3, rfl, _, SqL.of upd_same, ?_⟩
  rw [show ((g.2.2.map fun r => fuB g.1 g.2.1 r.2).all id) = (g.2.2.all fun r => fuB g.1 g.2.1 r.2) by rw [List.all_map]; rfl, ← w1]
  exact q _ ((s8.trans es).trans (same_new hp3 _))
end
end C
set_option Elab.async false
set_option linter.all false
set_option maxRecDepth 100000
set_option maxHeartbeats 8000000
namespace C
open PySem L2
seal PE PT PW PA PS PSs PG PGs PI PPs PO PSet PIf
abbrev s_law_stands : Stmt := top 29
theorem sc_law_stands : FnScope ["world", "many", "a", "b", "k", "near", "last", "name", "spots"] ["world"] (defScope s_law_stands) := ⟨rfl, rfl, rfl, by decide +kernel, rfl, by decide +kernel, by decide +kernel⟩
theorem intsAt (H : Hp) : ∀ zs : List Int, DAts H (zs.map Dt.int) (zs.map V.int)
  | [] => rfl
  | z :: zs => ⟨_, _, rfl, rfl, intsAt H zs⟩
theorem deqs_ints : ∀ xs ys : List Int, deqs (xs.map Dt.int) (ys.map Dt.int) = (xs == ys)
  | [], [] => rfl
  | [], _ :: _ => rfl
  | _ :: _, [] => rfl
  | x :: xs, y :: ys => by
    show ((x == y) && deqs (xs.map Dt.int) (ys.map Dt.int)) = _
    rw [deqs_ints xs ys]
    rfl
def roB (m : Int) (ps : List (Int × Int)) : List Nat → List (Str × List Int) → Bool
  | _, [] => true
  | last, r :: rs => !(!decide (last < r.1.cps.toList)) && ((r.2.all fun i => decide (0 ≤ i) && decide (i < m)) && ((cnt m.toNat (natp ps) (cnt m.toNat (natp ps) (nats r.2))).map (fun n : Nat => (n : Int)) == r.2 && roB m ps r.1.cps.toList rs))
def stB (g : Gv) : Bool := decide (1 ≤ g.1) && ((g.2.1.all fun p => decide (0 ≤ p.1 ∧ p.1 < p.2 ∧ p.2 < g.1)) && (riP g.2.1 && roB g.1 g.2.1 [] g.2.2))
def spSn (K : PySem.W.Frag) : Sp := fun vs H Q _ => ∃ (wa : Addr) (g : Gv), vs = [.ref wa] ∧ DAt H (dG g) (.ref wa) ∧ GB g ∧ ∀ H', Same H H' → Q (.bl (stB g)) H'
section
variable {P : Program} {w : World} {K : PySem.W.Frag} {mg : Str → Option Value} {base : Heap} {f : Addr} {fd : FuncData}
theorem ok_stands (bi : Bi mg) (h_law_near : Has P w K mg base 1 "_law_near" ["many", "pairs"] spNr) (h_law_counter : Has P w K mg base 1 "_law_counter" ["near", "spots"] (spLc K)) (F : Fun K "_law_stands" "_law_stands" s_law_stands f fd) : FnOk P w K mg base CX0 5 f fd ["world"] (spSn K) := by
  refine F.ok sc_law_stands (fun vs H Q E h => ?_) (fun cdv A outer s H vs Q E hr h => ?_)
  · obtain ⟨wa, g, rfl, _⟩ := h
    rfl
  obtain ⟨wa, g, rfl, hg, gb, q⟩ := h
  refine ⟨_, (pss_cons (ps_set (i := 1) sc_law_stands.nd rfl (Or.inr rfl) (pe_ix ix_tup (pv 0) pe_int (fun _ _ => rfl))) (pss_cons (ps_if (pt_cmpR op_lt (pv 1) pe_int (nomark _)) (pss_one (ps_ret pe_bl)) pss_nil) (pss_cons (ps_for PassesOwn.never rfl (pi_list (pe_ix ix_tup (pv 0) pe_int (fun _ _ => rfl))) (pg_tup rfl (pgs_cons (pg_name (i := 2) sc_law_stands.nd rfl (Or.inl rfl)) (pgs_cons (pg_name (i := 3) sc_law_stands.nd rfl (Or.inl rfl)) pgs_nil))) (pss_one (ps_if (PW.pt (pw_or (pt_cmpR op_lt (pv 2) pe_int (nomark _)) (pw_or (pt_cmpR op_ge (pv 2) (pv 3) (nomark _)) (pw_or1 (pt_cmpR op_ge (pv 3) (pv 1) (nomark _)))))) (pss_one (ps_ret pe_bl)) pss_nil))) (pss_cons (ps_for PassesOwn.never rfl (pi_range2 rfl bi.range (pa_cons pe_int (pa_cons (pe_callB call_len rfl bi.len bt_len (pa_cons (pe_ix ix_tup (pv 0) pe_int (fun _ _ => rfl)) pa_nil)) pa_nil))) (pg_name (i := 4) sc_law_stands.nd rfl (Or.inl rfl)) (pss_one (ps_if (pt_cmpR (op_geT K hr.units0) (pe_ix ix_list (pe_ix ix_tup (pv 0) pe_int (fun _ _ => rfl)) (pe_op op_sub (pv 4) pe_int) (fun _ _ => rfl)) (pe_ix ix_list (pe_ix ix_tup (pv 0) pe_int (fun _ _ => rfl)) (pv 4) (fun _ _ => rfl)) (nomark _)) (pss_one (ps_ret pe_bl)) pss_nil))) (pss_cons (ps_set (i := 5) sc_law_stands.nd rfl (Or.inl rfl) (pe_callH h_law_near (hr.mono (by omega)) rfl (pa_cons (pv 1) (pa_cons (pe_ix ix_tup (pv 0) pe_int (fun _ _ => rfl)) pa_nil)))) (pss_cons (ps_set (i := 6) sc_law_stands.nd rfl (Or.inl rfl) pe_str) (pss_cons (ps_for PassesOwn.never rfl (pi_list (pe_ix ix_tup (pv 0) pe_int (fun _ _ => rfl))) (pg_tup rfl (pgs_cons (pg_name (i := 7) sc_law_stands.nd rfl (Or.inl rfl)) (pgs_cons (pg_name (i := 8) sc_law_stands.nd rfl (Or.inl rfl)) pgs_nil))) (pss_cons (ps_if (PW.pt (pw_or (pt_cmpR op_le_str (pv 7) (pv 6) (nomark _)) (pw_or1 (pt_not (pt_val (pe_callB call_all rfl bi.all bt_all (pa_cons (pe_comp ["spot"] ["many"] [1] (pi_list (pv 8)) (fun _ _ _ _ nd => pg_name (i := 0) nd rfl (Or.inl rfl)) (fun _ _ _ _ => pif_nil) (fun _ _ _ _ => (pe_and (pe_cmpR op_le pe_int (pv 0) (nomark _)) (pe_one (pe_cmpR op_lt (pv 0) (pv 1) (nomark _)))))) pa_nil))))))) (pss_one (ps_ret pe_bl)) pss_nil) (pss_cons (ps_if (pt_cmpR (op_neG hr.units) (pe_callH h_law_counter (hr.mono (by omega)) rfl (pa_cons (pv 5) (pa_cons (pe_callH h_law_counter (hr.mono (by omega)) rfl (pa_cons (pv 5) (pa_cons (pv 8) pa_nil))) pa_nil))) (pv 8) (nomark _)) (pss_one (ps_ret pe_bl)) pss_nil) (pss_one (ps_set (i := 6) sc_law_stands.nd rfl (Or.inl rfl) (pv 7)))))) (pss_one (ps_ret pe_bl))))))))), ?_⟩
  obtain ⟨ca, la, us, rs, hwa, hca, hus, hla, hrs⟩ := gAt hg
  have hul : us.length = g.2.1.length := by have := DAts.length hus; rwa [List.length_map] at this
  have hrl : rs.length = g.2.2.length := by have := DAts.length hrs; rwa [List.length_map] at this
  have at1' : ∀ {a b c : V}, atI [a, b, c] 1 = some b := atI_nat (j := 1) rfl
  have at2 : ∀ {a b c : V}, atI [a, b, c] 2 = some c := atI_nat (j := 2) rfl
  refine seq_abs fun N hN => ?_
  simp only [tAsg, tOp, tVar, L2.start, List.map_cons, List.map_nil, List.length_cons, List.length_nil, Nat.reduceAdd, Nat.reduceSub, List.replicate, List.cons_append, List.nil_append, List.getElem?_cons_zero, Option.some.injEq, tC, rIxT, V.int.injEq, cx_K, gName, List.set_cons_succ, List.set_cons_zero, exists_and_left, exists_eq_left', V.ref.injEq]
  refine ⟨_, SqT.of hwa, _, at0, hN _ _ ?_⟩
  clear hN
  refine seq_abs fun N hN => ?_
  simp only [tIfS, tTest, tOp, tVar, List.getElem?_cons_succ, List.getElem?_cons_zero, Option.some.injEq, tC, rI0, V.int.injEq, V.bl.injEq, tRet, tNext, exists_eq_left', decide_eq_true_eq, exists_and_left]
  by_cases c1 : g.1 < 1
  · rw [if_pos c1]
    rw [show stB g = false by unfold stB; rw [decide_eq_false (by omega), Bool.false_and]] at q
    exact q _ (Same.refl _)
  rw [if_neg c1]
  have w1 : stB g = ((g.2.1.all fun p => decide (0 ≤ p.1 ∧ p.1 < p.2 ∧ p.2 < g.1)) && (riP g.2.1 && roB g.1 g.2.1 [] g.2.2)) := by unfold stB; rw [decide_eq_true (by omega), Bool.true_and]
  refine hN _ _ ?_
  clear hN
  refine seq_join (fun σ H' => H' = H ∧ (g.2.1.all fun p => decide (0 ≤ p.1 ∧ p.1 < p.2 ∧ p.2 < g.1)) = true ∧ ∃ o1 o2, σ = [some (V.ref wa), some (V.int g.1), o1, o2, none, none, none, none, none]) (fun N hN => ?_) (fun σ H' h => ?_)
  · simp only [cx_K, tFor_eq, iList, tOp, tVar, List.getElem?_cons_zero, Option.some.injEq, tC, rIxT, V.int.injEq, exists_and_left, exists_eq_left', V.ref.injEq]
    refine ⟨_, SqT.of hwa, _, at1', ca, rfl, ⟨_, SqL.of hca⟩, ?_⟩
    refine fw_list (xs := us) (fun i σ H' => H' = H ∧ ((g.2.1.take i).all fun p => decide (0 ≤ p.1 ∧ p.1 < p.2 ∧ p.2 < g.1)) = true ∧ ∃ o1 o2, σ = [some (V.ref wa), some (V.int g.1), o1, o2, none, none, none, none, none]) ⟨rfl, rfl, _, _, rfl⟩ (fun i σ H' _ h => by rw [h.1]; exact SqL.of hca) (fun i x σ H' hx h => ?_) (fun σ H' h => ?_)
    · obtain ⟨rfl, hall, o1, o2, rfl⟩ := h
      obtain ⟨p, hp, hpd⟩ := mapGetV hus hx
      obtain ⟨pa, rfl, hpa⟩ := i2At hpd
      obtain ⟨hil, hie⟩ := List.getElem?_eq_some_iff.mp hp
      simp only [gTup, V.ref.injEq, gCons, gName, gNil, tIfS, tOr, tTest, tOp, tVar, List.set_cons_succ, List.set_cons_zero, List.getElem?_cons_succ, List.getElem?_cons_zero, Option.some.injEq, tC, rI0, V.int.injEq, V.bl.injEq, tRet, tNext, List.cons.injEq, and_true, true_and, exists_and_left, exists_eq_left', if_true, decide_eq_true_eq]
      refine ⟨_, SqT.of hpa, rfl, _, _, rfl, _, _, rfl, rfl, ?_⟩
      have bad : ¬ (0 ≤ p.1 ∧ p.1 < p.2 ∧ p.2 < g.1) → Q (V.bl false) H' := fun hb => by
        have e : (g.2.1.all fun p => decide (0 ≤ p.1 ∧ p.1 < p.2 ∧ p.2 < g.1)) = false := by
          rw [List.all_eq_false]
          exact ⟨p, List.mem_of_getElem? hp, by rw [decide_eq_true_eq]; exact hb⟩
        rw [w1, e, Bool.false_and] at q
        exact q _ (Same.refl _)
      refine ⟨p.1, rfl, ?_⟩
      by_cases h1 : p.1 < 0
      · rw [if_pos h1]; exact bad (by omega)
      rw [if_neg h1]
      refine ⟨p.1, rfl, p.2, rfl, ?_⟩
      by_cases h2 : p.2 ≤ p.1
      · rw [if_pos h2]; exact bad (by omega)
      rw [if_neg h2]
      refine ⟨p.2, rfl, ?_⟩
      by_cases h3 : g.1 ≤ p.2
      · rw [if_pos h3]; exact bad (by omega)
      rw [if_neg h3]
      refine ⟨?_, _, rfl⟩
      rw [List.take_succ_eq_append_getElem hil, hie, List.all_append, hall, Bool.true_and, List.all_cons, List.all_nil, Bool.and_true, decide_eq_true_eq]
      omega
    · obtain ⟨rfl, hall, o1, o2, rfl⟩ := h
      rw [hul, List.take_of_length_le (Nat.le_refl _)] at hall
      exact hN _ _ ⟨rfl, hall, _, _, rfl⟩
  obtain ⟨rfl, c2, o1, o2, rfl⟩ := h
  rw [c2, Bool.true_and] at w1
  refine seq_join (fun σ H'' => H'' = H' ∧ riP g.2.1 = true ∧ ∃ o1 o2 o3, σ = [some (V.ref wa), some (V.int g.1), o1, o2, o3, none, none, none, none]) (fun N hN => ?_) (fun σ H'' h => ?_)
  · simp only [cx_K, exists_and_left, tFor_eq, iRng2, tCons, tC, tCB, tOp, tVar, List.getElem?_cons_zero, Option.some.injEq, rIxT, V.int.injEq, tNil, List.cons.injEq, and_true, and_assoc, exists_eq_left', V.ref.injEq]
    refine ⟨_, SqT.of hwa, _, at1', us.length, .inl ⟨_, SqL.of hca, rfl⟩, by decide, by decide, by have := gb.ps; omega, by have := gb.ps; omega, ?_⟩
    refine fw_range (lo := 1) (n := ((us.length : Int) - 1).toNat) (fun i σ H'' => H'' = H' ∧ (∀ k, k < i → HT.lexLt [(g.2.1.getD k (0, 0)).1, (g.2.1.getD k (0, 0)).2] [(g.2.1.getD (k + 1) (0, 0)).1, (g.2.1.getD (k + 1) (0, 0)).2] = true) ∧ ∃ o3, σ = [some (V.ref wa), some (V.int g.1), o1, o2, o3, none, none, none, none]) ⟨rfl, (fun k hk => absurd hk (Nat.not_lt_zero _)), _, rfl⟩ (fun i σ H'' hi h => ?_) (fun σ H'' h => ?_)
    · obtain ⟨rfl, hall, o3, rfl⟩ := h
      have hi1 : i + 1 < us.length := by omega
      obtain ⟨p, hp, hpd⟩ := mapGetV hus (List.getElem?_eq_getElem (show i < us.length by omega))
      obtain ⟨pa, ep, hpa⟩ := i2At hpd
      obtain ⟨r, hr', hrd⟩ := mapGetV hus (List.getElem?_eq_getElem hi1)
      obtain ⟨ra, er, hra⟩ := i2At hrd
      have e0 : (1 : Int) + (i : Int) - 1 = ((i : Nat) : Int) := by omega
      have e1 : (1 : Int) + (i : Int) = ((i + 1 : Nat) : Int) := by omega
      simp only [gName, tIfS, tTest, tOp, tVar, List.set_cons_succ, List.set_cons_zero, List.getElem?_cons_zero, Option.some.injEq, tC, rIxT, V.int.injEq, List.getElem?_cons_succ, rI0, rIxL, rGeT, V.bl.injEq, tRet, tNext, List.cons.injEq, and_true, true_and, exists_eq_left', exists_and_left, V.ref.injEq]
      rw [e0, e1]
      refine ⟨_, SqT.of hwa, _, at1', ca, rfl, _, SqL.of hca, _, atI_nat (j := i) (by rw [List.getElem?_eq_getElem (show i < us.length by omega), ep]), _, SqT.of hwa, _, at1', ca, rfl, _, SqL.of hca, _, atI_nat (j := i + 1) (by rw [List.getElem?_eq_getElem hi1, er]), pa, rfl, ra, rfl, [p.1, p.2], SqT.of hpa, [r.1, r.2], SqT.of hra, ?_⟩
      have hpr : HT.lexLt [(g.2.1.getD i (0, 0)).1, (g.2.1.getD i (0, 0)).2] [(g.2.1.getD (i + 1) (0, 0)).1, (g.2.1.getD (i + 1) (0, 0)).2] = HT.lexLt [p.1, p.2] [r.1, r.2] := by rw [List.getD_eq_getElem?_getD, List.getD_eq_getElem?_getD, hp, hr']; rfl
      rw [ge_not_lt]
      cases hlt : HT.lexLt [p.1, p.2] [r.1, r.2] with
      | false =>
        rw [if_pos (show (!false) = true from rfl)]
        have e : riP g.2.1 = false := by
          unfold riP
          rw [List.all_eq_false]
          exact ⟨i, List.mem_range.mpr (by omega), by rw [hpr, hlt]; decide⟩
        rw [w1, e, Bool.false_and] at q
        exact q _ (Same.refl _)
      | true =>
        rw [if_neg (show ¬ (!true) = true by decide)]
        refine ⟨fun k hk => ?_, _, rfl⟩
        by_cases hki : k < i
        · exact hall k hki
        · have : k = i := by omega
          subst this
          rw [hpr, hlt]
    · obtain ⟨rfl, hall, o3, rfl⟩ := h
      refine hN _ _ ⟨rfl, ?_, _, _, _, rfl⟩
      unfold riP
      rw [List.all_eq_true]
      intro k hk
      rw [List.mem_range] at hk
      exact hall k (by omega)
  obtain ⟨rfl, c3, o3, o4, o5, rfl⟩ := h
  rw [c3, Bool.true_and] at w1
  have hcl : clB g.1 g.2.1 = true := by
    unfold clB
    rw [c3, Bool.and_true, List.all_eq_true]
    intro p hp
    have := of_decide_eq_true (List.all_eq_true.mp c2 p hp)
    unfold spB
    rw [riB_cons]
    simp [riB]
    omega
  have h90 := gb.m
  have hm0 : g.1 = ((g.1.toNat : Nat) : Int) := (Int.toNat_of_nonneg (by omega)).symm
  refine seq_abs fun N hN => ?_
  simp only [tAsg, tCall, tCons, tVar, List.getElem?_cons_succ, List.getElem?_cons_zero, Option.some.injEq, tOp, tC, rIxT, V.int.injEq, cx_K, tNil, List.append_nil, gName, List.set_cons_succ, List.set_cons_zero, exists_and_left, exists_eq_left', V.ref.injEq]
  refine ⟨_, SqT.of hwa, _, at1', ?_⟩
  refine ⟨g.1.toNat, ca, us, natp g.2.1, by rw [← hm0], by omega, hca, by rw [← natp_map hcl]; exact hus, natp_ok hcl, fun nr H1 s1 hnr => hN _ _ ?_⟩
  clear hN
  refine seq_abs fun N hN => ?_
  simp only [tAsg, tC, gName, List.set_cons_succ, List.set_cons_zero]
  refine hN _ _ ?_
  clear hN
  refine seq_join (fun σ H' => Same H1 H' ∧ roB g.1 g.2.1 [] g.2.2 = true ∧ ∃ o1 o2 o3 o4 o5 o6, σ = [some (V.ref wa), some (V.int g.1), o1, o2, o3, some (V.ref nr), o4, o5, o6]) (fun N hN => ?_) (fun σ H' h => ?_)
  · simp only [cx_K, exists_and_left, cx_calm, true_and, tFor_eq, iList, tOp, tVar, List.getElem?_cons_zero, Option.some.injEq, tC, rIxT, V.int.injEq, exists_eq_left', V.ref.injEq]
    refine ⟨_, SqT.of (s1 _ _ hwa), _, at2, la, rfl, ⟨_, SqL.of (s1 _ _ hla)⟩, ?_⟩
    refine fw_list (xs := rs) (fun i σ H' => Same H1 H' ∧ ∃ (last : Str) (o1 o2 o3 o5 o6 : Option V), roB g.1 g.2.1 [] g.2.2 = roB g.1 g.2.1 last.cps.toList (g.2.2.drop i) ∧ σ = [some (V.ref wa), some (V.int g.1), o1, o2, o3, some (V.ref nr), some (V.str last), o5, o6]) ⟨Same.refl _, "", _, _, _, _, _, rfl, rfl⟩ (fun i σ H' _ h => SqL.of ((s1.trans h.1) _ _ hla)) (fun i x σ H' hx h => ?_) (fun σ H' h => ?_)
    · obtain ⟨s2, last, o1, o2, o3, o5, o6, hro, rfl⟩ := h
      obtain ⟨r, hr', hrd⟩ := mapGetV hrs hx
      obtain ⟨ra, l, rfl, hra, hlr⟩ := riAt hrd
      obtain ⟨hil, hie⟩ := List.getElem?_eq_some_iff.mp hr'
      rw [List.drop_eq_getElem_cons hil, hie, roB, Bool.not_not] at hro
      have hgr := gb.r r (List.mem_of_getElem? hr')
      have s02 := s1.trans s2
      have bad : ∀ {J : Hp}, Same H1 J → roB g.1 g.2.1 [] g.2.2 = false → Q (V.bl false) J := fun sJ e => by
        rw [w1, e] at q
        exact q _ (s1.trans sJ)
      simp only [gTup, V.ref.injEq, gCons, gName, gNil, tSeq, tIfS, tOr, tTest, tOp, tVar, List.set_cons_succ, List.set_cons_zero, List.getElem?_cons_succ, List.getElem?_cons_zero, Option.some.injEq, V.bl.injEq, tRet, tC, tNext, tCall, tCons, tNil, List.append_nil, tAsg, List.cons.injEq, and_true, true_and, exists_and_left, exists_eq_left', if_true, tNot, tB, tCB, Bool.not_eq_true', tLC_eq, iList, decide_eq_false_iff_not, V.str.injEq]
      refine ⟨_, SqT.of (s02 _ _ hra), rfl, _, _, rfl, _, _, rfl, rfl, ?_⟩
      refine ⟨r.1, rfl, ?_⟩
      by_cases c5 : last.cps.toList < r.1.cps.toList
      rotate_left
      · rw [if_pos c5]
        exact bad s2 (by rw [hro, decide_eq_false c5, Bool.false_and])
      rw [if_neg (fun z => z c5)]
      rw [decide_eq_true c5, Bool.true_and] at hro
      refine ⟨l, rfl, ⟨_, SqL.of (s02 _ _ hlr)⟩, ?_⟩
      refine lc_list (xs := r.2.map V.int) (fun k ys σ H'' => H'' = H' ∧ ys = ((r.2.take k).map fun i => decide (0 ≤ i) && decide (i < g.1)).map V.bl ∧ ∃ o, σ = [o, some (V.int g.1)]) ⟨rfl, rfl, _, rfl⟩ (small (by rw [List.length_map]; omega)) (fun k ys σ H'' e => ?_) (fun k ys σ H'' e => by rw [e.1]; exact SqL.of (s02 _ _ hlr)) (fun k x ys σ H'' C hx e hC => ?_) (fun ys σ H'' e p3 hp3 => ?_)
      · rw [e.2.1, List.length_map, List.length_map, List.length_take]; omega
      · obtain ⟨rfl, rfl, o, rfl⟩ := e
        rw [List.getElem?_map] at hx
        obtain ⟨n1, h1, rfl⟩ := Option.map_eq_some_iff.mp hx
        obtain ⟨hkl, hke⟩ := List.getElem?_eq_some_iff.mp h1
        simp only [gName, tAndV, tOp, tC, tVar, List.set_cons_zero, List.getElem?_cons_zero, Option.some.injEq, rI0, V.int.injEq, V.bl.injEq, List.getElem?_cons_succ, exists_and_left, exists_eq_left', decide_eq_true_eq]
        by_cases h0 : 0 ≤ n1
        · rw [if_pos h0]
          refine hC _ _ _ ⟨rfl, ?_, _, rfl⟩
          rw [List.take_succ_eq_append_getElem hkl, hke, List.map_append, List.map_append, List.map_singleton, List.map_singleton, decide_eq_true h0, Bool.true_and]
        · rw [if_neg h0]
          refine hC _ _ _ ⟨rfl, ?_, _, rfl⟩
          rw [List.take_succ_eq_append_getElem hkl, hke, List.map_append, List.map_append, List.map_singleton, List.map_singleton, decide_eq_false h0, Bool.false_and]
      obtain ⟨rfl, rfl, o, rfl⟩ := e
      rw [List.length_map, List.take_of_length_le (Nat.le_refl _)]
      have s3 := s2.trans (same_new hp3 (.lst ((r.2.map fun i => decide (0 ≤ i) && decide (i < g.1)).map V.bl)))
      refine ⟨p3, rfl, _, SqL.of upd_same, ?_⟩
      generalize upd H'' p3 (.lst ((r.2.map fun i => decide (0 ≤ i) && decide (i < g.1)).map V.bl)) = H3 at s3 ⊢
      rw [show ((r.2.map fun i => decide (0 ≤ i) && decide (i < g.1)).all id) = (r.2.all fun i => decide (0 ≤ i) && decide (i < g.1)) by rw [List.all_map]; rfl]
      cases c6 : (r.2.all fun i => decide (0 ≤ i) && decide (i < g.1)) with
      | false =>
        rw [if_pos rfl]
        exact bad s3 (by rw [hro, c6, Bool.false_and])
      | true =>
      rw [if_neg (by decide)]
      rw [c6, Bool.true_and] at hro
      have hin : ∀ i ∈ r.2, 0 ≤ i ∧ i < g.1 := fun i hi => by
        have := List.all_eq_true.mp c6 i hi
        rw [Bool.and_eq_true, decide_eq_true_eq, decide_eq_true_eq] at this
        exact this
      have hn0 := nats_map fun i hi => (hin i hi).1
      have s03 := s1.trans s3
      refine ⟨nr, l, g.1.toNat, natp g.2.1, nats r.2, rfl, by omega, hnr.same s3, by rw [← hn0]; exact SqL.of (s03 _ _ hlr), fun x hx => ?_, by unfold nats; rw [List.length_map]; omega, fun p4 H4 s4 hp4 k4 => ?_⟩
      · obtain ⟨i, hi, rfl⟩ := List.mem_map.mp hx
        have := hin i hi
        omega
      have hcl4 := rise_len (cnt_rise g.1.toNat (natp g.2.1) (nats r.2)) fun x hx => cnt_lt hx
      refine ⟨nr, p4, g.1.toNat, natp g.2.1, _, rfl, by omega, hnr.same (s3.trans s4), SqL.of k4, fun x hx => cnt_lt hx, by omega, fun p5 H5 s5 hp5 k5 => ?_⟩
      have s35 := s3.trans (s4.trans s5)
      have e5 : (cnt g.1.toNat (natp g.2.1) (cnt g.1.toNat (natp g.2.1) (nats r.2))).map nV = ((cnt g.1.toNat (natp g.2.1) (cnt g.1.toNat (natp g.2.1) (nats r.2))).map (fun n : Nat => (n : Int))).map V.int := by rw [List.map_map]; rfl
      have hcl5 := rise_len (cnt_rise g.1.toNat (natp g.2.1) (cnt g.1.toNat (natp g.2.1) (nats r.2))) fun x hx => cnt_lt hx
      rw [e5] at k5
      have hl5 : ((cnt g.1.toNat (natp g.2.1) (cnt g.1.toNat (natp g.2.1) (nats r.2))).map (fun n : Nat => (n : Int))).length ≤ 1000 := by rw [List.length_map]; omega
      generalize (cnt g.1.toNat (natp g.2.1) (cnt g.1.toNat (natp g.2.1) (nats r.2))).map (fun n : Nat => (n : Int)) = cc at k5 hl5 hro
      refine ⟨1, .lst (cc.map Dt.int), .lst (r.2.map Dt.int), ⟨p5, _, rfl, k5, intsAt _ _⟩, ⟨l, _, rfl, (s1.trans s35) _ _ hlr, intsAt _ _⟩, ⟨by rw [List.length_map]; exact hl5, fun d hd => ?_⟩, by omega, _, rfl, ?_⟩
      · obtain ⟨i, _, rfl⟩ := List.mem_map.mp hd
        trivial
      rw [show deq (.lst (cc.map Dt.int)) (.lst (r.2.map Dt.int)) = (cc == r.2) from deqs_ints cc r.2]
      cases c7 : (cc == r.2) with
      | false =>
        rw [if_pos (show (!false) = true from rfl)]
        exact bad s35 (by rw [hro, c7, Bool.false_and])
      | true =>
        rw [if_neg (show ¬ (!true) = true by decide)]
        rw [c7, Bool.true_and] at hro
        exact ⟨s35, r.1, hro, rfl, _, rfl⟩
    · obtain ⟨s2, last, o1, o2, o3, o5, o6, hro, rfl⟩ := h
      rw [hrl, List.drop_eq_nil_of_le (Nat.le_refl _)] at hro
      exact hN _ _ ⟨s2, hro.trans rfl, _, _, _, _, _, _, rfl⟩
  obtain ⟨s2, c4, o1, o2, o3, o4, o5, o6, rfl⟩ := h
  rw [w1, c4] at q
  simp only [tRet, tC]
  exact q _ (s1.trans s2)
end
end C
set_option Elab.async false
set_option linter.all false
set_option maxRecDepth 100000
set_option maxHeartbeats 8000000
namespace C
open PySem L2
seal PE PT PW PA PS PSs PG PGs PI PPs PO PSet PIf
abbrev s_law_bad_pairs : Stmt := top 30
theorem sc_law_bad_pairs : FnScope ["pairs", "way", "at", "many", "place", "x"] ["pairs", "way", "at", "many"] (defScope s_law_bad_pairs) := ⟨rfl, rfl, rfl, by decide +kernel, rfl, by decide +kernel, by decide +kernel⟩
abbrev s_law_bad_spots : Stmt := top 31
theorem sc_law_bad_spots : FnScope ["spots", "way", "x", "many", "p"] ["spots", "way", "x", "many"] (defScope s_law_bad_spots) := ⟨rfl, rfl, rfl, by decide +kernel, rfl, by decide +kernel, by decide +kernel⟩
abbrev s_law_spoiled : Stmt := top 32
theorem sc_law_spoiled : FnScope ["world", "cell", "many", "pairs", "rows", "way", "at", "n", "x"] ["world", "cell"] (defScope s_law_spoiled) := ⟨rfl, rfl, rfl, by decide +kernel, rfl, by decide +kernel, by decide +kernel⟩
def spCg : Sp := fun vs H Q _ => ∃ (wa : Addr) (g : Gv), vs = [.ref wa] ∧ DAt H (dG g) (.ref wa) ∧ GB g ∧ ∀ (p ca la : Addr) (us rs : List V) H', Same H H' → H' p = some (.tup [.int g.1, .ref ca, .ref la]) → H' ca = some (.lst us) → DAts H' (g.2.1.map dI2) us → H' la = some (.lst rs) → DAts H' (g.2.2.map dRI) rs → Q (.ref p) H'
def PsAt (H : Hp) (p : Addr) (n : Nat) : Prop := ∃ (us : List V) (ps : List (Int × Int)), H p = some (.lst us) ∧ DAts H (ps.map dI2) us ∧ ps.length ≤ n
theorem PsAt.same {H H' : Hp} {p : Addr} {n : Nat} (e : Same H H') (h : PsAt H p n) : PsAt H' p n := by
  obtain ⟨us, ps, h1, h2, h3⟩ := h
  exact ⟨us, ps, e _ _ h1, DAts.same e h2, h3⟩
theorem cut_ps {α : Type} {f : α → Dt} {H : Hp} {us : List V} {ps : List α} (lo hi : Option Int) (h : DAts H (ps.map f) us) : ∃ ps' : List α, DAts H (ps'.map f) (cutV us lo hi) ∧ ps'.length ≤ ps.length := by
  refine ⟨(ps.drop (HT.sIx us.length 0 lo)).take (HT.sIx us.length us.length hi - HT.sIx us.length 0 lo), ?_, by rw [List.length_take, List.length_drop]; omega⟩
  unfold cutV
  rw [List.map_take, List.map_drop]
  exact DAts.take _ (DAts.drop _ h)
def spBp : Sp := fun vs H Q _ => ∃ (pa : Addr) (way at' m : Int) (n : Nat), vs = [.ref pa, .int way, .int at', .int m] ∧ PsAt H pa n ∧ n ≤ 300 ∧ 0 ≤ at' ∧ 1 ≤ m ∧ ∀ p H', Same H H' → PsAt H' p 1000 → Q (.ref p) H'
section
variable {P : Program} {w : World} {K : PySem.W.Frag} {mg : Str → Option Value} {base : Heap} {f : Addr} {fd : FuncData}
theorem ok_copyG (bi : Bi mg) (F : Fun K "_law_copy" "_law_copy" s_law_copy f fd) : FnOk P w K mg base CX0 1 f fd ["world"] spCg := by
  refine F.ok sc_law_copy (fun vs H Q E h => ?_) (fun cdv A outer s H vs Q E hr h => ?_)
  · obtain ⟨wa, g, rfl, _⟩ := h
    rfl
  obtain ⟨wa, g, rfl, hg, gb, q⟩ := h
  refine ⟨_, (pss_one (ps_ret (pe_tup (pa_cons (pe_ix ix_tup (pv 0) pe_int (fun _ _ => rfl)) (pa_cons (pe_callTy call_list_of rfl bi.list bt_list (pa_cons (pe_ix ix_tup (pv 0) pe_int (fun _ _ => rfl)) pa_nil)) (pa_cons (pe_comp ["one"] [] [] (pi_list (pe_ix ix_tup (pv 0) pe_int (fun _ _ => rfl))) (fun _ _ _ _ nd => pg_name (i := 0) nd rfl (Or.inl rfl)) (fun _ _ _ _ => pif_nil) (fun _ _ _ _ => (pe_tup (pa_cons (pe_ix (ix_tupK K) (pv 0) pe_int (fun _ _ => rfl)) (pa_cons (pe_callTy (call_list_ofK K) rfl bi.list bt_list (pa_cons (pe_ix (ix_tupK K) (pv 0) pe_int (fun _ _ => rfl)) pa_nil)) pa_nil))))) pa_nil)))))), ?_⟩
  obtain ⟨ca, la, us, rs, hwa, hca, hus, hla, hrs⟩ := gAt hg
  have hrl : rs.length = g.2.2.length := by have := DAts.length hrs; rwa [List.length_map] at this
  simp only [tRet, tTup, tCons, tOp, tVar, L2.start, List.map_cons, List.map_nil, List.length_cons, List.length_nil, Nat.reduceAdd, Nat.reduceSub, List.replicate, List.append_nil, List.getElem?_cons_zero, Option.some.injEq, tC, rIxT, V.int.injEq, cx_K, tCB, tNil, List.cons.injEq, and_true, exists_and_left, tLC_eq, iList, exists_eq_left', V.ref.injEq]
  have at1' : ∀ {a b c : V}, atI [a, b, c] 1 = some b := atI_nat (j := 1) rfl
  have at2 : ∀ {a b c : V}, atI [a, b, c] 2 = some c := atI_nat (j := 2) rfl
  refine ⟨_, SqT.of hwa, _, at0, _, SqT.of hwa, _, at1', ca, rfl, us, .inl (SqL.of hca), fun l hl => ?_⟩
  have s1 := same_new hl (.lst us)
  have k1 : upd H l (.lst us) l = some (.lst us) := upd_same
  generalize upd H l (.lst us) = H1 at s1 k1 ⊢
  refine ⟨_, SqT.of (s1 _ _ hwa), _, at2, la, rfl, ⟨_, SqL.of (s1 _ _ hla)⟩, ?_⟩
  refine lc_list (xs := rs) (fun i ys σ H' => Same H1 H' ∧ DAts H' ((g.2.2.take i).map dRI) ys ∧ ∃ o, σ = [o]) ⟨Same.refl _, rfl, _, rfl⟩ (small (by have := gb.rs; omega)) (fun i ys σ H' e => ?_) (fun i ys σ H' e => SqL.of ((s1.trans e.1) _ _ hla)) (fun i x ys σ H' C' hx e hC => ?_) (fun ys σ H' e p3 hp3 => ?_)
  · have := DAts.length e.2.1
    rw [List.length_map, List.length_take] at this
    omega
  · obtain ⟨es, hd, o, rfl⟩ := e
    obtain ⟨r, hr', hrd⟩ := mapGetV hrs hx
    obtain ⟨ra, l', rfl, hra, hlr⟩ := riAt hrd
    obtain ⟨hil, hie⟩ := List.getElem?_eq_some_iff.mp hr'
    have s2 := s1.trans es
    simp only [gName, tTup, tCons, tOp, tVar, List.set_cons_zero, List.getElem?_cons_zero, Option.some.injEq, tC, rIxT, V.int.injEq, tCB, tNil, List.cons.injEq, and_true, List.length_cons, List.length_nil, Nat.reduceAdd, exists_and_left, exists_eq_left', V.ref.injEq]
    refine ⟨_, SqT.of (s2 _ _ hra), _, at0, _, SqT.of (s2 _ _ hra), _, at1, l', rfl, _, .inl (SqL.of (s2 _ _ hlr)), fun l2 hl2 => ⟨small (by decide), fun p hp => hC _ _ _ ⟨es.trans ((same_new hl2 _).trans (same_new hp _)), ?_, _, rfl⟩⟩⟩
    rw [List.take_succ_eq_append_getElem hil, hie, List.map_append]
    refine DAts.append (DAts.same ((same_new hl2 _).trans (same_new hp _)) hd) (DAts.one ?_)
    exact ⟨p, _, rfl, upd_same, _, _, rfl, rfl, _, _, rfl, ⟨l2, _, rfl, same_new hp _ _ _ upd_same, intsAt _ _⟩, rfl⟩
  obtain ⟨es, hd, o, rfl⟩ := e
  rw [hrl, List.take_of_length_le (Nat.le_refl _)] at hd
  have s2 := (s1.trans es).trans (same_new hp3 (.lst ys))
  have k3 : upd H' p3 (.lst ys) p3 = some (.lst ys) := upd_same
  replace k1 := (es.trans (same_new hp3 (.lst ys))) _ _ k1
  replace hd := DAts.same (same_new hp3 (.lst ys)) hd
  generalize upd H' p3 (.lst ys) = H3 at s2 k3 k1 hd ⊢
  refine ⟨small (by decide), fun p hp => ?_⟩
  have s4 := same_new hp (.tup [V.int g.1, .ref l, .ref p3])
  exact q p l p3 us ys _ (s2.trans s4) upd_same (s4 _ _ k1) (DAts.same (s2.trans s4) hus) (s4 _ _ k3) (DAts.same s4 hd)
theorem ok_bad_pairs (bi : Bi mg) (F : Fun K "_law_bad_pairs" "_law_bad_pairs" s_law_bad_pairs f fd) : FnOk P w K mg base CX0 1 f fd ["pairs", "way", "at", "many"] spBp := by
  refine F.ok sc_law_bad_pairs (fun vs H Q E h => ?_) (fun cdv A outer s H vs Q E hr h => ?_)
  · obtain ⟨pa, way, at', m, n, rfl, _⟩ := h
    rfl
  obtain ⟨pa, way, at', m, n, rfl, hp, hn, ha, hm, q⟩ := h
  refine ⟨_, (pss_cons (ps_set (i := 4) sc_law_bad_pairs.nd rfl (Or.inl rfl) (pe_op op_mod (pv 2) (pe_op op_add (pe_callB call_len rfl bi.len bt_len (pa_cons (pv 0) pa_nil)) pe_int))) (pss_cons (ps_set (i := 5) sc_law_bad_pairs.nd rfl (Or.inl rfl) (pe_op op_mod (pe_op op_fdiv (pv 2) pe_int) pe_int)) (pss_cons (ps_if (pt_cmpR op_eq (pv 1) pe_int (nomark _)) (pss_one (ps_ret (pe_op op_cat (pe_op op_cat (pe_slice sl_list (pv 0) po_none (po_some (pv 4))) (pe_lst (pa_cons (pe_tup (pa_cons (pe_op op_add (pv 5) pe_int) (pa_cons (pv 5) pa_nil))) pa_nil))) (pe_slice sl_list (pv 0) (po_some (pv 4)) po_none)))) pss_nil) (pss_cons (ps_if (pt_cmpR op_eq (pv 1) pe_int (nomark _)) (pss_one (ps_ret (pe_op op_cat (pe_op op_cat (pe_slice sl_list (pv 0) po_none (po_some (pv 4))) (pe_lst (pa_cons (pe_tup (pa_cons (pe_op op_mod (pv 5) (pv 3)) (pa_cons (pe_op op_mod (pv 5) (pv 3)) pa_nil))) pa_nil))) (pe_slice sl_list (pv 0) (po_some (pv 4)) po_none)))) pss_nil) (pss_cons (ps_if (pt_cmpR op_eq (pv 1) pe_int (nomark _)) (pss_one (ps_ret (pe_op op_cat (pe_op op_cat (pe_slice sl_list (pv 0) po_none (po_some (pv 4))) (pe_slice sl_list (pe_slice sl_list (pv 0) po_none (po_some (pv 4))) (po_some (pe_un un_neg pe_int)) po_none)) (pe_slice sl_list (pv 0) (po_some (pv 4)) po_none)))) pss_nil) (pss_cons (ps_if (pt_cmpR op_eq (pv 1) pe_int (nomark _)) (pss_one (ps_ret (pe_op op_cat (pe_op op_cat (pe_slice sl_list (pv 0) po_none (po_some (pv 4))) (pe_lst (pa_cons (pe_tup (pa_cons (pe_op op_mod (pv 5) (pv 3)) (pa_cons (pe_op op_add (pv 3) (pe_op op_fdiv (pv 5) pe_int)) pa_nil))) pa_nil))) (pe_slice sl_list (pv 0) (po_some (pv 4)) po_none)))) pss_nil) (pss_cons (ps_if (pt_cmpR op_eq (pv 1) pe_int (nomark _)) (pss_one (ps_ret (pe_op op_cat (pe_op op_cat (pe_slice sl_list (pv 0) po_none (po_some (pv 4))) (pe_lst (pa_cons (pe_tup (pa_cons (pe_op op_sub (pe_un un_neg pe_int) (pv 5)) (pa_cons (pe_op op_mod (pv 5) (pv 3)) pa_nil))) pa_nil))) (pe_slice sl_list (pv 0) (po_some (pv 4)) po_none)))) pss_nil) (pss_one (ps_ret (pe_op op_cat (pe_slice sl_list (pv 0) (po_some (pv 4)) po_none) (pe_slice sl_list (pv 0) po_none (po_some (pv 4))))))))))))), ?_⟩
  obtain ⟨us, ps, hpa, hus, hpl⟩ := id hp
  have hul : us.length = ps.length := by have := DAts.length hus; rwa [List.length_map] at this
  refine seq_abs fun N hN => ?_
  simp only [tAsg, tOp, tVar, L2.start, List.map_cons, List.map_nil, List.length_cons, List.length_nil, Nat.reduceAdd, Nat.reduceSub, List.replicate, List.cons_append, List.nil_append, List.getElem?_cons_succ, List.getElem?_cons_zero, Option.some.injEq, tCB, tCons, tNil, List.cons.injEq, and_true, cx_K, tC, rI0, V.int.injEq, rI, gName, List.set_cons_succ, List.set_cons_zero, exists_and_left, exists_eq_left']
  refine ⟨us.length, .inl ⟨_, SqL.of hpa, rfl⟩, by omega, hN _ _ ?_⟩
  clear hN
  generalize at' % ((us.length : Int) + 1) = place
  refine seq_abs fun N hN => ?_
  simp only [tAsg, tOp, tVar, List.getElem?_cons_succ, List.getElem?_cons_zero, Option.some.injEq, tC, rI, V.int.injEq, gName, List.set_cons_succ, List.set_cons_zero, exists_and_left, exists_eq_left']
  refine ⟨⟨by decide, by decide⟩, by decide, hN _ _ ?_⟩
  clear hN
  generalize at' / 40 % 8 = x
  -- what stands between two slices
  have put : ∀ {J : Hp} {c1 : Addr} {u1 u2 u3 : List V} {p1 p2 p3 : List (Int × Int)}, J c1 = some (.lst (u1 ++ u2 ++ u3)) → DAts J (p1.map dI2) u1 → DAts J (p2.map dI2) u2 → DAts J (p3.map dI2) u3 → p1.length ≤ ps.length → p2.length ≤ 300 → p3.length ≤ ps.length → PsAt J c1 1000 := fun {J c1 u1 u2 u3 p1 p2 p3} k h1 h2 h3 l1 l2 l3 => by
    refine ⟨_, (p1 ++ p2) ++ p3, k, ?_, by rw [List.length_append, List.length_append]; omega⟩
    rw [List.map_append, List.map_append]
    exact DAts.append (DAts.append h1 h2) h3
  refine seq_abs fun N hN => ?_
  simp only [tIfS, tTest, tOp, tVar, List.getElem?_cons_succ, List.getElem?_cons_zero, Option.some.injEq, tC, rEq, V.bl.injEq, tRet, tSl, tNoPart, tPart, rSlL, cx_K, tLst, tCons, tTup, rI0, V.int.injEq, tNil, List.length_cons, List.length_nil, Nat.reduceAdd, rCat, V.ref.injEq, exists_and_left, exists_eq_left', tNext, decide_eq_true_eq]
  refine ⟨rfl, ?_⟩
  by_cases c2 : way = 2
  · rw [if_pos c2]
    obtain ⟨q1, d1, l1⟩ := cut_ps none (some place) hus
    obtain ⟨q3, d3, l3⟩ := cut_ps (some place) none hus
    refine ⟨_, SqL.of hpa, fun a1 h1 => ?_⟩
    have s1 := same_new h1 (.lst (cutV us none (some place)))
    have k1 : upd H a1 (.lst (cutV us none (some place))) a1 = some (.lst (cutV us none (some place))) := upd_same
    generalize upd H a1 (.lst (cutV us none (some place))) = H1 at s1 k1 ⊢
    refine ⟨small (by decide), fun a2 h2 => ⟨small (by decide), fun a3 h3 => ?_⟩⟩
    have s3 := (same_new h2 (.tup [V.int (x + 1), V.int (x)])).trans (same_new h3 (.lst [V.ref a2]))
    have k2 : upd (upd H1 a2 (.tup [V.int (x + 1), V.int (x)])) a3 (.lst [V.ref a2]) a2 = some (.tup [V.int (x + 1), V.int (x)]) := same_new h3 _ _ _ upd_same
    have k3 : upd (upd H1 a2 (.tup [V.int (x + 1), V.int (x)])) a3 (.lst [V.ref a2]) a3 = some (.lst [V.ref a2]) := upd_same
    generalize upd (upd H1 a2 (.tup [V.int (x + 1), V.int (x)])) a3 (.lst [V.ref a2]) = H3 at s3 k2 k3 ⊢
    refine ⟨_, s3 _ _ k1, _, k3, small (by have := cutV_length us none (some place); simp only [List.length_cons, List.length_nil]; omega), fun a4 h4 => ?_⟩
    have s4 := same_new h4 (.lst (cutV us none (some place) ++ [V.ref a2]))
    have k4 : upd H3 a4 (.lst (cutV us none (some place) ++ [V.ref a2])) a4 = some (.lst (cutV us none (some place) ++ [V.ref a2])) := upd_same
    generalize upd H3 a4 (.lst (cutV us none (some place) ++ [V.ref a2])) = H4 at s4 k4 ⊢
    have s14 := s1.trans (s3.trans s4)
    refine ⟨_, SqL.of (s14 _ _ hpa), fun a5 h5 => ?_⟩
    have s5 := same_new h5 (.lst (cutV us (some place) none))
    have k5 : upd H4 a5 (.lst (cutV us (some place) none)) a5 = some (.lst (cutV us (some place) none)) := upd_same
    generalize upd H4 a5 (.lst (cutV us (some place) none)) = H5 at s5 k5 ⊢
    refine ⟨_, s5 _ _ k4, _, k5, small (by have := cutV_length us none (some place); have := cutV_length us (some place) none; simp only [List.length_append, List.length_cons, List.length_nil]; omega), fun a6 h6 => ?_⟩
    have s6 := s14.trans (s5.trans (same_new h6 (.lst (cutV us none (some place) ++ [V.ref a2] ++ cutV us (some place) none))))
    refine q a6 _ s6 (put (p1 := q1) (p2 := [(x + 1, x)]) (p3 := q3) upd_same (DAts.same s6 d1) (DAts.one ?_) (DAts.same s6 d3) l1 (by simp) l3)
    exact ⟨a2, _, rfl, (s4.trans (s5.trans (same_new h6 _))) _ _ k2, _, _, rfl, rfl, _, _, rfl, rfl, rfl⟩
  rw [if_neg c2]
  refine hN _ _ ?_
  clear hN
  refine seq_abs fun N hN => ?_
  simp only [tIfS, tTest, tOp, tVar, List.getElem?_cons_succ, List.getElem?_cons_zero, Option.some.injEq, tC, rEq, V.bl.injEq, tRet, tSl, tNoPart, tPart, rSlL, cx_K, tLst, tCons, tTup, rI, tNil, List.length_cons, List.length_nil, Nat.reduceAdd, rCat, V.ref.injEq, exists_and_left, exists_eq_left', V.int.injEq, tNext, decide_eq_true_eq]
  refine ⟨rfl, ?_⟩
  by_cases c3 : way = 3
  · rw [if_pos c3]
    obtain ⟨q1, d1, l1⟩ := cut_ps none (some place) hus
    obtain ⟨q3, d3, l3⟩ := cut_ps (some place) none hus
    refine ⟨_, SqL.of hpa, fun a1 h1 => ?_⟩
    have s1 := same_new h1 (.lst (cutV us none (some place)))
    have k1 : upd H a1 (.lst (cutV us none (some place))) a1 = some (.lst (cutV us none (some place))) := upd_same
    generalize upd H a1 (.lst (cutV us none (some place))) = H1 at s1 k1 ⊢
    refine ⟨by omega, by omega, small (by decide), fun a2 h2 => ⟨small (by decide), fun a3 h3 => ?_⟩⟩
    have s3 := (same_new h2 (.tup [V.int (x % m), V.int (x % m)])).trans (same_new h3 (.lst [V.ref a2]))
    have k2 : upd (upd H1 a2 (.tup [V.int (x % m), V.int (x % m)])) a3 (.lst [V.ref a2]) a2 = some (.tup [V.int (x % m), V.int (x % m)]) := same_new h3 _ _ _ upd_same
    have k3 : upd (upd H1 a2 (.tup [V.int (x % m), V.int (x % m)])) a3 (.lst [V.ref a2]) a3 = some (.lst [V.ref a2]) := upd_same
    generalize upd (upd H1 a2 (.tup [V.int (x % m), V.int (x % m)])) a3 (.lst [V.ref a2]) = H3 at s3 k2 k3 ⊢
    refine ⟨_, s3 _ _ k1, _, k3, small (by have := cutV_length us none (some place); simp only [List.length_cons, List.length_nil]; omega), fun a4 h4 => ?_⟩
    have s4 := same_new h4 (.lst (cutV us none (some place) ++ [V.ref a2]))
    have k4 : upd H3 a4 (.lst (cutV us none (some place) ++ [V.ref a2])) a4 = some (.lst (cutV us none (some place) ++ [V.ref a2])) := upd_same
    generalize upd H3 a4 (.lst (cutV us none (some place) ++ [V.ref a2])) = H4 at s4 k4 ⊢
    have s14 := s1.trans (s3.trans s4)
    refine ⟨_, SqL.of (s14 _ _ hpa), fun a5 h5 => ?_⟩
    have s5 := same_new h5 (.lst (cutV us (some place) none))
    have k5 : upd H4 a5 (.lst (cutV us (some place) none)) a5 = some (.lst (cutV us (some place) none)) := upd_same
    generalize upd H4 a5 (.lst (cutV us (some place) none)) = H5 at s5 k5 ⊢
    refine ⟨_, s5 _ _ k4, _, k5, small (by have := cutV_length us none (some place); have := cutV_length us (some place) none; simp only [List.length_append, List.length_cons, List.length_nil]; omega), fun a6 h6 => ?_⟩
    have s6 := s14.trans (s5.trans (same_new h6 (.lst (cutV us none (some place) ++ [V.ref a2] ++ cutV us (some place) none))))
    refine q a6 _ s6 (put (p1 := q1) (p2 := [(x % m, x % m)]) (p3 := q3) upd_same (DAts.same s6 d1) (DAts.one ?_) (DAts.same s6 d3) l1 (by simp) l3)
    exact ⟨a2, _, rfl, (s4.trans (s5.trans (same_new h6 _))) _ _ k2, _, _, rfl, rfl, _, _, rfl, rfl, rfl⟩
  rw [if_neg c3]
  refine hN _ _ ?_
  clear hN
  refine seq_abs fun N hN => ?_
  simp only [tIfS, tTest, tOp, tVar, List.getElem?_cons_succ, List.getElem?_cons_zero, Option.some.injEq, tC, rEq, V.bl.injEq, tRet, tSl, tNoPart, tPart, rSlL, cx_K, tUn, rU, V.int.injEq, V.ref.injEq, rCat, exists_and_left, exists_eq_left', tNext, decide_eq_true_eq]
  refine ⟨rfl, ?_⟩
  by_cases c4 : way = 4
  · rw [if_pos c4]
    obtain ⟨q1, d1, l1⟩ := cut_ps none (some place) hus
    obtain ⟨q2, d2, l2⟩ := cut_ps (some (-1)) none d1
    obtain ⟨q3, d3, l3⟩ := cut_ps (some place) none hus
    have e1 := cutV_length us none (some place)
    have e3 := cutV_length us (some place) none
    generalize hc1 : cutV us none (some place) = u1 at d1 d2 e1
    have e2 := cutV_length u1 (some (-1)) none
    refine ⟨_, SqL.of hpa, fun a1 h1 => ?_⟩
    rw [hc1]
    have s1 := same_new h1 (.lst u1)
    have k1 : upd H a1 (.lst u1) a1 = some (.lst u1) := upd_same
    generalize upd H a1 (.lst u1) = H1 at s1 k1 ⊢
    refine ⟨_, SqL.of (s1 _ _ hpa), fun a2 h2 => ?_⟩
    rw [hc1]
    have s2 := same_new h2 (.lst u1)
    have k2 : upd H1 a2 (.lst u1) a2 = some (.lst u1) := upd_same
    generalize upd H1 a2 (.lst u1) = H2 at s2 k2 ⊢
    refine ⟨_, SqL.of k2, fun a3 h3 => ?_⟩
    have s3 := same_new h3 (.lst (cutV u1 (some (-1)) none))
    have k3 : upd H2 a3 (.lst (cutV u1 (some (-1)) none)) a3 = some (.lst (cutV u1 (some (-1)) none)) := upd_same
    generalize upd H2 a3 (.lst (cutV u1 (some (-1)) none)) = H3 at s3 k3 ⊢
    refine ⟨_, (s2.trans s3) _ _ k1, _, k3, small (by omega), fun a4 h4 => ?_⟩
    have s4 := same_new h4 (.lst (u1 ++ cutV u1 (some (-1)) none))
    have k4 : upd H3 a4 (.lst (u1 ++ cutV u1 (some (-1)) none)) a4 = some (.lst (u1 ++ cutV u1 (some (-1)) none)) := upd_same
    generalize upd H3 a4 (.lst (u1 ++ cutV u1 (some (-1)) none)) = H4 at s4 k4 ⊢
    have s14 := (s1.trans s2).trans (s3.trans s4)
    refine ⟨_, SqL.of (s14 _ _ hpa), fun a5 h5 => ?_⟩
    have s5 := same_new h5 (.lst (cutV us (some place) none))
    have k5 : upd H4 a5 (.lst (cutV us (some place) none)) a5 = some (.lst (cutV us (some place) none)) := upd_same
    generalize upd H4 a5 (.lst (cutV us (some place) none)) = H5 at s5 k5 ⊢
    refine ⟨_, s5 _ _ k4, _, k5, small (by rw [List.length_append]; omega), fun a6 h6 => ?_⟩
    have s6 := s14.trans (s5.trans (same_new h6 (.lst (u1 ++ cutV u1 (some (-1)) none ++ cutV us (some place) none))))
    exact q a6 _ s6 (put (p1 := q1) (p2 := q2) (p3 := q3) upd_same (DAts.same s6 d1) (DAts.same s6 d2) (DAts.same s6 d3) l1 (by omega) l3)
  rw [if_neg c4]
  refine hN _ _ ?_
  clear hN
  refine seq_abs fun N hN => ?_
  simp only [tIfS, tTest, tOp, tVar, List.getElem?_cons_succ, List.getElem?_cons_zero, Option.some.injEq, tC, rEq, V.bl.injEq, tRet, tSl, tNoPart, tPart, rSlL, cx_K, tLst, tCons, tTup, rI, V.int.injEq, rI0, tNil, List.length_cons, List.length_nil, Nat.reduceAdd, rCat, V.ref.injEq, exists_and_left, exists_eq_left', tNext, decide_eq_true_eq]
  refine ⟨rfl, ?_⟩
  by_cases c5 : way = 5
  · rw [if_pos c5]
    obtain ⟨q1, d1, l1⟩ := cut_ps none (some place) hus
    obtain ⟨q3, d3, l3⟩ := cut_ps (some place) none hus
    refine ⟨_, SqL.of hpa, fun a1 h1 => ?_⟩
    have s1 := same_new h1 (.lst (cutV us none (some place)))
    have k1 : upd H a1 (.lst (cutV us none (some place))) a1 = some (.lst (cutV us none (some place))) := upd_same
    generalize upd H a1 (.lst (cutV us none (some place))) = H1 at s1 k1 ⊢
    refine ⟨by omega, ⟨by decide, by decide⟩, small (by decide), fun a2 h2 => ⟨small (by decide), fun a3 h3 => ?_⟩⟩
    have s3 := (same_new h2 (.tup [V.int (x % m), V.int (m + x / 4)])).trans (same_new h3 (.lst [V.ref a2]))
    have k2 : upd (upd H1 a2 (.tup [V.int (x % m), V.int (m + x / 4)])) a3 (.lst [V.ref a2]) a2 = some (.tup [V.int (x % m), V.int (m + x / 4)]) := same_new h3 _ _ _ upd_same
    have k3 : upd (upd H1 a2 (.tup [V.int (x % m), V.int (m + x / 4)])) a3 (.lst [V.ref a2]) a3 = some (.lst [V.ref a2]) := upd_same
    generalize upd (upd H1 a2 (.tup [V.int (x % m), V.int (m + x / 4)])) a3 (.lst [V.ref a2]) = H3 at s3 k2 k3 ⊢
    refine ⟨_, s3 _ _ k1, _, k3, small (by have := cutV_length us none (some place); simp only [List.length_cons, List.length_nil]; omega), fun a4 h4 => ?_⟩
    have s4 := same_new h4 (.lst (cutV us none (some place) ++ [V.ref a2]))
    have k4 : upd H3 a4 (.lst (cutV us none (some place) ++ [V.ref a2])) a4 = some (.lst (cutV us none (some place) ++ [V.ref a2])) := upd_same
    generalize upd H3 a4 (.lst (cutV us none (some place) ++ [V.ref a2])) = H4 at s4 k4 ⊢
    have s14 := s1.trans (s3.trans s4)
    refine ⟨_, SqL.of (s14 _ _ hpa), fun a5 h5 => ?_⟩
    have s5 := same_new h5 (.lst (cutV us (some place) none))
    have k5 : upd H4 a5 (.lst (cutV us (some place) none)) a5 = some (.lst (cutV us (some place) none)) := upd_same
    generalize upd H4 a5 (.lst (cutV us (some place) none)) = H5 at s5 k5 ⊢
    refine ⟨_, s5 _ _ k4, _, k5, small (by have := cutV_length us none (some place); have := cutV_length us (some place) none; simp only [List.length_append, List.length_cons, List.length_nil]; omega), fun a6 h6 => ?_⟩
    have s6 := s14.trans (s5.trans (same_new h6 (.lst (cutV us none (some place) ++ [V.ref a2] ++ cutV us (some place) none))))
    refine q a6 _ s6 (put (p1 := q1) (p2 := [(x % m, m + x / 4)]) (p3 := q3) upd_same (DAts.same s6 d1) (DAts.one ?_) (DAts.same s6 d3) l1 (by simp) l3)
    exact ⟨a2, _, rfl, (s4.trans (s5.trans (same_new h6 _))) _ _ k2, _, _, rfl, rfl, _, _, rfl, rfl, rfl⟩
  rw [if_neg c5]
  refine hN _ _ ?_
  clear hN
  refine seq_abs fun N hN => ?_
  simp only [tIfS, tTest, tOp, tVar, List.getElem?_cons_succ, List.getElem?_cons_zero, Option.some.injEq, tC, rEq, V.bl.injEq, tRet, tSl, tNoPart, tPart, rSlL, cx_K, tLst, tCons, tTup, tUn, rU, V.int.injEq, rI0, rI, tNil, List.length_cons, List.length_nil, Nat.reduceAdd, rCat, V.ref.injEq, exists_and_left, exists_eq_left', tNext, decide_eq_true_eq]
  refine ⟨rfl, ?_⟩
  by_cases c6 : way = 6
  · rw [if_pos c6]
    obtain ⟨q1, d1, l1⟩ := cut_ps none (some place) hus
    obtain ⟨q3, d3, l3⟩ := cut_ps (some place) none hus
    refine ⟨_, SqL.of hpa, fun a1 h1 => ?_⟩
    have s1 := same_new h1 (.lst (cutV us none (some place)))
    have k1 : upd H a1 (.lst (cutV us none (some place))) a1 = some (.lst (cutV us none (some place))) := upd_same
    generalize upd H a1 (.lst (cutV us none (some place))) = H1 at s1 k1 ⊢
    refine ⟨by omega, small (by decide), fun a2 h2 => ⟨small (by decide), fun a3 h3 => ?_⟩⟩
    have s3 := (same_new h2 (.tup [V.int (-1 - x), V.int (x % m)])).trans (same_new h3 (.lst [V.ref a2]))
    have k2 : upd (upd H1 a2 (.tup [V.int (-1 - x), V.int (x % m)])) a3 (.lst [V.ref a2]) a2 = some (.tup [V.int (-1 - x), V.int (x % m)]) := same_new h3 _ _ _ upd_same
    have k3 : upd (upd H1 a2 (.tup [V.int (-1 - x), V.int (x % m)])) a3 (.lst [V.ref a2]) a3 = some (.lst [V.ref a2]) := upd_same
    generalize upd (upd H1 a2 (.tup [V.int (-1 - x), V.int (x % m)])) a3 (.lst [V.ref a2]) = H3 at s3 k2 k3 ⊢
    refine ⟨_, s3 _ _ k1, _, k3, small (by have := cutV_length us none (some place); simp only [List.length_cons, List.length_nil]; omega), fun a4 h4 => ?_⟩
    have s4 := same_new h4 (.lst (cutV us none (some place) ++ [V.ref a2]))
    have k4 : upd H3 a4 (.lst (cutV us none (some place) ++ [V.ref a2])) a4 = some (.lst (cutV us none (some place) ++ [V.ref a2])) := upd_same
    generalize upd H3 a4 (.lst (cutV us none (some place) ++ [V.ref a2])) = H4 at s4 k4 ⊢
    have s14 := s1.trans (s3.trans s4)
    refine ⟨_, SqL.of (s14 _ _ hpa), fun a5 h5 => ?_⟩
    have s5 := same_new h5 (.lst (cutV us (some place) none))
    have k5 : upd H4 a5 (.lst (cutV us (some place) none)) a5 = some (.lst (cutV us (some place) none)) := upd_same
    generalize upd H4 a5 (.lst (cutV us (some place) none)) = H5 at s5 k5 ⊢
    refine ⟨_, s5 _ _ k4, _, k5, small (by have := cutV_length us none (some place); have := cutV_length us (some place) none; simp only [List.length_append, List.length_cons, List.length_nil]; omega), fun a6 h6 => ?_⟩
    have s6 := s14.trans (s5.trans (same_new h6 (.lst (cutV us none (some place) ++ [V.ref a2] ++ cutV us (some place) none))))
    refine q a6 _ s6 (put (p1 := q1) (p2 := [(-1 - x, x % m)]) (p3 := q3) upd_same (DAts.same s6 d1) (DAts.one ?_) (DAts.same s6 d3) l1 (by simp) l3)
    exact ⟨a2, _, rfl, (s4.trans (s5.trans (same_new h6 _))) _ _ k2, _, _, rfl, rfl, _, _, rfl, rfl, rfl⟩
  rw [if_neg c6]
  refine hN _ _ ?_
  clear hN
  simp only [tRet, tOp, tSl, tVar, List.getElem?_cons_zero, Option.some.injEq, tPart, List.getElem?_cons_succ, tNoPart, rSlL, cx_K, rCat, V.ref.injEq, exists_and_left, exists_eq_left', V.int.injEq]
  obtain ⟨q1, d1, l1⟩ := cut_ps none (some place) hus
  obtain ⟨q3, d3, l3⟩ := cut_ps (some place) none hus
  have e1 := cutV_length us none (some place)
  have e3 := cutV_length us (some place) none
  refine ⟨_, SqL.of hpa, fun a1 h1 => ?_⟩
  have s1 := same_new h1 (.lst (cutV us (some place) none))
  have k1 : upd H a1 (.lst (cutV us (some place) none)) a1 = some (.lst (cutV us (some place) none)) := upd_same
  generalize upd H a1 (.lst (cutV us (some place) none)) = H1 at s1 k1 ⊢
  refine ⟨_, SqL.of (s1 _ _ hpa), fun a2 h2 => ?_⟩
  have s2 := same_new h2 (.lst (cutV us none (some place)))
  have k2 : upd H1 a2 (.lst (cutV us none (some place))) a2 = some (.lst (cutV us none (some place))) := upd_same
  generalize upd H1 a2 (.lst (cutV us none (some place))) = H2 at s2 k2 ⊢
  refine ⟨_, s2 _ _ k1, _, k2, small (by omega), fun a6 h6 => ?_⟩
  have s6 := (s1.trans s2).trans (same_new h6 (.lst (cutV us (some place) none ++ cutV us none (some place))))
  refine q a6 _ s6 ⟨_, q3 ++ q1, upd_same, ?_, by rw [List.length_append]; omega⟩
  rw [List.map_append]
  exact DAts.append (DAts.same s6 d3) (DAts.same s6 d1)
end
end C
set_option Elab.async false
set_option linter.all false
set_option maxRecDepth 100000
set_option maxHeartbeats 8000000
namespace C
open PySem L2
seal PE PT PW PA PS PSs PG PGs PI PPs PO PSet PIf
def IsAt (H : Hp) (p : Addr) (n : Nat) : Prop := ∃ ns : List Int, H p = some (.lst (ns.map V.int)) ∧ ns.length ≤ n
theorem IsAt.same {H H' : Hp} {p : Addr} {n : Nat} (e : Same H H') (h : IsAt H p n) : IsAt H' p n := by
  obtain ⟨ns, h1, h2⟩ := h
  exact ⟨ns, e _ _ h1, h2⟩
def spBs : Sp := fun vs H Q _ => ∃ (pa : Addr) (way x m : Int) (n : Nat), vs = [.ref pa, .int way, .int x, .int m] ∧ IsAt H pa n ∧ n ≤ 50 ∧ 0 ≤ x ∧ 1 ≤ m ∧ ∀ p H', Same H H' → IsAt H' p 200 → Q (.ref p) H'
section
variable {P : Program} {w : World} {K : PySem.W.Frag} {mg : Str → Option Value} {base : Heap} {f : Addr} {fd : FuncData}
theorem ok_bad_spots (bi : Bi mg) (brv : mg "reversed" = none) (F : Fun K "_law_bad_spots" "_law_bad_spots" s_law_bad_spots f fd) : FnOk P w K mg base CX0 1 f fd ["spots", "way", "x", "many"] spBs := by
  refine F.ok sc_law_bad_spots (fun vs H Q E h => ?_) (fun cdv A outer s H vs Q E hr h => ?_)
  · obtain ⟨pa, way, x, m, n, rfl, _⟩ := h
    rfl
  obtain ⟨pa, way, x, m, n, rfl, hp, hn, hx, hm, q⟩ := h
  refine ⟨_, (pss_cons (ps_set (i := 4) sc_law_bad_spots.nd rfl (Or.inl rfl) (pe_op op_mod (pv 2) (pe_callB (call_max2 rfl) rfl bi.max bt_max (pa_cons pe_int (pa_cons (pe_callB call_len rfl bi.len bt_len (pa_cons (pv 0) pa_nil)) pa_nil))))) (pss_cons (ps_if (pt_cmpR op_eq (pv 1) pe_int (nomark _)) (pss_one (ps_ret (pe_callB call_sortedN rfl bi.sorted bt_sorted (pa_cons (pe_callTy call_setI rfl bi.set bt_set (pa_cons (pe_op op_cat (pv 0) (pe_lst (pa_cons (pe_op op_mod (pv 2) (pv 3)) pa_nil))) pa_nil)) pa_nil)))) pss_nil) (pss_cons (ps_if (pt_cmpR op_eq (pv 1) pe_int (nomark _)) (pss_one (ps_ret (pe_op op_cat (pe_slice sl_list (pv 0) po_none (po_some (pv 4))) (pe_slice sl_list (pv 0) (po_some (pe_op op_add (pv 4) pe_int)) po_none)))) pss_nil) (pss_cons (ps_if (pt_cmpR op_eq (pv 1) pe_int (nomark _)) (pss_one (ps_ret (pe_listRev rfl bi.list rfl brv rfl (pa_cons (pv 0) pa_nil)))) pss_nil) (pss_cons (ps_if (pt_cmpR op_eq (pv 1) pe_int (nomark _)) (pss_one (ps_ret (pe_op op_cat (pv 0) (pe_lst (pa_cons (pe_op op_add (pv 3) (pe_op op_mod (pv 2) pe_int)) pa_nil))))) pss_nil) (pss_cons (ps_if (pt_cmpR op_eq (pv 1) pe_int (nomark _)) (pss_one (ps_ret (pe_op op_cat (pe_lst (pa_cons (pe_op op_sub (pe_un un_neg pe_int) (pe_op op_mod (pv 2) pe_int)) pa_nil)) (pv 0)))) pss_nil) (pss_one (ps_ret (pe_op op_cat (pe_slice sl_list (pv 0) po_none (po_some (pe_op op_add (pv 4) pe_int))) (pe_slice sl_list (pv 0) (po_some (pv 4)) po_none)))))))))), ?_⟩
  obtain ⟨ns, hpa, hnl⟩ := id hp
  refine seq_abs fun N hN => ?_
  simp only [tAsg, tOp, tVar, L2.start, List.map_cons, List.map_nil, List.length_cons, List.length_nil, Nat.reduceAdd, Nat.reduceSub, List.replicate, List.cons_append, List.nil_append, List.getElem?_cons_succ, List.getElem?_cons_zero, Option.some.injEq, tCB, tCons, tC, tNil, List.cons.injEq, and_true, cx_K, V.int.injEq, rI, gName, List.set_cons_succ, List.set_cons_zero, exists_and_left, exists_eq_left', and_assoc]
  refine ⟨ns.length, .inl ⟨_, SqL.of hpa, (List.length_map _).symm⟩, by split <;> omega, hN _ _ ?_⟩
  clear hN
  generalize (x % if (ns.length : Int) > 1 then (ns.length : Int) else 1) = pl
  refine seq_abs fun N hN => ?_
  simp only [tIfS, tTest, tOp, tVar, List.getElem?_cons_succ, List.getElem?_cons_zero, Option.some.injEq, tC, rEq, V.bl.injEq, tRet, tCB, tCons, tLst, rI, tNil, List.length_cons, List.length_nil, Nat.reduceAdd, rCat, V.ref.injEq, cx_calm, List.cons.injEq, and_true, cx_K, cx_P, cx_w, exists_and_left, exists_eq_left', true_and, V.int.injEq, tNext, decide_eq_true_eq]
  refine ⟨rfl, ?_⟩
  by_cases c8 : way = 8
  · rw [if_pos c8]
    refine ⟨by omega, small (by decide), fun a1 h1 => ⟨_, same_new h1 _ _ _ hpa, _, upd_same, small (by rw [List.length_map]; simp only [List.length_cons, List.length_nil]; omega), fun a2 h2 => ⟨ns ++ [x % m], by rw [List.map_append]; exact SqL.of upd_same, by rw [List.length_append, List.length_singleton]; omega, fun l ys hl hnd hys => ?_⟩⟩⟩
    have hyl : ys.length ≤ (ns ++ [x % m]).length := nodup_subG hnd fun z hz => (hys z).mp hz
    rw [List.length_append, List.length_singleton] at hyl
    refine ⟨ys, upd_same, by omega, fun l1 zs' hl1 hpm _ => q l1 _ ((same_new h1 _).trans ((same_new h2 _).trans ((same_new hl _).trans (same_new hl1 _)))) ⟨zs', upd_same, by rw [hpm.length_eq]; omega⟩⟩
  rw [if_neg c8]
  refine hN _ _ ?_
  clear hN
  refine seq_abs fun N hN => ?_
  simp only [tIfS, tTest, tOp, tVar, List.getElem?_cons_succ, List.getElem?_cons_zero, Option.some.injEq, tC, rEq, V.bl.injEq, tRet, tSl, tNoPart, tPart, rSlL, cx_K, rI0, V.int.injEq, rCat, V.ref.injEq, exists_and_left, exists_eq_left', tNext, decide_eq_true_eq]
  refine ⟨rfl, ?_⟩
  by_cases c9 : way = 9
  · rw [if_pos c9]
    refine ⟨_, SqL.of hpa, fun a1 h1 => ⟨_, SqL.of (same_new h1 _ _ _ hpa), fun a2 h2 => ⟨_, same_new h2 _ _ _ upd_same, _, upd_same, small (by have e1 := cutV_length (ns.map V.int) none (some pl); have e2 := cutV_length (ns.map V.int) (some (pl + 1)) none; rw [List.length_map] at e1 e2; omega), fun a3 h3 => q a3 _ (((same_new h1 _).trans (same_new h2 _)).trans (same_new h3 _)) ⟨cutI ns none (some pl) ++ cutI ns (some (pl + 1)) none, by rw [upd_same, cut_ints, cut_ints, List.map_append], by have e1 := cutI_len ns none (some pl); have e2 := cutI_len ns (some (pl + 1)) none; rw [List.length_append]; omega⟩⟩⟩⟩
  rw [if_neg c9]
  refine hN _ _ ?_
  clear hN
  refine seq_abs fun N hN => ?_
  simp only [tIfS, tTest, tOp, tVar, List.getElem?_cons_succ, List.getElem?_cons_zero, Option.some.injEq, tC, rEq, V.bl.injEq, tRet, tNext, exists_eq_left', decide_eq_true_eq, V.int.injEq]
  refine ⟨rfl, ?_⟩
  by_cases c10 : way = 10
  · rw [if_pos c10]
    simp only [tLR, tCons, tVar, List.getElem?_cons_zero, Option.some.injEq, tNil, List.cons.injEq, and_true, exists_and_left, exists_eq_left', V.ref.injEq]
    exact ⟨_, hpa, fun l hl => q l _ (same_new hl _) ⟨ns.reverse, by rw [upd_same, List.map_reverse], by rw [List.length_reverse]; omega⟩⟩
  rw [if_neg c10]
  refine hN _ _ ?_
  clear hN
  refine seq_abs fun N hN => ?_
  simp only [tIfS, tTest, tOp, tVar, List.getElem?_cons_succ, List.getElem?_cons_zero, Option.some.injEq, tC, rEq, V.bl.injEq, tRet, tLst, tCons, rI, V.int.injEq, rI0, tNil, List.length_cons, List.length_nil, Nat.reduceAdd, rCat, V.ref.injEq, exists_and_left, exists_eq_left', tNext, decide_eq_true_eq]
  refine ⟨rfl, ?_⟩
  by_cases c11 : way = 11
  · rw [if_pos c11]
    exact ⟨by decide, small (by decide), fun a1 h1 => ⟨_, same_new h1 _ _ _ hpa, _, upd_same, small (by rw [List.length_map]; simp only [List.length_cons, List.length_nil]; omega), fun a2 h2 => q a2 _ ((same_new h1 _).trans (same_new h2 _)) ⟨ns ++ [m + x % 3], by rw [upd_same, List.map_append]; rfl, by rw [List.length_append, List.length_singleton]; omega⟩⟩⟩
  rw [if_neg c11]
  refine hN _ _ ?_
  clear hN
  refine seq_abs fun N hN => ?_
  simp only [tIfS, tTest, tOp, tVar, List.getElem?_cons_succ, List.getElem?_cons_zero, Option.some.injEq, tC, rEq, V.bl.injEq, tRet, tLst, tCons, tUn, rU, V.int.injEq, rI, rI0, tNil, List.length_cons, List.length_nil, Nat.reduceAdd, rCat, V.ref.injEq, exists_and_left, exists_eq_left', tNext, decide_eq_true_eq]
  refine ⟨rfl, ?_⟩
  by_cases c12 : way = 12
  · rw [if_pos c12]
    exact ⟨by decide, small (by decide), fun a1 h1 => ⟨_, upd_same, _, same_new h1 _ _ _ hpa, small (by rw [List.length_map]; simp only [List.length_cons, List.length_nil]; omega), fun a2 h2 => q a2 _ ((same_new h1 _).trans (same_new h2 _)) ⟨[-1 - x % 3] ++ ns, by rw [upd_same, List.map_append]; rfl, by rw [List.length_append, List.length_singleton]; omega⟩⟩⟩
  rw [if_neg c12]
  refine hN _ _ ?_
  clear hN
  simp only [tRet, tOp, tSl, tVar, List.getElem?_cons_zero, Option.some.injEq, tNoPart, tPart, List.getElem?_cons_succ, tC, rI0, V.int.injEq, rSlL, cx_K, rCat, V.ref.injEq, exists_and_left, exists_eq_left']
  refine ⟨_, SqL.of hpa, fun a1 h1 => ⟨_, SqL.of (same_new h1 _ _ _ hpa), fun a2 h2 => ⟨_, same_new h2 _ _ _ upd_same, _, upd_same, small (by have e1 := cutV_length (ns.map V.int) none (some (pl + 1)); have e2 := cutV_length (ns.map V.int) (some pl) none; rw [List.length_map] at e1 e2; omega), fun a3 h3 => q a3 _ (((same_new h1 _).trans (same_new h2 _)).trans (same_new h3 _)) ⟨cutI ns none (some (pl + 1)) ++ cutI ns (some pl) none, by rw [upd_same, cut_ints, cut_ints, List.map_append], by have e1 := cutI_len ns none (some (pl + 1)); have e2 := cutI_len ns (some pl) none; rw [List.length_append]; omega⟩⟩⟩⟩
end
end C
set_option Elab.async false
set_option linter.all false
set_option maxRecDepth 100000
set_option maxHeartbeats 8000000
namespace C
open PySem L2
seal PE PT PW PA PS PSs PG PGs PI PPs PO PSet PIf
theorem cut_pm {α : Type} {f : α → Dt} {H : Hp} {us : List V} {ps : List α} (lo hi : Option Int) (h : DAts H (ps.map f) us) : ∃ ps' : List α, DAts H (ps'.map f) (cutV us lo hi) ∧ ps'.length ≤ ps.length ∧ ∀ x ∈ ps', x ∈ ps := by
  refine ⟨(ps.drop (HT.sIx us.length 0 lo)).take (HT.sIx us.length us.length hi - HT.sIx us.length 0 lo), ?_, by rw [List.length_take, List.length_drop]; omega, fun x hx => List.mem_of_mem_drop (List.mem_of_mem_take hx)⟩
  unfold cutV
  rw [List.map_take, List.map_drop]
  exact DAts.take _ (DAts.drop _ h)
def RsAt (H : Hp) (p : Addr) : Prop := ∃ (rs : List V) (R : List (Str × List Int)), H p = some (.lst rs) ∧ DAts H (R.map dRI) rs ∧ R.length ≤ 100 ∧ ∀ r ∈ R, Nm r.1 ∧ r.2.length ≤ 1000
theorem RsAt.same {H H' : Hp} {p : Addr} (e : Same H H') (h : RsAt H p) : RsAt H' p := by
  obtain ⟨us, ps, h1, h2, h3⟩ := h
  exact ⟨us, ps, e _ _ h1, DAts.same e h2, h3⟩
structure GW (g : Gv) : Prop where
  m1 : 1 ≤ g.1
  m40 : g.1 ≤ 40
  ps : g.2.1.length ≤ 300
  r1 : 1 ≤ g.2.2.length
  r5 : g.2.2.length ≤ 5
  r : ∀ r ∈ g.2.2, Nm r.1 ∧ r.2.length ≤ 50
theorem GW.gb {g : Gv} (h : GW g) : GB g := by
  have := h.m40
  have := h.ps
  have := h.r5
  exact ⟨by omega, by omega, by omega, fun r hr => by have := (h.r r hr).1.most; have := (h.r r hr).2; omega⟩
def spSd : Sp := fun vs H Q _ => ∃ (wa : Addr) (cell : Int) (g : Gv), vs = [.ref wa, .int cell] ∧ DAt H (dG g) (.ref wa) ∧ 0 ≤ cell ∧ GW g ∧ ∀ (p : Addr) (g' : Gv) H', Same H H' → DAt H' (dG g') (.ref p) → GB g' → (∀ r ∈ g'.2.2, Nm r.1) → Q (.ref p) H'
theorem mkG {H : Hp} {p ca la : Addr} {m : Int} (hp : H p = some (.tup [.int m, .ref ca, .ref la])) (hm : m ≤ 90) (h1 : PsAt H ca 1000) (h2 : RsAt H la) : ∃ g : Gv, DAt H (dG g) (.ref p) ∧ GB g ∧ ∀ r ∈ g.2.2, Nm r.1 := by
  obtain ⟨us, ps, hca, hus, hpl⟩ := h1
  obtain ⟨rs, R, hla, hrs, hrl, hR⟩ := h2
  exact ⟨(m, ps, R), ⟨p, _, rfl, hp, _, _, rfl, rfl, _, _, rfl, ⟨ca, us, rfl, hca, hus⟩, _, _, rfl, ⟨la, rs, rfl, hla, hrs⟩, rfl⟩, ⟨hm, hpl, hrl, fun r hr => ⟨by have := (hR r hr).1.most; omega, (hR r hr).2⟩⟩, fun r hr => (hR r hr).1⟩
section
variable {P : Program} {w : World} {K : PySem.W.Frag} {mg : Str → Option Value} {base : Heap} {f : Addr} {fd : FuncData}
theorem ok_spoiled (bi : Bi mg) (h_law_copy : Has P w K mg base 1 "_law_copy" ["world"] spCg) (h_law_bad_pairs : Has P w K mg base 1 "_law_bad_pairs" ["pairs", "way", "at", "many"] spBp) (h_law_bad_spots : Has P w K mg base 1 "_law_bad_spots" ["spots", "way", "x", "many"] spBs) (F : Fun K "_law_spoiled" "_law_spoiled" s_law_spoiled f fd) : FnOk P w K mg base CX0 2 f fd ["world", "cell"] spSd := by
  refine F.ok sc_law_spoiled (fun vs H Q E h => ?_) (fun cdv A outer s H vs Q E hr h => ?_)
  · obtain ⟨wa, cell, g, rfl, _⟩ := h
    rfl
  obtain ⟨wa, cell, g, rfl, hg, hc, gw, q⟩ := h
  refine ⟨_, (pss_cons (ps_asg (pe_callH h_law_copy (hr.mono (by omega)) rfl (pa_cons (pv 0) pa_nil)) (pg_tup rfl (pgs_cons (pg_name (i := 2) sc_law_spoiled.nd rfl (Or.inl rfl)) (pgs_cons (pg_name (i := 3) sc_law_spoiled.nd rfl (Or.inl rfl)) (pgs_cons (pg_name (i := 4) sc_law_spoiled.nd rfl (Or.inl rfl)) pgs_nil))))) (pss_cons (ps_set (i := 5) sc_law_spoiled.nd rfl (Or.inl rfl) (pe_op op_mod (pv 1) pe_int)) (pss_cons (ps_set (i := 6) sc_law_spoiled.nd rfl (Or.inl rfl) (pe_op op_fdiv (pv 1) pe_int)) (pss_cons (ps_set (i := 7) sc_law_spoiled.nd rfl (Or.inl rfl) (pe_op op_mod (pv 6) (pe_callB call_len rfl bi.len bt_len (pa_cons (pv 4) pa_nil)))) (pss_cons (ps_set (i := 8) sc_law_spoiled.nd rfl (Or.inl rfl) (pe_op op_mod (pe_op op_fdiv (pv 6) pe_int) pe_int)) (pss_cons (ps_if (pt_cmpR op_eq (pv 5) pe_int (nomark _)) (pss_one (ps_ret (pe_tup (pa_cons (pe_op op_sub pe_int (pe_op op_mod (pv 6) pe_int)) (pa_cons (pv 3) (pa_cons (pv 4) pa_nil)))))) pss_nil) (pss_cons (ps_if (PW.pt (pw_and (pt_cmpR op_le pe_int (pv 5) (nomark _)) (pw_and1 (pt_cmpR op_le (pv 5) pe_int (nomark _))))) (pss_one (ps_ret (pe_tup (pa_cons (pv 2) (pa_cons (pe_callH h_law_bad_pairs (hr.mono (by omega)) rfl (pa_cons (pv 3) (pa_cons (pv 5) (pa_cons (pv 6) (pa_cons (pv 2) pa_nil))))) (pa_cons (pv 4) pa_nil)))))) pss_nil) (pss_cons (ps_if (PW.pt (pw_and (pt_cmpR op_le pe_int (pv 5) (nomark _)) (pw_and1 (pt_cmpR op_le (pv 5) pe_int (nomark _))))) (pss_one (ps_ret (pe_tup (pa_cons (pv 2) (pa_cons (pv 3) (pa_cons (pe_op op_cat (pe_op op_cat (pe_slice sl_list (pv 4) po_none (po_some (pv 7))) (pe_lst (pa_cons (pe_tup (pa_cons (pe_ix ix_tup (pe_ix ix_list (pv 4) (pv 7) (fun _ _ => rfl)) pe_int (fun _ _ => rfl)) (pa_cons (pe_callH h_law_bad_spots (hr.mono (by omega)) rfl (pa_cons (pe_ix ix_tup (pe_ix ix_list (pv 4) (pv 7) (fun _ _ => rfl)) pe_int (fun _ _ => rfl)) (pa_cons (pv 5) (pa_cons (pv 8) (pa_cons (pv 2) pa_nil))))) pa_nil))) pa_nil))) (pe_slice sl_list (pv 4) (po_some (pe_op op_add (pv 7) pe_int)) po_none)) pa_nil)))))) pss_nil) (pss_cons (ps_if (pt_cmpR op_eq (pv 5) pe_int (nomark _)) (pss_one (ps_ret (pe_tup (pa_cons (pv 2) (pa_cons (pv 3) (pa_cons (pe_op op_cat (pe_slice sl_list (pv 4) (po_some (pv 7)) po_none) (pe_slice sl_list (pv 4) po_none (po_some (pv 7)))) pa_nil)))))) pss_nil) (pss_cons (ps_if (pt_cmpR op_eq (pv 5) pe_int (nomark _)) (pss_one (ps_ret (pe_tup (pa_cons (pv 2) (pa_cons (pv 3) (pa_cons (pe_op op_cat (pe_op op_cat (pe_slice sl_list (pv 4) po_none (po_some (pv 7))) (pe_lst (pa_cons (pe_ix ix_list (pv 4) (pv 7) (fun _ _ => rfl)) pa_nil))) (pe_slice sl_list (pv 4) (po_some (pv 7)) po_none)) pa_nil)))))) pss_nil) (pss_one (ps_ret (pe_tup (pa_cons (pv 2) (pa_cons (pv 3) (pa_cons (pv 4) pa_nil)))))))))))))))), ?_⟩
  refine seq_abs fun N hN => ?_
  simp only [tAsg, tCall, tCons, tVar, L2.start, List.map_cons, List.map_nil, List.length_cons, List.length_nil, Nat.reduceAdd, Nat.reduceSub, List.replicate, List.cons_append, List.nil_append, List.getElem?_cons_zero, Option.some.injEq, tNil, List.append_nil, gTup, cx_K, gCons, gName, gNil, List.set_cons_succ, List.set_cons_zero, exists_and_left, exists_eq_left']
  refine ⟨wa, g, rfl, hg, gw.gb, fun p ca la us rs H1 s1 hp hca hus hla hrs => ?_⟩
  refine ⟨p, rfl, _, SqT.of hp, rfl, _, _, rfl, _, _, rfl, _, _, rfl, rfl, hN _ _ ?_⟩
  clear hN hp
  have hul : us.length = g.2.1.length := by have := DAts.length hus; rwa [List.length_map] at this
  have hrl : rs.length = g.2.2.length := by have := DAts.length hrs; rwa [List.length_map] at this
  have w1 := gw.m1
  have w40 := gw.m40
  have wp := gw.ps
  have wr1 := gw.r1
  have wr5 := gw.r5
  have hpa : PsAt H1 ca 300 := ⟨us, g.2.1, hca, hus, gw.ps⟩
  have hpa' : PsAt H1 ca 1000 := ⟨us, g.2.1, hca, hus, by omega⟩
  have hrows : ∀ r ∈ g.2.2, Nm r.1 ∧ r.2.length ≤ 1000 := fun r hr => ⟨(gw.r r hr).1, by have := (gw.r r hr).2; omega⟩
  have hra : RsAt H1 la := ⟨rs, g.2.2, hla, hrs, by omega, hrows⟩
  have fin : ∀ {J : Hp} {p ca la : Addr} {m : Int}, Same H1 J → J p = some (.tup [.int m, .ref ca, .ref la]) → m ≤ 90 → PsAt J ca 1000 → RsAt J la → Q (.ref p) J := fun sJ hp hm h1 h2 => by
    obtain ⟨g', k1, k2, k3⟩ := mkG hp hm h1 h2
    exact q _ g' _ (s1.trans sJ) k1 k2 k3
  refine seq_abs fun N hN => ?_
  simp only [tAsg, tOp, tVar, List.getElem?_cons_succ, List.getElem?_cons_zero, Option.some.injEq, tC, rI, V.int.injEq, gName, List.set_cons_succ, List.set_cons_zero, exists_and_left, exists_eq_left']
  refine ⟨by decide, hN _ _ ?_⟩
  clear hN
  generalize cell % 20 = way
  refine seq_abs fun N hN => ?_
  simp only [tAsg, tOp, tVar, List.getElem?_cons_succ, List.getElem?_cons_zero, Option.some.injEq, tC, rI, V.int.injEq, gName, List.set_cons_succ, List.set_cons_zero, exists_and_left, exists_eq_left']
  refine ⟨⟨by decide, by decide⟩, hN _ _ ?_⟩
  clear hN
  have hat : 0 ≤ cell / 20 := by omega
  generalize cell / 20 = at' at hat ⊢
  refine seq_abs fun N hN => ?_
  simp only [tAsg, tOp, tVar, List.getElem?_cons_succ, List.getElem?_cons_zero, Option.some.injEq, tCB, tCons, tNil, List.cons.injEq, and_true, cx_K, rI, V.int.injEq, gName, List.set_cons_succ, List.set_cons_zero, exists_and_left, exists_eq_left']
  refine ⟨rs.length, .inl ⟨_, SqL.of hla, rfl⟩, by omega, hN _ _ ?_⟩
  clear hN
  obtain ⟨n, en, hn⟩ : ∃ n : Nat, at' % (rs.length : Int) = (n : Int) ∧ n < rs.length := by
    have h1 := Int.emod_nonneg at' (b := (rs.length : Int)) (by omega)
    have h2 := Int.emod_lt_of_pos at' (b := (rs.length : Int)) (by omega)
    exact ⟨(at' % (rs.length : Int)).toNat, by omega, by omega⟩
  rw [en]
  clear en
  refine seq_abs fun N hN => ?_
  simp only [tAsg, tOp, tVar, List.getElem?_cons_succ, List.getElem?_cons_zero, Option.some.injEq, tC, rI, V.int.injEq, gName, List.set_cons_succ, List.set_cons_zero, exists_and_left, exists_eq_left']
  refine ⟨⟨by decide, by decide⟩, by decide, hN _ _ ?_⟩
  clear hN
  have hx : 0 ≤ at' / 4 % 5040 := by omega
  generalize at' / 4 % 5040 = x at hx ⊢
  refine seq_abs fun N hN => ?_
  simp only [tIfS, tTest, tOp, tVar, List.getElem?_cons_succ, List.getElem?_cons_zero, Option.some.injEq, tC, rEq, V.bl.injEq, tRet, tTup, tCons, rI, V.int.injEq, rI0, tNil, List.length_cons, List.length_nil, Nat.reduceAdd, exists_eq_left', exists_and_left, tNext, decide_eq_true_eq]
  refine ⟨rfl, ?_⟩
  by_cases c1 : way = 1
  · rw [if_pos c1]
    exact ⟨by decide, small (by decide), fun p hp => fin (same_new hp _) upd_same (by omega) (hpa'.same (same_new hp _)) (hra.same (same_new hp _))⟩
  rw [if_neg c1]
  refine hN _ _ ?_
  clear hN
  refine seq_abs fun N hN => ?_
  simp only [tIfS, tAnd, tTest, tOp, tC, tVar, List.getElem?_cons_succ, List.getElem?_cons_zero, Option.some.injEq, rI0, V.int.injEq, V.bl.injEq, tRet, tTup, tCons, tCall, tNil, List.append_nil, List.length_cons, List.length_nil, Nat.reduceAdd, exists_eq_left', tNext, decide_eq_true_eq, exists_and_left, Bool.false_eq_true, if_false]
  by_cases c2 : 2 ≤ way ∧ way ≤ 7
  · rw [if_pos c2.1, if_pos c2.2]
    refine ⟨ca, way, at', g.1, 300, rfl, hpa, by omega, hat, w1, fun cb H2 s2 hcb => ⟨small (by decide), fun p hp => ?_⟩⟩
    have s3 := same_new hp (.tup [V.int g.1, V.ref cb, V.ref la])
    exact fin (s2.trans s3) upd_same (by omega) (hcb.same s3) (hra.same (s2.trans s3))
  have putR : ∀ {J : Hp} {c1 : Addr} {u1 u2 u3 : List V} {p1 p2 p3 : List (Str × List Int)}, J c1 = some (.lst (u1 ++ u2 ++ u3)) → DAts J (p1.map dRI) u1 → DAts J (p2.map dRI) u2 → DAts J (p3.map dRI) u3 → p1.length ≤ g.2.2.length → p2.length ≤ 1 → p3.length ≤ g.2.2.length → (∀ r ∈ p1, Nm r.1 ∧ r.2.length ≤ 1000) → (∀ r ∈ p2, Nm r.1 ∧ r.2.length ≤ 1000) → (∀ r ∈ p3, Nm r.1 ∧ r.2.length ≤ 1000) → RsAt J c1 := fun {J c1 u1 u2 u3 p1 p2 p3} k h1 h2 h3 l1 l2 l3 m1 m2 m3 => by
    refine ⟨_, (p1 ++ p2) ++ p3, k, ?_, by rw [List.length_append, List.length_append]; omega, fun r hr => ?_⟩
    · rw [List.map_append, List.map_append]
      exact DAts.append (DAts.append h1 h2) h3
    · rcases List.mem_append.mp hr with hr | hr
      · rcases List.mem_append.mp hr with hr | hr
        · exact m1 r hr
        · exact m2 r hr
      · exact m3 r hr
  obtain ⟨r, hr', hrd⟩ := mapGetV hrs (List.getElem?_eq_getElem hn)
  obtain ⟨ra, l, er, hra', hlr⟩ := riAt hrd
  have hrm := List.mem_of_getElem? hr'
  have hrn : rs[n]? = some (V.ref ra) := by rw [List.getElem?_eq_getElem hn, er]
  have hrN := gw.r r hrm
  have step : N [some (V.ref wa), some (V.int cell), some (V.int g.fst), some (V.ref ca), some (V.ref la), some (V.int way), some (V.int at'), some (V.int n), some (V.int x)] H1 := by
    refine hN _ _ ?_
    clear hN
    refine seq_abs fun N hN => ?_
    simp only [tIfS, tAnd, tTest, tOp, tC, tVar, List.getElem?_cons_succ, List.getElem?_cons_zero, Option.some.injEq, rI0, V.int.injEq, V.bl.injEq, tRet, tTup, tCons, tSl, tNoPart, tPart, rSlL, cx_K, tLst, rIxL, rIxT, tCall, tNil, List.append_nil, List.length_cons, List.length_nil, Nat.reduceAdd, rCat, V.ref.injEq, exists_and_left, exists_eq_left', tNext, decide_eq_true_eq, Bool.false_eq_true, if_false]
    by_cases c3 : 8 ≤ way ∧ way ≤ 13
    · rw [if_pos c3.1, if_pos c3.2]
      obtain ⟨q1, d1, l1, m1⟩ := cut_pm none (some (n : Int)) hrs
      obtain ⟨q3, d3, l3, m3⟩ := cut_pm (some ((n : Int) + 1)) none hrs
      have e1 := cutV_length rs none (some (n : Int))
      have e3 := cutV_length rs (some ((n : Int) + 1)) none
      refine ⟨_, SqL.of hla, fun a1 h1 => ?_⟩
      have s2 := same_new h1 (.lst (cutV rs none (some (n : Int))))
      have k1 : upd H1 a1 (.lst (cutV rs none (some (n : Int)))) a1 = some (.lst (cutV rs none (some (n : Int)))) := upd_same
      generalize upd H1 a1 (.lst (cutV rs none (some (n : Int)))) = H2 at s2 k1 ⊢
      refine ⟨_, SqL.of (s2 _ _ hla), _, atI_nat hrn, ra, rfl, _, SqT.of (s2 _ _ hra'), _, at0, _, SqL.of (s2 _ _ hla), _, atI_nat hrn, ra, rfl, _, SqT.of (s2 _ _ hra'), _, at1, ?_⟩
      refine ⟨l, way, x, g.1, 50, rfl, ⟨r.2, s2 _ _ hlr, hrN.2⟩, by omega, hx, w1, fun lb H3 s3 hlb => ⟨small (by decide), fun a3 h3 => ⟨small (by decide), fun a4 h4 => ?_⟩⟩⟩
      obtain ⟨ns, klb, hnl⟩ := hlb
      have s4 := (same_new h3 (.tup [V.str r.1, V.ref lb])).trans (same_new h4 (.lst [V.ref a3]))
      have k3 : upd (upd H3 a3 (.tup [V.str r.1, V.ref lb])) a4 (.lst [V.ref a3]) a3 = some (.tup [V.str r.1, V.ref lb]) := same_new h4 _ _ _ upd_same
      have k4 : upd (upd H3 a3 (.tup [V.str r.1, V.ref lb])) a4 (.lst [V.ref a3]) a4 = some (.lst [V.ref a3]) := upd_same
      generalize upd (upd H3 a3 (.tup [V.str r.1, V.ref lb])) a4 (.lst [V.ref a3]) = H4 at s4 k3 k4 ⊢
      refine ⟨_, (s3.trans s4) _ _ k1, _, k4, small (by simp only [List.length_cons, List.length_nil]; omega), fun a5 h5 => ?_⟩
      have s5 := same_new h5 (.lst (cutV rs none (some (n : Int)) ++ [V.ref a3]))
      have k5 : upd H4 a5 (.lst (cutV rs none (some (n : Int)) ++ [V.ref a3])) a5 = some (.lst (cutV rs none (some (n : Int)) ++ [V.ref a3])) := upd_same
      generalize upd H4 a5 (.lst (cutV rs none (some (n : Int)) ++ [V.ref a3])) = H5 at s5 k5 ⊢
      have s25 := (s2.trans s3).trans (s4.trans s5)
      refine ⟨_, SqL.of (s25 _ _ hla), fun a6 h6 => ?_⟩
      have s6 := same_new h6 (.lst (cutV rs (some ((n : Int) + 1)) none))
      have k6 : upd H5 a6 (.lst (cutV rs (some ((n : Int) + 1)) none)) a6 = some (.lst (cutV rs (some ((n : Int) + 1)) none)) := upd_same
      generalize upd H5 a6 (.lst (cutV rs (some ((n : Int) + 1)) none)) = H6 at s6 k6 ⊢
      refine ⟨_, s6 _ _ k5, _, k6, small (by simp only [List.length_append, List.length_cons, List.length_nil]; omega), fun a7 h7 => ?_⟩
      have s7 := same_new h7 (.lst (cutV rs none (some (n : Int)) ++ [V.ref a3] ++ cutV rs (some ((n : Int) + 1)) none))
      have k7 : upd H6 a7 (.lst (cutV rs none (some (n : Int)) ++ [V.ref a3] ++ cutV rs (some ((n : Int) + 1)) none)) a7 = some (.lst (cutV rs none (some (n : Int)) ++ [V.ref a3] ++ cutV rs (some ((n : Int) + 1)) none)) := upd_same
      generalize upd H6 a7 (.lst (cutV rs none (some (n : Int)) ++ [V.ref a3] ++ cutV rs (some ((n : Int) + 1)) none)) = H7 at s7 k7 ⊢
      refine ⟨small (by decide), fun p hp => ?_⟩
      have s8 := same_new hp (.tup [V.int g.1, V.ref ca, V.ref a7])
      have s38 := ((s4.trans s5).trans (s6.trans s7)).trans s8
      have s28 := (s2.trans s3).trans s38
      refine fin s28 upd_same (by omega) (hpa'.same s28) (putR (p1 := q1) (p2 := [(r.1, ns)]) (p3 := q3) (s8 _ _ k7) (DAts.same s28 d1) (DAts.one ?_) (DAts.same s28 d3) l1 (by simp) l3 (fun z hz => hrows z (m1 z hz)) (fun z hz => ?_) (fun z hz => hrows z (m3 z hz)))
      · exact ⟨a3, _, rfl, ((s5.trans (s6.trans s7)).trans s8) _ _ k3, _, _, rfl, rfl, _, _, rfl, ⟨lb, _, rfl, s38 _ _ klb, intsAt _ _⟩, rfl⟩
      · rw [List.mem_singleton.mp hz]
        exact ⟨hrN.1, by show ns.length ≤ 1000; omega⟩
    have step : N [some (V.ref wa), some (V.int cell), some (V.int g.fst), some (V.ref ca), some (V.ref la), some (V.int way), some (V.int at'), some (V.int n), some (V.int x)] H1 := by
      refine hN _ _ ?_
      clear hN
      obtain ⟨q1, d1, l1, m1⟩ := cut_pm none (some (n : Int)) hrs
      obtain ⟨q3, d3, l3, m3⟩ := cut_pm (some (n : Int)) none hrs
      have e1 := cutV_length rs none (some (n : Int))
      have e3 := cutV_length rs (some (n : Int)) none
      refine seq_abs fun N hN => ?_
      simp only [tIfS, tTest, tOp, tVar, List.getElem?_cons_succ, List.getElem?_cons_zero, Option.some.injEq, tC, rEq, V.bl.injEq, tRet, tTup, tCons, tSl, tPart, tNoPart, rSlL, cx_K, rCat, V.ref.injEq, tNil, List.length_cons, List.length_nil, Nat.reduceAdd, exists_and_left, exists_eq_left', V.int.injEq, tNext, decide_eq_true_eq]
      refine ⟨rfl, ?_⟩
      by_cases c4 : way = 14
      · rw [if_pos c4]
        refine ⟨_, SqL.of hla, fun a1 h1 => ?_⟩
        have s2 := same_new h1 (.lst (cutV rs (some (n : Int)) none))
        have k1 : upd H1 a1 (.lst (cutV rs (some (n : Int)) none)) a1 = some (.lst (cutV rs (some (n : Int)) none)) := upd_same
        generalize upd H1 a1 (.lst (cutV rs (some (n : Int)) none)) = H2 at s2 k1 ⊢
        refine ⟨_, SqL.of (s2 _ _ hla), fun a2 h2 => ?_⟩
        have s3 := same_new h2 (.lst (cutV rs none (some (n : Int))))
        have k2 : upd H2 a2 (.lst (cutV rs none (some (n : Int)))) a2 = some (.lst (cutV rs none (some (n : Int)))) := upd_same
        generalize upd H2 a2 (.lst (cutV rs none (some (n : Int)))) = H3 at s3 k2 ⊢
        refine ⟨_, s3 _ _ k1, _, k2, small (by omega), fun a3 h3 => ?_⟩
        have s4 := same_new h3 (.lst (cutV rs (some (n : Int)) none ++ cutV rs none (some (n : Int))))
        have k3 : upd H3 a3 (.lst (cutV rs (some (n : Int)) none ++ cutV rs none (some (n : Int)))) a3 = some (.lst (cutV rs (some (n : Int)) none ++ [] ++ cutV rs none (some (n : Int)))) := by rw [upd_same, List.append_nil]
        generalize upd H3 a3 (.lst (cutV rs (some (n : Int)) none ++ cutV rs none (some (n : Int)))) = H4 at s4 k3 ⊢
        refine ⟨small (by decide), fun p hp => ?_⟩
        have s5 := same_new hp (.tup [V.int g.1, V.ref ca, V.ref a3])
        have s25 := (s2.trans s3).trans (s4.trans s5)
        exact fin s25 upd_same (by omega) (hpa'.same s25) (putR (p1 := q3) (p2 := []) (p3 := q1) (s5 _ _ k3) (DAts.same s25 d3) rfl (DAts.same s25 d1) l3 (by simp) l1 (fun z hz => hrows z (m3 z hz)) (fun z hz => by cases hz) (fun z hz => hrows z (m1 z hz)))
      rw [if_neg c4]
      refine hN _ _ ?_
      clear hN
      refine seq_abs fun N hN => ?_
      simp only [tIfS, tTest, tOp, tVar, List.getElem?_cons_succ, List.getElem?_cons_zero, Option.some.injEq, tC, rEq, V.bl.injEq, tRet, tTup, tCons, tSl, tNoPart, tPart, rSlL, cx_K, tLst, rIxL, tNil, List.length_cons, List.length_nil, Nat.reduceAdd, rCat, V.ref.injEq, exists_and_left, exists_eq_left', V.int.injEq, tNext, decide_eq_true_eq]
      refine ⟨rfl, ?_⟩
      by_cases c5 : way = 15
      · rw [if_pos c5]
        refine ⟨_, SqL.of hla, fun a1 h1 => ?_⟩
        have s2 := same_new h1 (.lst (cutV rs none (some (n : Int))))
        have k1 : upd H1 a1 (.lst (cutV rs none (some (n : Int)))) a1 = some (.lst (cutV rs none (some (n : Int)))) := upd_same
        generalize upd H1 a1 (.lst (cutV rs none (some (n : Int)))) = H2 at s2 k1 ⊢
        refine ⟨_, SqL.of (s2 _ _ hla), _, atI_nat hrn, small (by decide), fun a2 h2 => ?_⟩
        have s3 := same_new h2 (.lst [V.ref ra])
        have k2 : upd H2 a2 (.lst [V.ref ra]) a2 = some (.lst [V.ref ra]) := upd_same
        generalize upd H2 a2 (.lst [V.ref ra]) = H3 at s3 k2 ⊢
        refine ⟨_, s3 _ _ k1, _, k2, small (by simp only [List.length_cons, List.length_nil]; omega), fun a3 h3 => ?_⟩
        have s4 := same_new h3 (.lst (cutV rs none (some (n : Int)) ++ [V.ref ra]))
        have k3 : upd H3 a3 (.lst (cutV rs none (some (n : Int)) ++ [V.ref ra])) a3 = some (.lst (cutV rs none (some (n : Int)) ++ [V.ref ra])) := upd_same
        generalize upd H3 a3 (.lst (cutV rs none (some (n : Int)) ++ [V.ref ra])) = H4 at s4 k3 ⊢
        have s24 := (s2.trans s3).trans s4
        refine ⟨_, SqL.of (s24 _ _ hla), fun a4 h4 => ?_⟩
        have s5 := same_new h4 (.lst (cutV rs (some (n : Int)) none))
        have k4 : upd H4 a4 (.lst (cutV rs (some (n : Int)) none)) a4 = some (.lst (cutV rs (some (n : Int)) none)) := upd_same
        generalize upd H4 a4 (.lst (cutV rs (some (n : Int)) none)) = H5 at s5 k4 ⊢
        refine ⟨_, s5 _ _ k3, _, k4, small (by simp only [List.length_append, List.length_cons, List.length_nil]; omega), fun a5 h5 => ?_⟩
        have s6 := same_new h5 (.lst (cutV rs none (some (n : Int)) ++ [V.ref ra] ++ cutV rs (some (n : Int)) none))
        have k5 : upd H5 a5 (.lst (cutV rs none (some (n : Int)) ++ [V.ref ra] ++ cutV rs (some (n : Int)) none)) a5 = some (.lst (cutV rs none (some (n : Int)) ++ [V.ref ra] ++ cutV rs (some (n : Int)) none)) := upd_same
        generalize upd H5 a5 (.lst (cutV rs none (some (n : Int)) ++ [V.ref ra] ++ cutV rs (some (n : Int)) none)) = H6 at s6 k5 ⊢
        refine ⟨small (by decide), fun p hp => ?_⟩
        have s7 := same_new hp (.tup [V.int g.1, V.ref ca, V.ref a5])
        have s27 := s24.trans ((s5.trans s6).trans s7)
        exact fin s27 upd_same (by omega) (hpa'.same s27) (putR (p1 := q1) (p2 := [r]) (p3 := q3) (s7 _ _ k5) (DAts.same s27 d1) (DAts.one (DAt.same s27 (er ▸ hrd))) (DAts.same s27 d3) l1 (by simp) l3 (fun z hz => hrows z (m1 z hz)) (fun z hz => by rw [List.mem_singleton.mp hz]; exact hrows r hrm) (fun z hz => hrows z (m3 z hz)))
      rw [if_neg c5]
      refine hN _ _ ?_
      clear hN
      simp only [tRet, tTup, tCons, tVar, List.getElem?_cons_succ, List.getElem?_cons_zero, Option.some.injEq, tNil, List.length_cons, List.length_nil, Nat.reduceAdd, exists_eq_left']
      refine ⟨small (by decide), fun p hp => ?_⟩
      have s2 := same_new hp (.tup [V.int g.1, V.ref ca, V.ref la])
      exact fin s2 upd_same (by omega) (hpa'.same s2) (hra.same s2)
    by_cases d1 : 8 ≤ way
    · rw [if_pos d1, if_neg (fun z => c3 ⟨d1, z⟩)]; exact step
    · rw [if_neg d1]; exact step
  by_cases d1 : 2 ≤ way
  · rw [if_pos d1, if_neg (fun z => c2 ⟨d1, z⟩)]; exact step
  · rw [if_neg d1]; exact step
end
end C
set_option Elab.async false
set_option linter.all false
set_option maxRecDepth 100000
set_option maxHeartbeats 8000000
namespace C
open PySem L2
seal PE PT PW PA PS PSs PG PGs PI PPs PO PSet PIf
abbrev s_law : Stmt := top 33
theorem sc_law : FnScope ["script", "names", "world", "cell", "given", "handed", "found"] ["script"] (defScope s_law) := ⟨rfl, rfl, rfl, by decide +kernel, rfl, by decide +kernel, by decide +kernel⟩
def spLaw (K : PySem.W.Frag) : Sp := fun vs H Q _ => ∃ (a : Addr) (ns : List Int), vs = [.ref a] ∧ SqL K H a (ns.map V.int) ∧ ns.length ≤ 63 ∧ ∀ H', Q (.bl true) H'
theorem isN_of {x : Str} (h : Nm x) : isN x = true := by
  have e : x.cps.toList.all inL = true := List.all_eq_true.mpr fun c hc => by rw [inL_eq, isL_iff]; exact h.low c hc
  unfold isN
  rw [decide_eq_true h.pos, decide_eq_true h.most, e, decide_eq_false h.nn, decide_eq_false h.na]
  rfl
theorem pw_riB : ∀ {ns : List Int}, ns.Pairwise (· < ·) → riB ns = true
  | [], _ => rfl
  | [x], _ => rfl
  | x :: y :: l, h => by
    have h' := List.pairwise_cons.mp h
    rw [riB_cons, decide_eq_true (h'.1 y List.mem_cons_self), Bool.true_and]
    exact pw_riB h'.2
theorem spB2 (m a b : Int) : spB m [a, b] = decide (0 ≤ a ∧ a < b ∧ b < m) := by
  unfold spB
  rw [riB_cons]
  rw [Bool.eq_iff_iff]
  simp [riB]
  omega
theorem clB_eq (m : Int) (ps : List (Int × Int)) : clB m ps = ((ps.all fun p => decide (0 ≤ p.1 ∧ p.1 < p.2 ∧ p.2 < m)) && riP ps) := by
  unfold clB
  congr 1
  congr 1
  funext p
  exact spB2 m p.1 p.2
def chS : List Nat → List Str → Bool
  | _, [] => true
  | l, z :: zs => decide (l < z.cps.toList) && chS z.cps.toList zs
theorem riS_cons (x y : Str) (l : List Str) : riS (x :: y :: l) = (decide (x.cps.toList < y.cps.toList) && riS (y :: l)) := by
  unfold riS
  show (List.range (l.length + 1)).all _ = _
  rw [List.range_succ_eq_map, List.all_cons, List.all_map]
  rfl
theorem riS_ch : ∀ (x : Str) (l : List Str), riS (x :: l) = chS x.cps.toList l
  | x, [] => rfl
  | x, y :: l => by rw [riS_cons, riS_ch y l, chS]
def rwB (m : Int) (ps : List (Int × Int)) (r : Str × List Int) : Bool := (r.2.all fun i => decide (0 ≤ i) && decide (i < m)) && ((cnt m.toNat (natp ps) (cnt m.toNat (natp ps) (nats r.2))).map (fun n : Nat => (n : Int)) == r.2)
theorem roB_eq (m : Int) (ps : List (Int × Int)) : ∀ (l : List Nat) (rs : List (Str × List Int)), roB m ps l rs = (chS l (rs.map (·.1)) && rs.all (rwB m ps))
  | l, [] => rfl
  | l, r :: rs => by
    rw [roB, roB_eq m ps _ rs, List.map_cons, chS, List.all_cons, rwB, Bool.not_not]
    generalize (r.2.all fun i => decide (0 ≤ i) && decide (i < m)) = a
    generalize ((cnt m.toNat (natp ps) (cnt m.toNat (natp ps) (nats r.2))).map (fun n : Nat => (n : Int)) == r.2) = b
    generalize decide (l < r.1.cps.toList) = d
    generalize chS r.1.cps.toList (rs.map (·.1)) = e
    generalize rs.all (rwB m ps) = f
    cases a <;> cases b <;> cases d <;> cases e <;> cases f <;> rfl
theorem nats_back {ns : List Int} (h : ∀ i ∈ ns, 0 ≤ i) : (nats ns).map (fun n : Nat => (n : Int)) = ns := by
  unfold nats
  rw [List.map_map]
  refine (List.map_congr_left fun i hi => ?_).trans (List.map_id ns)
  exact Int.toNat_of_nonneg (h i hi)
theorem nats_cast (xs : List Nat) : nats (xs.map fun n : Nat => (n : Int)) = xs := by
  unfold nats
  rw [List.map_map]
  exact (List.map_congr_left fun i _ => rfl).trans (List.map_id xs)
theorem rwB_eq (m : Int) (ps : List (Int × Int)) (r : Str × List Int) : rwB m ps r = (spB m r.2 && fuB m ps r.2) := by
  have e0 : (r.2.all fun i => decide (0 ≤ i) && decide (i < m)) = (r.2.all fun i => decide (0 ≤ i ∧ i < m)) := by
    congr 1
    funext i
    rw [Bool.eq_iff_iff]
    simp
  rw [Bool.eq_iff_iff]
  unfold rwB spB fuB
  rw [e0]
  simp only [Bool.and_eq_true, decide_eq_true_eq, beq_iff_eq]
  constructor
  · rintro ⟨h1, h2⟩
    have hr : riB r.2 = true := by
      rw [← h2]
      refine pw_riB ?_
      rw [List.pairwise_map]
      exact (cnt_rise ..).imp fun h => by omega
    refine ⟨⟨h1, hr⟩, ?_⟩
    have := congrArg nats h2
    rwa [nats_cast] at this
  · rintro ⟨⟨h1, _⟩, h3⟩
    refine ⟨h1, ?_⟩
    rw [h3]
    exact nats_back fun i hi => (of_decide_eq_true (List.all_eq_true.mp h1 i hi)).1
theorem wB_stB {g : Gv} (h : ∀ r ∈ g.2.2, Nm r.1) : wB g = stB g := by
  unfold wB stB
  rw [clB_eq, roB_eq]
  have e1 : (g.2.2.all fun r => isN r.1 && spB g.1 r.2) = g.2.2.all fun r => spB g.1 r.2 := by
    rw [Bool.eq_iff_iff, List.all_eq_true, List.all_eq_true]
    exact ⟨fun z r hr => by have := z r hr; rwa [isN_of (h r hr), Bool.true_and] at this, fun z r hr => by rw [isN_of (h r hr), Bool.true_and]; exact z r hr⟩
  have e2 : g.2.2.all (rwB g.1 g.2.1) = ((g.2.2.all fun r => spB g.1 r.2) && g.2.2.all fun r => fuB g.1 g.2.1 r.2) := by
    rw [show rwB g.1 g.2.1 = fun r => spB g.1 r.2 && fuB g.1 g.2.1 r.2 from funext fun r => rwB_eq ..]
    rw [Bool.eq_iff_iff]
    simp only [List.all_eq_true, Bool.and_eq_true]
    exact ⟨fun z => ⟨fun r hr => (z r hr).1, fun r hr => (z r hr).2⟩, fun z r hr => ⟨z.1 r hr, z.2 r hr⟩⟩
  have e3 : chS [] (g.2.2.map (·.1)) = riS (g.2.2.map (·.1)) := by
    cases hz : g.2.2 with
    | nil => rfl
    | cons r rs =>
      rw [List.map_cons, riS_ch, chS]
      have hn := (h r (by rw [hz]; exact List.mem_cons_self)).pos
      have : ([] : List Nat) < r.1.cps.toList := by
        have hl : 1 ≤ r.1.cps.toList.length := by rw [Array.length_toList]; exact hn
        cases hc : r.1.cps.toList with
        | nil => rw [hc] at hl; cases hl
        | cons c cs => exact List.nil_lt_cons c cs
      rw [decide_eq_true this, Bool.true_and]
  rw [e1, e2, e3]
  generalize decide (1 ≤ g.1) = a
  generalize (g.2.1.all fun p => decide (0 ≤ p.1 ∧ p.1 < p.2 ∧ p.2 < g.1)) = b
  generalize riP g.2.1 = c
  generalize (g.2.2.all fun r => spB g.1 r.2) = d
  generalize riS (g.2.2.map (·.1)) = e
  generalize (g.2.2.all fun r => fuB g.1 g.2.1 r.2) = f
  cases a <;> cases b <;> cases c <;> cases d <;> cases e <;> cases f <;> rfl
def dRo (z : Str) (sp : List Nat) : Dt := .tup [.str z, .lst (sp.map fun n : Nat => Dt.int n)]
theorem rosAt {H : Hp} {m : Nat} : ∀ {T : List Ro}, TrAt H m T → DAts H (T.map fun e => dRo e.2.1 e.2.2.2) ((T.map (·.1)).map V.ref)
  | [], _ => rfl
  | e :: T, h => by
    have h1 := h e List.mem_cons_self
    exact ⟨_, _, rfl, ⟨e.1, _, rfl, h1.1, _, _, rfl, rfl, _, _, rfl, ⟨e.2.2.1, _, rfl, h1.2.1, natsAt _ _⟩, rfl⟩, rosAt fun e he => h e (List.mem_cons_of_mem _ he)⟩
def gOf (m : Nat) (ps : List (Nat × Nat)) (T : List Ro) : Gv := ((m : Int), ps.map (fun p => ((p.1 : Int), (p.2 : Int))), T.map fun e => (e.2.1, e.2.2.2.map fun n : Nat => (n : Int)))
theorem WdAt.dg {H : Hp} {wa : Addr} {m : Nat} {ps : List (Nat × Nat)} {T : List Ro} {ca la : Addr} {us : List V} (h : WdAt H wa m ps T ca la us) : DAt H (dG (gOf m ps T)) (.ref wa) := by
  have e1 : (gOf m ps T).2.1.map dI2 = ps.map dP2 := by
    unfold gOf
    rw [List.map_map]
    rfl
  have e2 : (gOf m ps T).2.2.map dRI = T.map fun e => dRo e.2.1 e.2.2.2 := by
    unfold gOf
    rw [List.map_map]
    refine List.map_congr_left fun e _ => ?_
    show Dt.tup [.str e.2.1, .lst ((e.2.2.2.map fun n : Nat => (n : Int)).map Dt.int)] = _
    rw [List.map_map]
    rfl
  unfold dG
  rw [e1, e2]
  exact ⟨wa, _, rfl, h.tup, _, _, rfl, rfl, _, _, rfl, ⟨ca, _, rfl, h.cl, h.dat⟩, _, _, rfl, ⟨la, _, rfl, h.rows, rosAt h.tr⟩, rfl⟩
theorem WdAt.gw {H : Hp} {wa : Addr} {m : Nat} {ps : List (Nat × Nat)} {T : List Ro} {ca la : Addr} {us : List V} {zs : List Str} (h : WdAt H wa m ps T ca la us) (hp : (T.map (·.2.1)).Perm zs) (hz : ∀ z ∈ zs, Nm z) (h1 : 1 ≤ zs.length) : GW (gOf m ps T) := by
  have h0 := h.m1
  have h40 := h.m90
  have hpl := h.pl
  have htl := h.tl
  have hl := hp.length_eq
  rw [List.length_map] at hl
  refine ⟨?_, ?_, ?_, ?_, ?_, fun r hr => ?_⟩
  · show (1 : Int) ≤ (m : Int); omega
  · show (m : Int) ≤ 40; omega
  · show (ps.map _).length ≤ 300; rw [List.length_map]; omega
  · show 1 ≤ (T.map _).length; rw [List.length_map]; omega
  · show (T.map _).length ≤ 5; rw [List.length_map]; omega
  · obtain ⟨e, he, rfl⟩ := List.mem_map.mp hr
    have htr := h.tr e he
    have hl := rise_len htr.2.2.2 htr.2.2.1
    refine ⟨hz _ (hp.mem_iff.mp (List.mem_map.mpr ⟨e, he, rfl⟩)), ?_⟩
    show (e.2.2.2.map _).length ≤ 50
    rw [List.length_map]
    omega
theorem GB.fit {g : Gv} (h : GB g) : DFit 5 (dG g) := by
  refine ⟨by simp, fun d hd => ?_⟩
  simp only [List.mem_cons, List.not_mem_nil, or_false] at hd
  rcases hd with rfl | rfl | rfl
  · trivial
  · refine ⟨by rw [List.length_map]; exact h.ps, fun d hd => ?_⟩
    obtain ⟨p, _, rfl⟩ := List.mem_map.mp hd
    refine ⟨by simp, fun d hd => ?_⟩
    simp only [List.mem_cons, List.not_mem_nil, or_false] at hd
    rcases hd with rfl | rfl <;> trivial
  · refine ⟨by rw [List.length_map]; have := h.rs; omega, fun d hd => ?_⟩
    obtain ⟨e, he, rfl⟩ := List.mem_map.mp hd
    have hr := (h.r e he).2
    refine ⟨by simp, fun d hd => ?_⟩
    simp only [List.mem_cons, List.not_mem_nil, or_false] at hd
    rcases hd with rfl | rfl
    · trivial
    · refine ⟨by rw [List.length_map]; exact hr, fun d hd => ?_⟩
      obtain ⟨n, _, rfl⟩ := List.mem_map.mp hd
      trivial
section
variable {P : Program} {w : World} {K : PySem.W.Frag} {mg : Str → Option Value} {base : Heap} {f : Addr} {fd : FuncData}
theorem ok_law (bi : Bi mg) (h_law_draw : Has P w K mg base 1 "_law_draw" ["script", "k"] (spDr K)) (h_law_names : Has P w K mg base 2 "_law_names" ["script", "k", "many"] (spNs K)) (h_law_world : Has P w K mg base 2 "_law_world" ["script", "k", "names"] (spWd K)) (h_law_spoiled : Has P w K mg base 2 "_law_spoiled" ["world", "cell"] spSd) (h_law_copy : Has P w K mg base 1 "_law_copy" ["world"] spCg) (h_is_world : Has P w K mg base 5 "is_world" ["world"] (spIw K)) (h_law_stands : Has P w K mg base 5 "_law_stands" ["world"] (spSn K))
    (F : Fun K "law" "law" s_law f fd) : FnOk P w K mg base CX0 65 f fd ["script"] (spLaw K) := by
  refine F.ok sc_law (fun vs H Q E h => ?_) (fun cdv A outer s H vs Q E hr h => ?_)
  · obtain ⟨a, ns, rfl, _⟩ := h
    rfl
  obtain ⟨a, ns, rfl, hS, hl, q⟩ := h
  refine ⟨_, (pss_cons (ps_set (i := 1) sc_law.nd rfl (Or.inl rfl) (pe_callH h_law_names (hr.mono (by omega)) rfl (pa_cons (pv 0) (pa_cons pe_int (pa_cons (pe_op op_add pe_int (pe_op op_mod (pe_callH h_law_draw (hr.mono (by omega)) rfl (pa_cons (pv 0) (pa_cons pe_int pa_nil))) pe_int)) pa_nil))))) (pss_cons (ps_set (i := 2) sc_law.nd rfl (Or.inl rfl) (pe_callH h_law_world (hr.mono (by omega)) rfl (pa_cons (pv 0) (pa_cons pe_int (pa_cons (pv 1) pa_nil))))) (pss_cons (ps_for PassesOwn.never rfl (pi_list (pe_op op_cat (pe_lst (pa_cons pe_int pa_nil)) (pe_slice sl_list (pv 0) (po_some pe_int) (po_some pe_int)))) (pg_name (i := 3) sc_law.nd rfl (Or.inl rfl)) (pss_cons (ps_set (i := 4) sc_law.nd rfl (Or.inl rfl) (pe_callH h_law_spoiled (hr.mono (by omega)) rfl (pa_cons (pv 2) (pa_cons (pe_op op_mod (pv 3) (pe_op op_pow pe_int pe_int)) pa_nil)))) (pss_cons (ps_set (i := 5) sc_law.nd rfl (Or.inl rfl) (pe_callH h_law_copy (hr.mono (by omega)) rfl (pa_cons (pv 4) pa_nil))) (pss_cons (ps_set (i := 6) sc_law.nd rfl (Or.inl rfl) (pe_callH h_is_world (hr.mono (by omega)) rfl (pa_cons (pv 5) pa_nil))) (pss_one (ps_if (PW.pt (pw_or (pt_not (pt_val (pe_callB (call_isi (T := "bool")) rfl bi.isinstance bt_isinstance (pa_cons (pv 6) (pa_cons (pe_ty bi.bool bt_bool rfl) pa_nil))))) (pw_or (pt_cmpR op_ne (pv 6) (pe_callH h_law_stands (hr.mono (by omega)) rfl (pa_cons (pv 4) pa_nil)) (nomark _)) (pw_or1 (pt_cmpR (op_neG hr.units) (pv 5) (pv 4) (nomark _)))))) (pss_one (ps_ret pe_bl)) pss_nil)))))) (pss_one (ps_ret pe_bl))))), ?_⟩
  refine seq_abs fun N hN => ?_
  simp only [tAsg, tCall, tCons, tVar, L2.start, List.map_cons, List.map_nil, List.length_cons, List.length_nil, Nat.reduceAdd, Nat.reduceSub, List.replicate, List.cons_append, List.nil_append, List.getElem?_cons_zero, Option.some.injEq, tC, tOp, tNil, List.append_nil, rI, V.int.injEq, rI0, gName, List.set_cons_succ, List.set_cons_zero, exists_and_left, exists_eq_left']
  refine ⟨a, ns, 2, rfl, hS, hl, by omega, fun z hz => ⟨z, rfl, by decide, ?_⟩⟩
  obtain ⟨j, ej⟩ : ∃ j : Nat, 1 + z % 4 = (j : Int) := ⟨(1 + z % 4).toNat, by omega⟩
  have hj1 : 1 ≤ j := by omega
  have hj5 : j ≤ 5 := by omega
  rw [ej]
  refine ⟨a, ns, 0, j, rfl, hS, hl, by omega, hj1, hj5, fun na zs H1 s1 hnm => hN _ _ ?_⟩
  clear hN
  replace hS := Same.seq s1 hS
  refine seq_abs fun N hN => ?_
  simp only [tAsg, tCall, tCons, tVar, List.getElem?_cons_zero, Option.some.injEq, tC, List.getElem?_cons_succ, tNil, List.append_nil, gName, List.set_cons_succ, List.set_cons_zero, exists_eq_left']
  refine ⟨a, na, ns, 3, j, zs, rfl, hS, hl, by omega, hnm, hj1, hj5, fun wa m ps T ca la us H2 s2 hw hpz => hN _ _ ?_⟩
  clear hN
  replace hS := Same.seq s2 hS
  have gw := hw.gw hpz hnm.nm (by rw [hnm.len]; exact hj1)
  have hdg := hw.dg
  generalize gOf m ps T = g at gw hdg
  refine seq_join (fun σ H' => True) (fun N hN => ?_) (fun σ H' h => ?_)
  · simp only [cx_K, exists_and_left, tFor_eq, iList, tOp, tLst, tCons, tC, tNil, List.length_cons, List.length_nil, Nat.reduceAdd, tSl, tVar, List.getElem?_cons_zero, Option.some.injEq, tPart, V.int.injEq, rSlL, rCat, V.ref.injEq, exists_eq_left']
    have hcl := cutI_len ns (some 9) (some 33)
    refine ⟨small (by decide), fun p1 h1 => ⟨_, Same.seq (same_new h1 _) hS, fun p2 h2 => ?_⟩⟩
    rw [cut_ints]
    refine ⟨_, same_new h2 _ _ _ upd_same, _, upd_same, small (by rw [List.length_map]; simp only [List.length_cons, List.length_nil]; omega), fun p3 h3 => ?_⟩
    have e0 : [V.int 0] ++ (cutI ns (some 9) (some 33)).map V.int = ((0 : Int) :: cutI ns (some 9) (some 33)).map V.int := rfl
    rw [e0]
    have s3 := ((same_new h1 (.lst [V.int 0])).trans (same_new h2 (.lst ((cutI ns (some 9) (some 33)).map V.int)))).trans (same_new h3 (.lst (((0 : Int) :: cutI ns (some 9) (some 33)).map V.int)))
    have k3 : upd (upd (upd H2 p1 (.lst [V.int 0])) p2 (.lst ((cutI ns (some 9) (some 33)).map V.int))) p3 (.lst (((0 : Int) :: cutI ns (some 9) (some 33)).map V.int)) p3 = some (.lst (((0 : Int) :: cutI ns (some 9) (some 33)).map V.int)) := upd_same
    generalize upd (upd (upd H2 p1 (.lst [V.int 0])) p2 (.lst ((cutI ns (some 9) (some 33)).map V.int))) p3 (.lst (((0 : Int) :: cutI ns (some 9) (some 33)).map V.int)) = H3 at s3 k3 ⊢
    generalize (0 : Int) :: cutI ns (some 9) (some 33) = cs at k3 ⊢
    refine ⟨⟨_, SqL.of k3⟩, ?_⟩
    refine fw_list (xs := cs.map V.int) (fun i σ H' => Same H3 H' ∧ ∃ (o1 o2 o3 o4 : Option V), σ = [some (V.ref a), some (V.ref na), some (V.ref wa), o1, o2, o3, o4]) ⟨Same.refl _, _, _, _, _, rfl⟩ (fun i σ H' _ h => SqL.of (h.1 _ _ k3)) (fun i x σ H' hx h => ?_) (fun σ H' h => hN _ _ trivial)
    obtain ⟨s4, o1, o2, o3, o4, rfl⟩ := h
    rw [List.getElem?_map] at hx
    obtain ⟨c, hc, rfl⟩ := Option.map_eq_some_iff.mp hx
    have s34 := s3.trans s4
    refine seq_abs fun N hN => ?_
    simp only [tAsg, tCall, tCons, tVar, List.set_cons_succ, List.set_cons_zero, List.getElem?_cons_succ, List.getElem?_cons_zero, Option.some.injEq, tOp, tC, rI, V.int.injEq, tNil, List.append_nil, gName, exists_and_left, exists_eq_left']
    refine ⟨⟨by decide, by decide, by decide⟩, p1060, wa, _, g, rfl, DAt.same s34 hdg, Int.emod_nonneg c (Int.ne_of_gt p1060), gw, fun gp g' H5 s5 hg' gb' hn' => hN _ _ ?_⟩
    clear hN
    refine seq_abs fun N hN => ?_
    simp only [tAsg, tCall, tCons, tVar, List.getElem?_cons_succ, List.getElem?_cons_zero, Option.some.injEq, tNil, List.append_nil, gName, List.set_cons_succ, List.set_cons_zero, exists_eq_left']
    refine ⟨gp, g', rfl, hg', gb', fun hp ca' la' us' rs' H6 s6 hhp hca' hus' hla' hrs' => hN _ _ ?_⟩
    clear hN
    have hh6 : DAt H6 (dG g') (.ref hp) := ⟨hp, _, rfl, hhp, _, _, rfl, rfl, _, _, rfl, ⟨ca', us', rfl, hca', hus'⟩, _, _, rfl, ⟨la', rs', rfl, hla', hrs'⟩, rfl⟩
    refine seq_abs fun N hN => ?_
    simp only [tAsg, tCall, tCons, tVar, List.getElem?_cons_succ, List.getElem?_cons_zero, Option.some.injEq, tNil, List.append_nil, gName, List.set_cons_succ, List.set_cons_zero, exists_eq_left']
    refine ⟨hp, g', rfl, hh6, gb', fun H7 s7 => hN _ _ ?_⟩
    clear hN
    simp only [tIfS, tOr, tNot, tB, tCB, tCons, tVar, List.getElem?_cons_succ, List.getElem?_cons_zero, Option.some.injEq, tC, tNil, List.cons.injEq, and_true, V.bl.injEq, Bool.not_eq_true', tRet, tNext, true_and, exists_and_left, exists_eq_left', if_true, tTest, tOp, tCall, List.append_nil, rNe, decide_eq_false_iff_not]
    refine ⟨_, .bl _, true, kit_same, ?_⟩
    rw [if_neg (by decide)]
    refine ⟨gp, g', rfl, DAt.same (s6.trans s7) hg', gb', fun H8 s8 => ⟨rfl, ?_⟩⟩
    rw [wB_stB hn', if_neg (fun z => z rfl)]
    refine ⟨4, _, _, DAt.same (s7.trans s8) hh6, DAt.same ((s6.trans s7).trans s8) hg', gb'.fit, by omega, _, rfl, ?_⟩
    rw [deq_refl, if_neg (by decide)]
    exact ⟨(s4.trans s5).trans ((s6.trans s7).trans s8), _, rfl⟩
  simp only [tRet, tC]
  exact q _
end
end C
set_option Elab.async false
set_option linter.all false
set_option maxRecDepth 100000
set_option maxHeartbeats 8000000
namespace C
open PySem L2
seal PE PT PW PA PS PSs PG PGs PI PPs PO PSet PIf
theorem all_mk {l : PySem.W.OpenLaw} {w : World} {K : PySem.W.Frag} {h : Heap} {mg : Str → Option Value} {fa : Addr} (X : K.In h) (G : h.Ns mainGlobals mg) (hfa : mg "law" = some (.ref fa))
    {C_Floor : Addr} (aC_Floor : PySem.W.nsIn K mainGlobals "Floor" = some (some (.ref C_Floor)))
    {f_Floor_init : Addr} {od_Floor_init an_Floor_init : Option Addr} {sl_Floor_init : Array (Option Value)} {oc_Floor_init kV_Floor_init dc_Floor_init pm_Floor_init cd_Floor_init ct_Floor_init : Value} (a_Floor_init : PySem.W.findIn K (.ref C_Floor) "__init__" = some (some (.ref f_Floor_init))) (i_Floor_init : PySem.W.isFn K (.ref f_Floor_init) = true) (l_Floor_init : K.lookup f_Floor_init = some ⟨oc_Floor_init, od_Floor_init, .func (PySem.W.fnOf "__init__" "Floor.__init__" (defArgs s_Floor_init) (defBody s_Floor_init) (defScope s_Floor_init) .none kV_Floor_init dc_Floor_init pm_Floor_init an_Floor_init cd_Floor_init ct_Floor_init), sl_Floor_init⟩) (c_Floor_init : PySem.W.codeIn K cd_Floor_init "Floor.__init__" = true) (k_Floor_init : PySem.W.keepIn K (.ref f_Floor_init) = true)
    {f_Floor_common_of : Addr} {od_Floor_common_of an_Floor_common_of : Option Addr} {sl_Floor_common_of : Array (Option Value)} {oc_Floor_common_of kV_Floor_common_of dc_Floor_common_of pm_Floor_common_of cd_Floor_common_of ct_Floor_common_of : Value} (a_Floor_common_of : PySem.W.findIn K (.ref C_Floor) "common_of" = some (some (.ref f_Floor_common_of))) (i_Floor_common_of : PySem.W.isFn K (.ref f_Floor_common_of) = true) (l_Floor_common_of : K.lookup f_Floor_common_of = some ⟨oc_Floor_common_of, od_Floor_common_of, .func (PySem.W.fnOf "common_of" "Floor.common_of" (defArgs s_Floor_common_of) (defBody s_Floor_common_of) (defScope s_Floor_common_of) .none kV_Floor_common_of dc_Floor_common_of pm_Floor_common_of an_Floor_common_of cd_Floor_common_of ct_Floor_common_of), sl_Floor_common_of⟩) (c_Floor_common_of : PySem.W.codeIn K cd_Floor_common_of "Floor.common_of" = true) (k_Floor_common_of : PySem.W.keepIn K (.ref f_Floor_common_of) = true)
    {f_Floor_counter_of : Addr} {od_Floor_counter_of an_Floor_counter_of : Option Addr} {sl_Floor_counter_of : Array (Option Value)} {oc_Floor_counter_of kV_Floor_counter_of dc_Floor_counter_of pm_Floor_counter_of cd_Floor_counter_of ct_Floor_counter_of : Value} (a_Floor_counter_of : PySem.W.findIn K (.ref C_Floor) "counter_of" = some (some (.ref f_Floor_counter_of))) (i_Floor_counter_of : PySem.W.isFn K (.ref f_Floor_counter_of) = true) (l_Floor_counter_of : K.lookup f_Floor_counter_of = some ⟨oc_Floor_counter_of, od_Floor_counter_of, .func (PySem.W.fnOf "counter_of" "Floor.counter_of" (defArgs s_Floor_counter_of) (defBody s_Floor_counter_of) (defScope s_Floor_counter_of) .none kV_Floor_counter_of dc_Floor_counter_of pm_Floor_counter_of an_Floor_counter_of cd_Floor_counter_of ct_Floor_counter_of), sl_Floor_counter_of⟩) (c_Floor_counter_of : PySem.W.codeIn K cd_Floor_counter_of "Floor.counter_of" = true) (k_Floor_counter_of : PySem.W.keepIn K (.ref f_Floor_counter_of) = true)
    {f_Floor_is_full : Addr} {od_Floor_is_full an_Floor_is_full : Option Addr} {sl_Floor_is_full : Array (Option Value)} {oc_Floor_is_full kV_Floor_is_full dc_Floor_is_full pm_Floor_is_full cd_Floor_is_full ct_Floor_is_full : Value} (a_Floor_is_full : PySem.W.findIn K (.ref C_Floor) "is_full" = some (some (.ref f_Floor_is_full))) (i_Floor_is_full : PySem.W.isFn K (.ref f_Floor_is_full) = true) (l_Floor_is_full : K.lookup f_Floor_is_full = some ⟨oc_Floor_is_full, od_Floor_is_full, .func (PySem.W.fnOf "is_full" "Floor.is_full" (defArgs s_Floor_is_full) (defBody s_Floor_is_full) (defScope s_Floor_is_full) .none kV_Floor_is_full dc_Floor_is_full pm_Floor_is_full an_Floor_is_full cd_Floor_is_full ct_Floor_is_full), sl_Floor_is_full⟩) (c_Floor_is_full : PySem.W.codeIn K cd_Floor_is_full "Floor.is_full" = true) (k_Floor_is_full : PySem.W.keepIn K (.ref f_Floor_is_full) = true)
    (pg_Floor : PySem.W.plainGet K C_Floor Str.empty = true) (hd_Floor : PySem.W.hasDictIn K C_Floor = true) (po_Floor : PySem.W.plainOver K C_Floor = true) (sa_Floor : PySem.W.findIn K (.ref C_Floor) "__setattr__" = some (some (.builtin "object.__setattr__"))) (mk_Floor : PySem.W.makesIn K C_Floor = true) (kc_Floor : PySem.W.keepIn K (.ref C_Floor) = true) (n_Floor_everywhere : PySem.W.findIn K (.ref C_Floor) "everywhere" = some none) (n_Floor_clashing : PySem.W.findIn K (.ref C_Floor) "clashing" = some none)
    {f_mask_of : Addr} {od_mask_of an_mask_of : Option Addr} {sl_mask_of : Array (Option Value)} {oc_mask_of kV_mask_of dc_mask_of pm_mask_of cd_mask_of ct_mask_of : Value} (a_mask_of : PySem.W.nsIn K mainGlobals "mask_of" = some (some (.ref f_mask_of))) (l_mask_of : K.lookup f_mask_of = some ⟨oc_mask_of, od_mask_of, .func (PySem.W.fnOf "mask_of" "mask_of" (defArgs s_mask_of) (defBody s_mask_of) (defScope s_mask_of) .none kV_mask_of dc_mask_of pm_mask_of an_mask_of cd_mask_of ct_mask_of), sl_mask_of⟩) (c_mask_of : PySem.W.codeIn K cd_mask_of "mask_of" = true) (k_mask_of : PySem.W.keepIn K (.ref f_mask_of) = true)
    {f_bits_of : Addr} {od_bits_of an_bits_of : Option Addr} {sl_bits_of : Array (Option Value)} {oc_bits_of kV_bits_of dc_bits_of pm_bits_of cd_bits_of ct_bits_of : Value} (a_bits_of : PySem.W.nsIn K mainGlobals "bits_of" = some (some (.ref f_bits_of))) (l_bits_of : K.lookup f_bits_of = some ⟨oc_bits_of, od_bits_of, .func (PySem.W.fnOf "bits_of" "bits_of" (defArgs s_bits_of) (defBody s_bits_of) (defScope s_bits_of) .none kV_bits_of dc_bits_of pm_bits_of an_bits_of cd_bits_of ct_bits_of), sl_bits_of⟩) (c_bits_of : PySem.W.codeIn K cd_bits_of "bits_of" = true) (k_bits_of : PySem.W.keepIn K (.ref f_bits_of) = true)
    {f_is_name : Addr} {od_is_name an_is_name : Option Addr} {sl_is_name : Array (Option Value)} {oc_is_name kV_is_name dc_is_name pm_is_name cd_is_name ct_is_name : Value} (a_is_name : PySem.W.nsIn K mainGlobals "is_name" = some (some (.ref f_is_name))) (l_is_name : K.lookup f_is_name = some ⟨oc_is_name, od_is_name, .func (PySem.W.fnOf "is_name" "is_name" (defArgs s_is_name) (defBody s_is_name) (defScope s_is_name) .none kV_is_name dc_is_name pm_is_name an_is_name cd_is_name ct_is_name), sl_is_name⟩) (c_is_name : PySem.W.codeIn K cd_is_name "is_name" = true) (k_is_name : PySem.W.keepIn K (.ref f_is_name) = true)
    {f_is_whole : Addr} {od_is_whole an_is_whole : Option Addr} {sl_is_whole : Array (Option Value)} {oc_is_whole kV_is_whole dc_is_whole pm_is_whole cd_is_whole ct_is_whole : Value} (a_is_whole : PySem.W.nsIn K mainGlobals "is_whole" = some (some (.ref f_is_whole))) (l_is_whole : K.lookup f_is_whole = some ⟨oc_is_whole, od_is_whole, .func (PySem.W.fnOf "is_whole" "is_whole" (defArgs s_is_whole) (defBody s_is_whole) (defScope s_is_whole) .none kV_is_whole dc_is_whole pm_is_whole an_is_whole cd_is_whole ct_is_whole), sl_is_whole⟩) (c_is_whole : PySem.W.codeIn K cd_is_whole "is_whole" = true) (k_is_whole : PySem.W.keepIn K (.ref f_is_whole) = true)
    {f_is_below : Addr} {od_is_below an_is_below : Option Addr} {sl_is_below : Array (Option Value)} {oc_is_below kV_is_below dc_is_below pm_is_below cd_is_below ct_is_below : Value} (a_is_below : PySem.W.nsIn K mainGlobals "is_below" = some (some (.ref f_is_below))) (l_is_below : K.lookup f_is_below = some ⟨oc_is_below, od_is_below, .func (PySem.W.fnOf "is_below" "is_below" (defArgs s_is_below) (defBody s_is_below) (defScope s_is_below) .none kV_is_below dc_is_below pm_is_below an_is_below cd_is_below ct_is_below), sl_is_below⟩) (c_is_below : PySem.W.codeIn K cd_is_below "is_below" = true) (k_is_below : PySem.W.keepIn K (.ref f_is_below) = true)
    {f_is_rising : Addr} {od_is_rising an_is_rising : Option Addr} {sl_is_rising : Array (Option Value)} {oc_is_rising kV_is_rising dc_is_rising pm_is_rising cd_is_rising ct_is_rising : Value} (a_is_rising : PySem.W.nsIn K mainGlobals "is_rising" = some (some (.ref f_is_rising))) (l_is_rising : K.lookup f_is_rising = some ⟨oc_is_rising, od_is_rising, .func (PySem.W.fnOf "is_rising" "is_rising" (defArgs s_is_rising) (defBody s_is_rising) (defScope s_is_rising) .none kV_is_rising dc_is_rising pm_is_rising an_is_rising cd_is_rising ct_is_rising), sl_is_rising⟩) (c_is_rising : PySem.W.codeIn K cd_is_rising "is_rising" = true) (k_is_rising : PySem.W.keepIn K (.ref f_is_rising) = true)
    {f_are_spots : Addr} {od_are_spots an_are_spots : Option Addr} {sl_are_spots : Array (Option Value)} {oc_are_spots kV_are_spots dc_are_spots pm_are_spots cd_are_spots ct_are_spots : Value} (a_are_spots : PySem.W.nsIn K mainGlobals "are_spots" = some (some (.ref f_are_spots))) (l_are_spots : K.lookup f_are_spots = some ⟨oc_are_spots, od_are_spots, .func (PySem.W.fnOf "are_spots" "are_spots" (defArgs s_are_spots) (defBody s_are_spots) (defScope s_are_spots) .none kV_are_spots dc_are_spots pm_are_spots an_are_spots cd_are_spots ct_are_spots), sl_are_spots⟩) (c_are_spots : PySem.W.codeIn K cd_are_spots "are_spots" = true) (k_are_spots : PySem.W.keepIn K (.ref f_are_spots) = true)
    {f_are_clashes : Addr} {od_are_clashes an_are_clashes : Option Addr} {sl_are_clashes : Array (Option Value)} {oc_are_clashes kV_are_clashes dc_are_clashes pm_are_clashes cd_are_clashes ct_are_clashes : Value} (a_are_clashes : PySem.W.nsIn K mainGlobals "are_clashes" = some (some (.ref f_are_clashes))) (l_are_clashes : K.lookup f_are_clashes = some ⟨oc_are_clashes, od_are_clashes, .func (PySem.W.fnOf "are_clashes" "are_clashes" (defArgs s_are_clashes) (defBody s_are_clashes) (defScope s_are_clashes) .none kV_are_clashes dc_are_clashes pm_are_clashes an_are_clashes cd_are_clashes ct_are_clashes), sl_are_clashes⟩) (c_are_clashes : PySem.W.codeIn K cd_are_clashes "are_clashes" = true) (k_are_clashes : PySem.W.keepIn K (.ref f_are_clashes) = true)
    {f_is_world : Addr} {od_is_world an_is_world : Option Addr} {sl_is_world : Array (Option Value)} {oc_is_world kV_is_world dc_is_world pm_is_world cd_is_world ct_is_world : Value} (a_is_world : PySem.W.nsIn K mainGlobals "is_world" = some (some (.ref f_is_world))) (l_is_world : K.lookup f_is_world = some ⟨oc_is_world, od_is_world, .func (PySem.W.fnOf "is_world" "is_world" (defArgs s_is_world) (defBody s_is_world) (defScope s_is_world) .none kV_is_world dc_is_world pm_is_world an_is_world cd_is_world ct_is_world), sl_is_world⟩) (c_is_world : PySem.W.codeIn K cd_is_world "is_world" = true) (k_is_world : PySem.W.keepIn K (.ref f_is_world) = true)
    {f_law_draw : Addr} {od_law_draw an_law_draw : Option Addr} {sl_law_draw : Array (Option Value)} {oc_law_draw kV_law_draw dc_law_draw pm_law_draw cd_law_draw ct_law_draw : Value} (a_law_draw : PySem.W.nsIn K mainGlobals "_law_draw" = some (some (.ref f_law_draw))) (l_law_draw : K.lookup f_law_draw = some ⟨oc_law_draw, od_law_draw, .func (PySem.W.fnOf "_law_draw" "_law_draw" (defArgs s_law_draw) (defBody s_law_draw) (defScope s_law_draw) .none kV_law_draw dc_law_draw pm_law_draw an_law_draw cd_law_draw ct_law_draw), sl_law_draw⟩) (c_law_draw : PySem.W.codeIn K cd_law_draw "_law_draw" = true) (k_law_draw : PySem.W.keepIn K (.ref f_law_draw) = true)
    {f_law_names : Addr} {od_law_names an_law_names : Option Addr} {sl_law_names : Array (Option Value)} {oc_law_names kV_law_names dc_law_names pm_law_names cd_law_names ct_law_names : Value} (a_law_names : PySem.W.nsIn K mainGlobals "_law_names" = some (some (.ref f_law_names))) (l_law_names : K.lookup f_law_names = some ⟨oc_law_names, od_law_names, .func (PySem.W.fnOf "_law_names" "_law_names" (defArgs s_law_names) (defBody s_law_names) (defScope s_law_names) .none kV_law_names dc_law_names pm_law_names an_law_names cd_law_names ct_law_names), sl_law_names⟩) (c_law_names : PySem.W.codeIn K cd_law_names "_law_names" = true) (k_law_names : PySem.W.keepIn K (.ref f_law_names) = true)
    {f_law_clashes : Addr} {od_law_clashes an_law_clashes : Option Addr} {sl_law_clashes : Array (Option Value)} {oc_law_clashes kV_law_clashes dc_law_clashes pm_law_clashes cd_law_clashes ct_law_clashes : Value} (a_law_clashes : PySem.W.nsIn K mainGlobals "_law_clashes" = some (some (.ref f_law_clashes))) (l_law_clashes : K.lookup f_law_clashes = some ⟨oc_law_clashes, od_law_clashes, .func (PySem.W.fnOf "_law_clashes" "_law_clashes" (defArgs s_law_clashes) (defBody s_law_clashes) (defScope s_law_clashes) .none kV_law_clashes dc_law_clashes pm_law_clashes an_law_clashes cd_law_clashes ct_law_clashes), sl_law_clashes⟩) (c_law_clashes : PySem.W.codeIn K cd_law_clashes "_law_clashes" = true) (k_law_clashes : PySem.W.keepIn K (.ref f_law_clashes) = true)
    {f_law_near : Addr} {od_law_near an_law_near : Option Addr} {sl_law_near : Array (Option Value)} {oc_law_near kV_law_near dc_law_near pm_law_near cd_law_near ct_law_near : Value} (a_law_near : PySem.W.nsIn K mainGlobals "_law_near" = some (some (.ref f_law_near))) (l_law_near : K.lookup f_law_near = some ⟨oc_law_near, od_law_near, .func (PySem.W.fnOf "_law_near" "_law_near" (defArgs s_law_near) (defBody s_law_near) (defScope s_law_near) .none kV_law_near dc_law_near pm_law_near an_law_near cd_law_near ct_law_near), sl_law_near⟩) (c_law_near : PySem.W.codeIn K cd_law_near "_law_near" = true) (k_law_near : PySem.W.keepIn K (.ref f_law_near) = true)
    {f_law_counter : Addr} {od_law_counter an_law_counter : Option Addr} {sl_law_counter : Array (Option Value)} {oc_law_counter kV_law_counter dc_law_counter pm_law_counter cd_law_counter ct_law_counter : Value} (a_law_counter : PySem.W.nsIn K mainGlobals "_law_counter" = some (some (.ref f_law_counter))) (l_law_counter : K.lookup f_law_counter = some ⟨oc_law_counter, od_law_counter, .func (PySem.W.fnOf "_law_counter" "_law_counter" (defArgs s_law_counter) (defBody s_law_counter) (defScope s_law_counter) .none kV_law_counter dc_law_counter pm_law_counter an_law_counter cd_law_counter ct_law_counter), sl_law_counter⟩) (c_law_counter : PySem.W.codeIn K cd_law_counter "_law_counter" = true) (k_law_counter : PySem.W.keepIn K (.ref f_law_counter) = true)
    {f_law_some : Addr} {od_law_some an_law_some : Option Addr} {sl_law_some : Array (Option Value)} {oc_law_some kV_law_some dc_law_some pm_law_some cd_law_some ct_law_some : Value} (a_law_some : PySem.W.nsIn K mainGlobals "_law_some" = some (some (.ref f_law_some))) (l_law_some : K.lookup f_law_some = some ⟨oc_law_some, od_law_some, .func (PySem.W.fnOf "_law_some" "_law_some" (defArgs s_law_some) (defBody s_law_some) (defScope s_law_some) .none kV_law_some dc_law_some pm_law_some an_law_some cd_law_some ct_law_some), sl_law_some⟩) (c_law_some : PySem.W.codeIn K cd_law_some "_law_some" = true) (k_law_some : PySem.W.keepIn K (.ref f_law_some) = true)
    {f_law_world : Addr} {od_law_world an_law_world : Option Addr} {sl_law_world : Array (Option Value)} {oc_law_world kV_law_world dc_law_world pm_law_world cd_law_world ct_law_world : Value} (a_law_world : PySem.W.nsIn K mainGlobals "_law_world" = some (some (.ref f_law_world))) (l_law_world : K.lookup f_law_world = some ⟨oc_law_world, od_law_world, .func (PySem.W.fnOf "_law_world" "_law_world" (defArgs s_law_world) (defBody s_law_world) (defScope s_law_world) .none kV_law_world dc_law_world pm_law_world an_law_world cd_law_world ct_law_world), sl_law_world⟩) (c_law_world : PySem.W.codeIn K cd_law_world "_law_world" = true) (k_law_world : PySem.W.keepIn K (.ref f_law_world) = true)
    {f_law_copy : Addr} {od_law_copy an_law_copy : Option Addr} {sl_law_copy : Array (Option Value)} {oc_law_copy kV_law_copy dc_law_copy pm_law_copy cd_law_copy ct_law_copy : Value} (a_law_copy : PySem.W.nsIn K mainGlobals "_law_copy" = some (some (.ref f_law_copy))) (l_law_copy : K.lookup f_law_copy = some ⟨oc_law_copy, od_law_copy, .func (PySem.W.fnOf "_law_copy" "_law_copy" (defArgs s_law_copy) (defBody s_law_copy) (defScope s_law_copy) .none kV_law_copy dc_law_copy pm_law_copy an_law_copy cd_law_copy ct_law_copy), sl_law_copy⟩) (c_law_copy : PySem.W.codeIn K cd_law_copy "_law_copy" = true) (k_law_copy : PySem.W.keepIn K (.ref f_law_copy) = true)
    {f_law_stands : Addr} {od_law_stands an_law_stands : Option Addr} {sl_law_stands : Array (Option Value)} {oc_law_stands kV_law_stands dc_law_stands pm_law_stands cd_law_stands ct_law_stands : Value} (a_law_stands : PySem.W.nsIn K mainGlobals "_law_stands" = some (some (.ref f_law_stands))) (l_law_stands : K.lookup f_law_stands = some ⟨oc_law_stands, od_law_stands, .func (PySem.W.fnOf "_law_stands" "_law_stands" (defArgs s_law_stands) (defBody s_law_stands) (defScope s_law_stands) .none kV_law_stands dc_law_stands pm_law_stands an_law_stands cd_law_stands ct_law_stands), sl_law_stands⟩) (c_law_stands : PySem.W.codeIn K cd_law_stands "_law_stands" = true) (k_law_stands : PySem.W.keepIn K (.ref f_law_stands) = true)
    {f_law_bad_pairs : Addr} {od_law_bad_pairs an_law_bad_pairs : Option Addr} {sl_law_bad_pairs : Array (Option Value)} {oc_law_bad_pairs kV_law_bad_pairs dc_law_bad_pairs pm_law_bad_pairs cd_law_bad_pairs ct_law_bad_pairs : Value} (a_law_bad_pairs : PySem.W.nsIn K mainGlobals "_law_bad_pairs" = some (some (.ref f_law_bad_pairs))) (l_law_bad_pairs : K.lookup f_law_bad_pairs = some ⟨oc_law_bad_pairs, od_law_bad_pairs, .func (PySem.W.fnOf "_law_bad_pairs" "_law_bad_pairs" (defArgs s_law_bad_pairs) (defBody s_law_bad_pairs) (defScope s_law_bad_pairs) .none kV_law_bad_pairs dc_law_bad_pairs pm_law_bad_pairs an_law_bad_pairs cd_law_bad_pairs ct_law_bad_pairs), sl_law_bad_pairs⟩) (c_law_bad_pairs : PySem.W.codeIn K cd_law_bad_pairs "_law_bad_pairs" = true) (k_law_bad_pairs : PySem.W.keepIn K (.ref f_law_bad_pairs) = true)
    {f_law_bad_spots : Addr} {od_law_bad_spots an_law_bad_spots : Option Addr} {sl_law_bad_spots : Array (Option Value)} {oc_law_bad_spots kV_law_bad_spots dc_law_bad_spots pm_law_bad_spots cd_law_bad_spots ct_law_bad_spots : Value} (a_law_bad_spots : PySem.W.nsIn K mainGlobals "_law_bad_spots" = some (some (.ref f_law_bad_spots))) (l_law_bad_spots : K.lookup f_law_bad_spots = some ⟨oc_law_bad_spots, od_law_bad_spots, .func (PySem.W.fnOf "_law_bad_spots" "_law_bad_spots" (defArgs s_law_bad_spots) (defBody s_law_bad_spots) (defScope s_law_bad_spots) .none kV_law_bad_spots dc_law_bad_spots pm_law_bad_spots an_law_bad_spots cd_law_bad_spots ct_law_bad_spots), sl_law_bad_spots⟩) (c_law_bad_spots : PySem.W.codeIn K cd_law_bad_spots "_law_bad_spots" = true) (k_law_bad_spots : PySem.W.keepIn K (.ref f_law_bad_spots) = true)
    {f_law_spoiled : Addr} {od_law_spoiled an_law_spoiled : Option Addr} {sl_law_spoiled : Array (Option Value)} {oc_law_spoiled kV_law_spoiled dc_law_spoiled pm_law_spoiled cd_law_spoiled ct_law_spoiled : Value} (a_law_spoiled : PySem.W.nsIn K mainGlobals "_law_spoiled" = some (some (.ref f_law_spoiled))) (l_law_spoiled : K.lookup f_law_spoiled = some ⟨oc_law_spoiled, od_law_spoiled, .func (PySem.W.fnOf "_law_spoiled" "_law_spoiled" (defArgs s_law_spoiled) (defBody s_law_spoiled) (defScope s_law_spoiled) .none kV_law_spoiled dc_law_spoiled pm_law_spoiled an_law_spoiled cd_law_spoiled ct_law_spoiled), sl_law_spoiled⟩) (c_law_spoiled : PySem.W.codeIn K cd_law_spoiled "_law_spoiled" = true) (k_law_spoiled : PySem.W.keepIn K (.ref f_law_spoiled) = true)
    {f_law : Addr} {od_law an_law : Option Addr} {sl_law : Array (Option Value)} {oc_law kV_law dc_law pm_law cd_law ct_law : Value} (a_law : PySem.W.nsIn K mainGlobals "law" = some (some (.ref f_law))) (l_law : K.lookup f_law = some ⟨oc_law, od_law, .func (PySem.W.fnOf "law" "law" (defArgs s_law) (defBody s_law) (defScope s_law) .none kV_law dc_law pm_law an_law cd_law ct_law), sl_law⟩) (c_law : PySem.W.codeIn K cd_law "law" = true) (k_law : PySem.W.keepIn K (.ref f_law) = true)
    {t_LETTERS : Tok} (g_LETTERS : PySem.W.nsIn K mainGlobals "LETTERS" = some (some (.str "abcdefghijklmnopqrstuvwxyz" t_LETTERS)))
    {t_LONGEST : Tok} (g_LONGEST_NAME : PySem.W.nsIn K mainGlobals "LONGEST_NAME" = some (some (.int 8 t_LONGEST)))
    {a_WORDS : Addr} {d_WORDS : Option Addr} {n_WORDS : Nat} {sl_WORDS : Array (Option Value)} {t_W1 t_W2 : Tok} (g_WORDS : PySem.W.nsIn K mainGlobals "WORDS" = some (some (.ref a_WORDS))) (o_WORDS : K.lookup a_WORDS = some ⟨.type "tuple", d_WORDS, .seq #[.str "none" t_W1, .str "all" t_W2] n_WORDS, sl_WORDS⟩)
     (z_zip : PySem.W.nsIn K mainGlobals "zip" = some none)
     (z_reversed : PySem.W.nsIn K mainGlobals "reversed" = some none)
    (z_all : PySem.W.nsIn K mainGlobals "all" = some none)
    (z_bool : PySem.W.nsIn K mainGlobals "bool" = some none)
    (z_dict : PySem.W.nsIn K mainGlobals "dict" = some none)
    (z_int : PySem.W.nsIn K mainGlobals "int" = some none)
    (z_isinstance : PySem.W.nsIn K mainGlobals "isinstance" = some none)
    (z_len : PySem.W.nsIn K mainGlobals "len" = some none)
    (z_list : PySem.W.nsIn K mainGlobals "list" = some none)
    (z_max : PySem.W.nsIn K mainGlobals "max" = some none)
    (z_range : PySem.W.nsIn K mainGlobals "range" = some none)
    (z_set : PySem.W.nsIn K mainGlobals "set" = some none)
    (z_sorted : PySem.W.nsIn K mainGlobals "sorted" = some none)
    (z_str : PySem.W.nsIn K mainGlobals "str" = some none)
    (z_sum : PySem.W.nsIn K mainGlobals "sum" = some none)
    (z_tuple : PySem.W.nsIn K mainGlobals "tuple" = some none) :
    ∃ fd : FuncData, (∀ (s : Shared) (v : Value), BindsTo s fd ⟨[v], []⟩ [("script", v)]) ∧ ∀ base : Heap, K.In base → base.Ns mainGlobals mg → FnOk l.prog w K mg base CX0 65 fa fd ["script"] (spLaw K) := by
  have e := hfa.symm.trans (PySem.W.mg_of X G a_law)
  cases e
  have cl_Floor : Cls K C_Floor := ⟨pg_Floor, hd_Floor, po_Floor, sa_Floor⟩
  have mC_Floor := PySem.W.mg_of X G aC_Floor
  have F_Floor_init := fun_mk (st := s_Floor_init) l_Floor_init c_Floor_init k_Floor_init
  have b_Floor_init := F_Floor_init.binds (ps := ["self", "many", "clashes"]) fun _ _ _ _ _ _ us hl => match us, hl with | [_, _, _], _ => rfl
  have t_Floor_init : Meth K C_Floor "__init__" f_Floor_init := ⟨a_Floor_init, i_Floor_init, k_Floor_init⟩
  have F_Floor_common_of := fun_mk (st := s_Floor_common_of) l_Floor_common_of c_Floor_common_of k_Floor_common_of
  have b_Floor_common_of := F_Floor_common_of.binds (ps := ["self", "sets"]) fun _ _ _ _ _ _ us hl => match us, hl with | [_, _], _ => rfl
  have t_Floor_common_of : Meth K C_Floor "common_of" f_Floor_common_of := ⟨a_Floor_common_of, i_Floor_common_of, k_Floor_common_of⟩
  have F_Floor_counter_of := fun_mk (st := s_Floor_counter_of) l_Floor_counter_of c_Floor_counter_of k_Floor_counter_of
  have b_Floor_counter_of := F_Floor_counter_of.binds (ps := ["self", "spots"]) fun _ _ _ _ _ _ us hl => match us, hl with | [_, _], _ => rfl
  have t_Floor_counter_of : Meth K C_Floor "counter_of" f_Floor_counter_of := ⟨a_Floor_counter_of, i_Floor_counter_of, k_Floor_counter_of⟩
  have F_Floor_is_full := fun_mk (st := s_Floor_is_full) l_Floor_is_full c_Floor_is_full k_Floor_is_full
  have b_Floor_is_full := F_Floor_is_full.binds (ps := ["self", "spots"]) fun _ _ _ _ _ _ us hl => match us, hl with | [_, _], _ => rfl
  have t_Floor_is_full : Meth K C_Floor "is_full" f_Floor_is_full := ⟨a_Floor_is_full, i_Floor_is_full, k_Floor_is_full⟩
  have F_mask_of := fun_mk (st := s_mask_of) l_mask_of c_mask_of k_mask_of
  have b_mask_of := F_mask_of.binds (ps := ["numbers"]) fun _ _ _ _ _ _ us hl => match us, hl with | [_], _ => rfl
  have m_mask_of := PySem.W.mg_of X G a_mask_of
  have F_bits_of := fun_mk (st := s_bits_of) l_bits_of c_bits_of k_bits_of
  have b_bits_of := F_bits_of.binds (ps := ["mask"]) fun _ _ _ _ _ _ us hl => match us, hl with | [_], _ => rfl
  have m_bits_of := PySem.W.mg_of X G a_bits_of
  have F_is_name := fun_mk (st := s_is_name) l_is_name c_is_name k_is_name
  have b_is_name := F_is_name.binds (ps := ["text"]) fun _ _ _ _ _ _ us hl => match us, hl with | [_], _ => rfl
  have m_is_name := PySem.W.mg_of X G a_is_name
  have F_is_whole := fun_mk (st := s_is_whole) l_is_whole c_is_whole k_is_whole
  have b_is_whole := F_is_whole.binds (ps := ["n"]) fun _ _ _ _ _ _ us hl => match us, hl with | [_], _ => rfl
  have m_is_whole := PySem.W.mg_of X G a_is_whole
  have F_is_below := fun_mk (st := s_is_below) l_is_below c_is_below k_is_below
  have b_is_below := F_is_below.binds (ps := ["n", "bound"]) fun _ _ _ _ _ _ us hl => match us, hl with | [_, _], _ => rfl
  have m_is_below := PySem.W.mg_of X G a_is_below
  have F_is_rising := fun_mk (st := s_is_rising) l_is_rising c_is_rising k_is_rising
  have b_is_rising := F_is_rising.binds (ps := ["things"]) fun _ _ _ _ _ _ us hl => match us, hl with | [_], _ => rfl
  have m_is_rising := PySem.W.mg_of X G a_is_rising
  have F_are_spots := fun_mk (st := s_are_spots) l_are_spots c_are_spots k_are_spots
  have b_are_spots := F_are_spots.binds (ps := ["many", "spots"]) fun _ _ _ _ _ _ us hl => match us, hl with | [_, _], _ => rfl
  have m_are_spots := PySem.W.mg_of X G a_are_spots
  have F_are_clashes := fun_mk (st := s_are_clashes) l_are_clashes c_are_clashes k_are_clashes
  have b_are_clashes := F_are_clashes.binds (ps := ["many", "clashes"]) fun _ _ _ _ _ _ us hl => match us, hl with | [_, _], _ => rfl
  have m_are_clashes := PySem.W.mg_of X G a_are_clashes
  have F_is_world := fun_mk (st := s_is_world) l_is_world c_is_world k_is_world
  have b_is_world := F_is_world.binds (ps := ["world"]) fun _ _ _ _ _ _ us hl => match us, hl with | [_], _ => rfl
  have m_is_world := PySem.W.mg_of X G a_is_world
  have F_law_draw := fun_mk (st := s_law_draw) l_law_draw c_law_draw k_law_draw
  have b_law_draw := F_law_draw.binds (ps := ["script", "k"]) fun _ _ _ _ _ _ us hl => match us, hl with | [_, _], _ => rfl
  have m_law_draw := PySem.W.mg_of X G a_law_draw
  have F_law_names := fun_mk (st := s_law_names) l_law_names c_law_names k_law_names
  have b_law_names := F_law_names.binds (ps := ["script", "k", "many"]) fun _ _ _ _ _ _ us hl => match us, hl with | [_, _, _], _ => rfl
  have m_law_names := PySem.W.mg_of X G a_law_names
  have F_law_clashes := fun_mk (st := s_law_clashes) l_law_clashes c_law_clashes k_law_clashes
  have b_law_clashes := F_law_clashes.binds (ps := ["spell", "many"]) fun _ _ _ _ _ _ us hl => match us, hl with | [_, _], _ => rfl
  have m_law_clashes := PySem.W.mg_of X G a_law_clashes
  have F_law_near := fun_mk (st := s_law_near) l_law_near c_law_near k_law_near
  have b_law_near := F_law_near.binds (ps := ["many", "pairs"]) fun _ _ _ _ _ _ us hl => match us, hl with | [_, _], _ => rfl
  have m_law_near := PySem.W.mg_of X G a_law_near
  have F_law_counter := fun_mk (st := s_law_counter) l_law_counter c_law_counter k_law_counter
  have b_law_counter := F_law_counter.binds (ps := ["near", "spots"]) fun _ _ _ _ _ _ us hl => match us, hl with | [_, _], _ => rfl
  have m_law_counter := PySem.W.mg_of X G a_law_counter
  have F_law_some := fun_mk (st := s_law_some) l_law_some c_law_some k_law_some
  have b_law_some := F_law_some.binds (ps := ["cell", "many"]) fun _ _ _ _ _ _ us hl => match us, hl with | [_, _], _ => rfl
  have m_law_some := PySem.W.mg_of X G a_law_some
  have F_law_world := fun_mk (st := s_law_world) l_law_world c_law_world k_law_world
  have b_law_world := F_law_world.binds (ps := ["script", "k", "names"]) fun _ _ _ _ _ _ us hl => match us, hl with | [_, _, _], _ => rfl
  have m_law_world := PySem.W.mg_of X G a_law_world
  have F_law_copy := fun_mk (st := s_law_copy) l_law_copy c_law_copy k_law_copy
  have b_law_copy := F_law_copy.binds (ps := ["world"]) fun _ _ _ _ _ _ us hl => match us, hl with | [_], _ => rfl
  have m_law_copy := PySem.W.mg_of X G a_law_copy
  have F_law_stands := fun_mk (st := s_law_stands) l_law_stands c_law_stands k_law_stands
  have b_law_stands := F_law_stands.binds (ps := ["world"]) fun _ _ _ _ _ _ us hl => match us, hl with | [_], _ => rfl
  have m_law_stands := PySem.W.mg_of X G a_law_stands
  have F_law_bad_pairs := fun_mk (st := s_law_bad_pairs) l_law_bad_pairs c_law_bad_pairs k_law_bad_pairs
  have b_law_bad_pairs := F_law_bad_pairs.binds (ps := ["pairs", "way", "at", "many"]) fun _ _ _ _ _ _ us hl => match us, hl with | [_, _, _, _], _ => rfl
  have m_law_bad_pairs := PySem.W.mg_of X G a_law_bad_pairs
  have F_law_bad_spots := fun_mk (st := s_law_bad_spots) l_law_bad_spots c_law_bad_spots k_law_bad_spots
  have b_law_bad_spots := F_law_bad_spots.binds (ps := ["spots", "way", "x", "many"]) fun _ _ _ _ _ _ us hl => match us, hl with | [_, _, _, _], _ => rfl
  have m_law_bad_spots := PySem.W.mg_of X G a_law_bad_spots
  have F_law_spoiled := fun_mk (st := s_law_spoiled) l_law_spoiled c_law_spoiled k_law_spoiled
  have b_law_spoiled := F_law_spoiled.binds (ps := ["world", "cell"]) fun _ _ _ _ _ _ us hl => match us, hl with | [_, _], _ => rfl
  have m_law_spoiled := PySem.W.mg_of X G a_law_spoiled
  have F_law := fun_mk (st := s_law) l_law c_law k_law
  have b_law := F_law.binds (ps := ["script"]) fun _ _ _ _ _ _ us hl => match us, hl with | [_], _ => rfl
  have m_law := PySem.W.mg_of X G a_law
  have bi : Bi mg := ⟨PySem.W.mg_none_of X G z_len, PySem.W.mg_none_of X G z_range, PySem.W.mg_none_of X G z_isinstance, PySem.W.mg_none_of X G z_max, PySem.W.mg_none_of X G z_sum, PySem.W.mg_none_of X G z_all, PySem.W.mg_none_of X G z_tuple, PySem.W.mg_none_of X G z_list, PySem.W.mg_none_of X G z_sorted, PySem.W.mg_none_of X G z_set, PySem.W.mg_none_of X G z_int, PySem.W.mg_none_of X G z_bool, PySem.W.mg_none_of X G z_str, PySem.W.mg_none_of X G z_dict⟩
  refine ⟨PySem.W.fnOf "law" "law" (defArgs s_law) (defBody s_law) (defScope s_law) .none kV_law dc_law pm_law an_law cd_law ct_law, fun s v => .of_eq rfl, fun base _ _ => ?_⟩
  have bz : mg "zip" = none := PySem.W.mg_none_of X G z_zip
  have brv : mg "reversed" = none := PySem.W.mg_none_of X G z_reversed
  have sW : ∀ H, SqT K H a_WORDS [.str "none", .str "all"] := fun H => .inr ⟨_, _, _, o_WORDS, rfl, rfl, (by show 2 ≤ sizeLine; decide), .cons ⟨_, rfl⟩ (.cons ⟨_, rfl⟩ .nil)⟩
  have gW : Gc mg "WORDS" (.ref a_WORDS) := ⟨_, PySem.W.mg_of X G g_WORDS, rfl⟩
  have gL : Gc mg "LETTERS" (.str "abcdefghijklmnopqrstuvwxyz") := ⟨_, PySem.W.mg_of X G g_LETTERS, ⟨_, rfl⟩⟩
  have T : FlC K C_Floor := ⟨cl_Floor, n_Floor_everywhere, n_Floor_clashing⟩
  have h1 := has_of F_mask_of (ok_mask_of (P := l.prog) (w := w) (base := base) bi F_mask_of) b_mask_of m_mask_of
  have h2 := has_of F_bits_of (ok_bits_of (P := l.prog) (w := w) (base := base) bi F_bits_of) b_bits_of m_bits_of
  have h3 : HasI l.prog w K mg base 1 C_Floor "Floor" ["self", "many", "clashes"] (spFI C_Floor) := ⟨_, _, ok_finit T F_Floor_init, b_Floor_init, ⟨mk_Floor, a_Floor_init, i_Floor_init, kc_Floor⟩, mC_Floor⟩
  have h4 : HasM l.prog w K mg base 1 C_Floor "common_of" ["self", "sets"] (spCo K C_Floor) := ⟨_, _, ok_common T F_Floor_common_of, b_Floor_common_of, t_Floor_common_of⟩
  have h5 : HasM l.prog w K mg base 2 C_Floor "counter_of" ["self", "spots"] (spCn C_Floor) := ⟨_, _, ok_counter_of T bi h2 h4 F_Floor_counter_of, b_Floor_counter_of, t_Floor_counter_of⟩
  have h6 : HasM l.prog w K mg base 3 C_Floor "is_full" ["self", "spots"] (spFu C_Floor) := ⟨_, _, ok_is_full T bi h5 F_Floor_is_full, b_Floor_is_full, t_Floor_is_full⟩
  have h7 := has_of F_law_draw (ok_draw (P := l.prog) (w := w) (base := base) bi F_law_draw) b_law_draw m_law_draw
  have h8 := has_of F_is_name (ok_is_name (P := l.prog) (w := w) (base := base) bi gL ⟨_, PySem.W.mg_of X G g_LONGEST_NAME, ⟨_, rfl⟩⟩ gW sW F_is_name) b_is_name m_is_name
  have h9 := has_of F_law_clashes (ok_clashes (P := l.prog) (w := w) (base := base) bi F_law_clashes) b_law_clashes m_law_clashes
  have h10 := has_of F_law_near (ok_near (P := l.prog) (w := w) (base := base) bi F_law_near) b_law_near m_law_near
  have h11 := has_of F_law_counter (ok_lcounter (P := l.prog) (w := w) (base := base) bi F_law_counter) b_law_counter m_law_counter
  have h12 := has_of F_law_some (ok_some (P := l.prog) (w := w) (base := base) bi F_law_some) b_law_some m_law_some
  have h14 := has_of F_law_names (ok_names bi h7 F_law_names) b_law_names m_law_names
  have h15 := has_of F_is_whole (ok_is_wholeI (P := l.prog) (w := w) (base := base) bi F_is_whole) b_is_whole m_is_whole
  have h16 := has_of F_is_below (ok_is_belowI bi h15 F_is_below) b_is_below m_is_below
  have h17 := has_of F_is_rising (ok_is_rising (P := l.prog) (w := w) (base := base) bi bz F_is_rising) b_is_rising m_is_rising
  have h18 := has_of F_are_spots (ok_are_spots bi h16 h17 F_are_spots) b_are_spots m_are_spots
  have h19 := has_of F_are_clashes (ok_are_clashes bi h18 h17 F_are_clashes) b_are_clashes m_are_clashes
  have h20 := has_of F_is_world (ok_is_world T bi h15 h19 h8 h18 h17 h3 h6 h1 F_is_world) b_is_world m_is_world
  have h21 := has_of F_law_stands (ok_stands bi h10 h11 F_law_stands) b_law_stands m_law_stands
  have h22 := has_of F_law_copy (ok_copyG (P := l.prog) (w := w) (base := base) bi F_law_copy) b_law_copy m_law_copy
  have h23 := has_of F_law_bad_pairs (ok_bad_pairs (P := l.prog) (w := w) (base := base) bi F_law_bad_pairs) b_law_bad_pairs m_law_bad_pairs
  have h24 := has_of F_law_bad_spots (ok_bad_spots (P := l.prog) (w := w) (base := base) bi brv F_law_bad_spots) b_law_bad_spots m_law_bad_spots
  have h25 := has_of F_law_spoiled (ok_spoiled bi h22 h23 h24 F_law_spoiled) b_law_spoiled m_law_spoiled
  have h26 := has_of F_law_world (ok_world bi h7 h9 h10 h12 h11 F_law_world) b_law_world m_law_world
  exact ok_law bi h7 h14 h26 h25 h22 h20 h21 F_law
theorem walk {l : PySem.W.OpenLaw} {q : Program} {loose : List Str} {XP : (Str → Option Value) → Heap → Prop} {YP : World → Heap → Prop} {d : DefRec} {K : Params → PySem.W.Frag} (hn : l.most = some 63) (hdf : d.params.defaults = [])
    (hY : ∀ (w : World) (h : Heap), YP w h → (K w.params).In h)
    (F : ∀ (w : World) (mg : Str → Option Value) (fa : Addr) (h : Heap), (K w.params).In h → h.Ns mainGlobals mg → mg d.name = some (.ref fa) →
      ∃ fd : FuncData, (∀ (s : Shared) (u : Value), BindsTo s fd ⟨[u], []⟩ [("script", u)]) ∧ ∀ base : Heap, (K w.params).In base → base.Ns mainGlobals mg → FnOk l.prog w (K w.params) mg base CX0 65 fa fd ["script"] (spLaw (K w.params))) :
    PySem.W.WalkO q loose XP YP l.row.toRowW d [] (fun f vs => PySem.call f vs) :=
  L2.walk_of (n := 63) (k := 65) (x := "script") (CX := fun _ => CX0) (sp := fun w => spLaw (K w.params)) hn (by decide) hdf ⟨rfl, by decide, by decide⟩ hY F (fun _ _ a ns hl _ hS => ⟨a, ns, rfl, hS, hl, fun _ => rfl⟩) fun _ _ _ _ _ z => z
end C
set_option Elab.async false
set_option linter.all false
set_option maxRecDepth 100000
set_option maxHeartbeats 8000000
open PySem PySem.W PyProof.Rows
set_option maxRecDepth 100000 in
set_option maxHeartbeats 0 in
theorem PySem.Challenge.cw_clashbook_k24_what_is_a_world_holds : PySem.Challenge.rw_clashbook_k24_what_is_a_world.Holds := by
  w_on; o_law; k_head; (case hw => w_witness2)
  k_fill
  refine C.walk (l := PySem.Challenge.rw_clashbook_k24_what_is_a_world) rfl rfl (fun w h Y => PySem.W.kIn_of Y) ?F
  case F =>
    intro w mg fa h KX G hmg
    refine' C.all_mk KX G hmg ?aC_Floor ?a_Floor_init ?i_Floor_init ?l_Floor_init ?c_Floor_init ?k_Floor_init ?a_Floor_common_of ?i_Floor_common_of ?l_Floor_common_of ?c_Floor_common_of ?k_Floor_common_of ?a_Floor_counter_of ?i_Floor_counter_of ?l_Floor_counter_of ?c_Floor_counter_of ?k_Floor_counter_of ?a_Floor_is_full ?i_Floor_is_full ?l_Floor_is_full ?c_Floor_is_full ?k_Floor_is_full ?pg_Floor ?hd_Floor ?po_Floor ?sa_Floor ?mk_Floor ?kc_Floor ?n_Floor_everywhere ?n_Floor_clashing ?a_mask_of ?l_mask_of ?c_mask_of ?k_mask_of ?a_bits_of ?l_bits_of ?c_bits_of ?k_bits_of ?a_is_name ?l_is_name ?c_is_name ?k_is_name ?a_is_whole ?l_is_whole ?c_is_whole ?k_is_whole ?a_is_below ?l_is_below ?c_is_below ?k_is_below ?a_is_rising ?l_is_rising ?c_is_rising ?k_is_rising ?a_are_spots ?l_are_spots ?c_are_spots ?k_are_spots ?a_are_clashes ?l_are_clashes ?c_are_clashes ?k_are_clashes ?a_is_world ?l_is_world ?c_is_world ?k_is_world ?a_law_draw ?l_law_draw ?c_law_draw ?k_law_draw ?a_law_names ?l_law_names ?c_law_names ?k_law_names ?a_law_clashes ?l_law_clashes ?c_law_clashes ?k_law_clashes ?a_law_near ?l_law_near ?c_law_near ?k_law_near ?a_law_counter ?l_law_counter ?c_law_counter ?k_law_counter ?a_law_some ?l_law_some ?c_law_some ?k_law_some ?a_law_world ?l_law_world ?c_law_world ?k_law_world ?a_law_copy ?l_law_copy ?c_law_copy ?k_law_copy ?a_law_stands ?l_law_stands ?c_law_stands ?k_law_stands ?a_law_bad_pairs ?l_law_bad_pairs ?c_law_bad_pairs ?k_law_bad_pairs ?a_law_bad_spots ?l_law_bad_spots ?c_law_bad_spots ?k_law_bad_spots ?a_law_spoiled ?l_law_spoiled ?c_law_spoiled ?k_law_spoiled ?a_law ?l_law ?c_law ?k_law ?g_LETTERS ?g_LONGEST_NAME ?g_WORDS ?o_WORDS ?z_zip ?z_reversed ?z_all ?z_bool ?z_dict ?z_int ?z_isinstance ?z_len ?z_list ?z_max ?z_range ?z_set ?z_sorted ?z_str ?z_sum ?z_tuple
    (case aC_Floor => k_is); (case a_Floor_init => k_is); (case i_Floor_init => k_is); (case l_Floor_init => k_is)
    (case c_Floor_init => k_is); (case k_Floor_init => k_is); (case a_Floor_common_of => k_is); (case i_Floor_common_of => k_is)
    (case l_Floor_common_of => k_is); (case c_Floor_common_of => k_is); (case k_Floor_common_of => k_is); (case a_Floor_counter_of => k_is)
    (case i_Floor_counter_of => k_is); (case l_Floor_counter_of => k_is); (case c_Floor_counter_of => k_is); (case k_Floor_counter_of => k_is)
    (case a_Floor_is_full => k_is); (case i_Floor_is_full => k_is); (case l_Floor_is_full => k_is); (case c_Floor_is_full => k_is)
    (case k_Floor_is_full => k_is); (case pg_Floor => k_is); (case hd_Floor => k_is); (case po_Floor => k_is)
    (case sa_Floor => k_is); (case mk_Floor => k_is); (case kc_Floor => k_is); (case n_Floor_everywhere => k_is)
    (case n_Floor_clashing => k_is); (case a_mask_of => k_is); (case l_mask_of => k_is); (case c_mask_of => k_is)
    (case k_mask_of => k_is); (case a_bits_of => k_is); (case l_bits_of => k_is); (case c_bits_of => k_is)
    (case k_bits_of => k_is); (case a_is_name => k_is); (case l_is_name => k_is); (case c_is_name => k_is)
    (case k_is_name => k_is); (case a_is_whole => k_is); (case l_is_whole => k_is); (case c_is_whole => k_is)
    (case k_is_whole => k_is); (case a_is_below => k_is); (case l_is_below => k_is); (case c_is_below => k_is)
    (case k_is_below => k_is); (case a_is_rising => k_is); (case l_is_rising => k_is); (case c_is_rising => k_is)
    (case k_is_rising => k_is); (case a_are_spots => k_is); (case l_are_spots => k_is); (case c_are_spots => k_is)
    (case k_are_spots => k_is); (case a_are_clashes => k_is); (case l_are_clashes => k_is); (case c_are_clashes => k_is)
    (case k_are_clashes => k_is); (case a_is_world => k_is); (case l_is_world => k_is); (case c_is_world => k_is)
    (case k_is_world => k_is); (case a_law_draw => k_is); (case l_law_draw => k_is); (case c_law_draw => k_is)
    (case k_law_draw => k_is); (case a_law_names => k_is); (case l_law_names => k_is); (case c_law_names => k_is)
    (case k_law_names => k_is); (case a_law_clashes => k_is); (case l_law_clashes => k_is); (case c_law_clashes => k_is)
    (case k_law_clashes => k_is); (case a_law_near => k_is); (case l_law_near => k_is); (case c_law_near => k_is)
    (case k_law_near => k_is); (case a_law_counter => k_is); (case l_law_counter => k_is); (case c_law_counter => k_is)
    (case k_law_counter => k_is); (case a_law_some => k_is); (case l_law_some => k_is); (case c_law_some => k_is)
    (case k_law_some => k_is); (case a_law_world => k_is); (case l_law_world => k_is); (case c_law_world => k_is)
    (case k_law_world => k_is); (case a_law_copy => k_is); (case l_law_copy => k_is); (case c_law_copy => k_is)
    (case k_law_copy => k_is); (case a_law_stands => k_is); (case l_law_stands => k_is); (case c_law_stands => k_is)
    (case k_law_stands => k_is); (case a_law_bad_pairs => k_is); (case l_law_bad_pairs => k_is); (case c_law_bad_pairs => k_is)
    (case k_law_bad_pairs => k_is); (case a_law_bad_spots => k_is); (case l_law_bad_spots => k_is); (case c_law_bad_spots => k_is)
    (case k_law_bad_spots => k_is); (case a_law_spoiled => k_is); (case l_law_spoiled => k_is); (case c_law_spoiled => k_is)
    (case k_law_spoiled => k_is); (case a_law => k_is); (case l_law => k_is); (case c_law => k_is)
    (case k_law => k_is); (case g_LETTERS => k_is); (case g_LONGEST_NAME => k_is); (case g_WORDS => k_is)
    (case o_WORDS => k_is); (case z_zip => k_is); (case z_reversed => k_is); (case z_all => k_is)
    (case z_bool => k_is); (case z_dict => k_is); (case z_int => k_is); (case z_isinstance => k_is)
    (case z_len => k_is); (case z_list => k_is); (case z_max => k_is); (case z_range => k_is)
    (case z_set => k_is); (case z_sorted => k_is); (case z_str => k_is); (case z_sum => k_is)
    (case z_tuple => k_is)
#print axioms PySem.Challenge.cw_clashbook_k24_what_is_a_world_holds
