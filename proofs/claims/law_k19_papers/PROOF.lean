import PyProof.Rows.All
import Wide.All
import OpenK.AllK
import Wide.FinOn
import Lean
import PyProof.EqAt
import PyProof.EqKinds
import PyProof.TupleCall
import PyProof.IsiH_list
import KE.KDictOf
import PyProof.Rows.Exc
import PyProof.RulesTry
import PyProof.ForAppend
import PyProof.Rows.Tup
import PyProof.CollectWalk
import PyProof.Rows.DictListVals
import PyProof.AutoSeq1
import PyProof.FactsAll.list_3
import KE.KDictSum
import PyProof.Rows.SortStr
import PyProof.Rows.SortWalk
import PyProof.SetKind
import PyProof.Rows.SetObj
import PyProof.DictKinds
import PyProof.DictIter
import PyProof.MakeMany
import PyProof.WalksS
import PyProof.Walks
import PyProof.Seq
import PyProof.TupleIter
import PyProof.FactsAll.set_1
import PyProof.ForAny
import PyProof.Rows.SetFrom
import PyProof.Rows.StrMeet
import PyProof.NeKinds
import PyProof.ZipIter
import KE.BitLaws
import PyProof.Rows.TupAdd
import PySem.SetOps
import PyProof.EnumMake
import PyProof.EnumFor
import PyProof.Rows.EnumRows
import PyProof.Rows.Range3
import PySem.Challenge.RW_clashbook_k19_papers
set_option Elab.async false
set_option linter.all false
set_option maxRecDepth 100000
namespace L2
open PySem PySem.Spec PyProof.Rows
abbrev Key := Sum Int Str
def keyIs : Key → Value → Bool
  | .inl k, v => Value.isInt k v
  | .inr x, v => Value.isStrOf x v
def keyH (w : World) : Key → Int
  | .inl k => hashInt k
  | .inr x => hashStr w x
theorem keyIs_shape : ∀ {k : Key} {v : Value}, keyIs k v = true → (∃ i t, k = Sum.inl i ∧ v = Value.int i t) ∨ (∃ x t, k = Sum.inr x ∧ v = Value.str x t)
  | .inl i, v, h => by
    obtain ⟨t, e⟩ := Value.isInt_shape (k := i) (v := v) h
    exact .inl ⟨i, t, rfl, e⟩
  | .inr x, v, h => by
    obtain ⟨t, e⟩ := Value.isStrOf_shape (x := x) (v := v) h
    exact .inr ⟨x, t, rfl, e⟩
theorem keyIs_int (i : Int) (t : Tok) : keyIs (.inl i) (.int i t) = true := by simp [keyIs, Value.isInt]
theorem keyIs_str (x : Str) (t : Tok) : keyIs (.inr x) (.str x t) = true := by simp [keyIs, Value.isStrOf]
theorem key_ll (a b : Int) : decide ((Sum.inl a : Key) = Sum.inl b) = (a == b) := by
  by_cases e : a = b
  · subst e; simp
  · have h : ¬ (Sum.inl a : Key) = Sum.inl b := fun q => e (Sum.inl.inj q)
    rw [decide_eq_false h]
    exact (beq_eq_false_iff_ne.mpr e).symm
theorem key_rr (a b : Str) : decide ((Sum.inr a : Key) = Sum.inr b) = decide (a = b) := by
  by_cases e : a = b
  · subst e; simp
  · have h : ¬ (Sum.inr a : Key) = Sum.inr b := fun q => e (Sum.inr.inj q)
    rw [decide_eq_false h, decide_eq_false e]
theorem key_lr (a : Int) (b : Str) : decide ((Sum.inl a : Key) = Sum.inr b) = false := decide_eq_false (fun q => nomatch q)
theorem key_rl (a : Str) (b : Int) : decide ((Sum.inr a : Key) = Sum.inl b) = false := decide_eq_false (fun q => nomatch q)
def mixKind (prog : Program) (w : World) : PySem.KeyKind prog w Key where
  is := keyIs
  hash := keyH w
  inj := fun v a b ha hb => by
    rcases keyIs_shape ha with ⟨i, t, rfl, rfl⟩ | ⟨x, t, rfl, rfl⟩
    · rcases keyIs_shape hb with ⟨j, u, rfl, e⟩ | ⟨y, u, rfl, e⟩
      · injection e with e1 _; rw [e1]
      · exact nomatch e
    · rcases keyIs_shape hb with ⟨j, u, rfl, e⟩ | ⟨y, u, rfl, e⟩
      · exact nomatch e
      · injection e with e1 _; rw [e1]
  byValue := fun k v h => by
    rcases keyIs_shape h with ⟨i, t, rfl, rfl⟩ | ⟨x, t, rfl, rfl⟩ <;> rfl
  pyHash := fun hv h => by
    rcases keyIs_shape hv with ⟨i, t, rfl, rfl⟩ | ⟨x, t, rfl, rfl⟩
    · exact wpAny_pyHash_int h
    · exact wpAny_pyHash_str h
  eqBool := fun hu hv h => by
    rcases keyIs_shape hu with ⟨i, t, rfl, rfl⟩ | ⟨x, t, rfl, rfl⟩
    · rcases keyIs_shape hv with ⟨j, u, rfl, rfl⟩ | ⟨y, u, rfl, rfl⟩
      · rw [key_ll] at h; exact wpAny_eqBool_int h
      · rw [key_lr] at h; exact SeqAt.EqAt.int_str i t y u _ _ _ _ h
    · rcases keyIs_shape hv with ⟨j, u, rfl, rfl⟩ | ⟨y, u, rfl, rfl⟩
      · rw [key_rl] at h; exact SeqAt.EqAt.str_int x t j u _ _ _ _ h
      · rw [key_rr] at h; exact wpAny_eqBool_str h
  «strs» := fun k x t v h => by
    rcases keyIs_shape h with ⟨i, u, rfl, e⟩ | ⟨y, u, rfl, e⟩
    · exact nomatch e
    · injection e with e1 _
      subst e1
      cases v <;> rfl
theorem mixKind_int (prog : Program) (w : World) (i : Int) (t : Tok) : (mixKind prog w).is (.inl i) (.int i t) = true := keyIs_int i t
theorem mixKind_str (prog : Program) (w : World) (x : Str) (t : Tok) : (mixKind prog w).is (.inr x) (.str x t) = true := keyIs_str x t
end L2
namespace L2
open PySem PySem.Spec PyProof.Rows
inductive V where
  | non | bl (b : Bool) | int (i : Int) | str (x : Str) | byt (b : Array UInt8) | flt (b : UInt64) | ref (a : Addr) | ty (n : String)
  deriving DecidableEq
def RelV : V → Value → Prop
  | .non, u => u = Value.none
  | .bl b, u => u = Value.bool b
  | .int i, u => ∃ t, u = Value.int i t
  | .str x, u => ∃ t, u = Value.str x t
  | .byt b, u => ∃ t, u = Value.bytes b t
  | .flt b, u => ∃ t, u = Value.float b t
  | .ref a, u => u = Value.ref a
  | .ty n, u => u = Value.type n
abbrev Vals : List V → List Value → Prop := Paired RelV
theorem Vals.length {xs : List V} {us : List Value} (r : Vals xs us) : xs.length = us.length := Paired.length r
theorem Vals.get : ∀ {xs : List V} {us : List Value} {i : Nat} {x : V}, Vals xs us → xs[i]? = some x → ∃ u, us[i]? = some u ∧ RelV x u
  | _, _, _, _, .nil, e => by simp at e
  | _, _, 0, _, .cons r _, e => by simp at e; subst e; exact ⟨_, rfl, r⟩
  | _, _, i + 1, x, .cons _ t, e => by
    obtain ⟨u, h1, h2⟩ := Vals.get (i := i) (x := x) t (by simpa using e)
    exact ⟨u, by simpa using h1, h2⟩
theorem Vals.set {x : V} {u : Value} (r : RelV x u) : ∀ {xs : List V} {us : List Value} (i : Nat), Vals xs us → Vals (xs.set i x) (us.set i u)
  | _, _, _, .nil => .nil
  | _, _, 0, .cons _ t => .cons r t
  | _, _, i + 1, .cons q t => .cons q (Vals.set r i t)
theorem Vals.append : ∀ {xs ys : List V} {us ws : List Value}, Vals xs us → Vals ys ws → Vals (xs ++ ys) (us ++ ws)
  | _, _, _, _, .nil, s => s
  | _, _, _, _, .cons r t, s => .cons r (Vals.append t s)
theorem Vals.take : ∀ {xs : List V} {us : List Value} (n : Nat), Vals xs us → Vals (xs.take n) (us.take n)
  | _, _, 0, _ => .nil
  | _, _, _ + 1, .nil => .nil
  | _, _, n + 1, .cons r t => .cons r (Vals.take n t)
theorem Vals.drop : ∀ {xs : List V} {us : List Value} (n : Nat), Vals xs us → Vals (xs.drop n) (us.drop n)
  | _, _, 0, r => r
  | _, _, _ + 1, .nil => .nil
  | _, _, n + 1, .cons _ t => Vals.drop n t
def RelO : Option V → Option Value → Prop
  | some v, some u => RelV v u
  | none, none => True
  | _, _ => False
def KV {κ : Type} : List (κ × V) → List (κ × Value) → Prop := Paired fun (p : κ × V) (q : κ × Value) => p.1 = q.1 ∧ RelV p.2 q.2
def kV : Key → V
  | .inl i => .int i
  | .inr x => .str x
inductive HO where
  /-- a list -/
  | lst (xs : List V)
  /-- a tuple (never changes) -/
  | tup (xs : List V)
  /-- a dict whose keys are ints and texts; one whose keys are tuples of ints and texts (the empty one is both) -/
  | dK (kvs : List (Key × V)) | dT (kvs : List (List Key × V))
  /-- a set of ints: its members, its size -/
  | set (S : Int → Bool) (n : Nat)
  /-- an instance of the class at C, its dict at dx, its attributes -/
  | ins (C dx : Addr) (fs : List (Str × V))
  /-- the dict of the instance at x -/
  | own (x : Addr)
  /-- the dict of an exception -/
  | xd (fs : List (Str × V))
  /-- a bound method, f of x -/
  | met (f x : Addr)
  /-- a range object lo, lo + 1, .. below hi -/
  | rng (lo hi : Int)
  /-- a thing that is known to the object (the script; a dict while a loop walks it): read, never written while it is so -/
  | frz (o : Obj) (u : HO)
  /-- a code object's table -/
  | tbl (ps : Array Value)
  /-- any other thing, by what is true of its one object (a def of one's own: SetO a S n := HO.ext fun h => ..) -/
  | ext (φ : Heap → Prop)
abbrev Hp := Addr → Option HO
def upd (H : Hp) (a : Addr) (o : HO) : Hp := fun b => if b = a then some o else H b
theorem upd_same {H : Hp} {a : Addr} {o : HO} : upd H a o a = some o := by unfold upd; rw [if_pos rfl]
theorem upd_ne {H : Hp} {a b : Addr} {o : HO} (h : b ≠ a) : upd H a o b = H b := by unfold upd; rw [if_neg h]
theorem ne_of {H : Hp} {a b : Addr} {o u : HO} (h : H a = some o) (h' : H b = some u) (d : o ≠ u) : a ≠ b := by
  intro e; subst e; rw [h] at h'; exact d (Option.some.inj h')
theorem ne_of_none {H : Hp} {a b : Addr} {o : HO} (h : H a = some o) (h' : H b = none) : a ≠ b := by
  intro e; subst e; rw [h] at h'; cases h'
section
variable (P : Program) (w : World)
def ObjOk (H : Hp) (h : Heap) (a : Addr) : HO → Prop
  | .lst xs => xs.length ≤ sizeLine ∧ ∃ (its : List Value) (n : Nat), Vals xs its ∧ h.get? a = some { cls := .type "list", data := .seq its.toArray n }
  | .tup xs => xs.length ≤ sizeLine ∧ ∃ its : List Value, Vals xs its ∧ IsTup h a its.toArray
  | .dK kvs => kvs.length ≤ sizeLine ∧ (a == sysModules) = false ∧ ∃ vs, KV kvs vs ∧ h.DictOf (mixKind P w) a vs
  | .dT kvs => kvs.length ≤ sizeLine ∧ (a == sysModules) = false ∧ ∃ xs : List (List Key × Addr × Value),
      Paired (fun (p : List Key × V) (q : List Key × Addr × Value) => p.1 = q.1 ∧ H q.2.1 = some (.tup (p.1.map kV)) ∧ RelV p.2 q.2.2) kvs xs ∧
      ∃ o es ep, h.get? a = some o ∧ o.ExactDict ∧ o.data = .dict es ep ∧ es.toList = xs.map (entryOfKey (tupleKind (mixKind P w))) ∧ (xs.map (·.1)).Nodup
  | .set S n => h.SetOf (intKind P w) a S n
  | .ins C dx fs => H dx = some (.own a) ∧ fs.length ≤ 1000 ∧ dx ≠ a ∧ h.get? a = some (PySem.W.instObj C dx) ∧
      ∃ mA, h.Ns1 dx mA ∧ (∀ f, RelO (fs.lookup f) (mA f)) ∧ PySem.Within mA (fs.map (·.1))
  | .own _ => ∃ o, h.get? a = some o
  | .xd fs => ∃ mA, h.Ns1 a mA ∧ ∀ f, RelO (fs.lookup f) (mA f)
  | .rng lo hi => ∃ t u v, h.get? a = some { cls := .type "range", data := .fields #[.int lo t, .int hi u, .int 1 v] }
  | .frz o u => h.get? a = some o ∧ ObjOk H h a u
  | .tbl ps => h.get? a = some { cls := .none, data := .fields ps }
  | .met f x => h.get? a = some (PySem.W.methodObj (.ref f) (.ref x))
  | .ext φ => φ h ∧ (∃ o, h.get? a = some o) ∧ ∀ h1 h2 : Heap, φ h1 → (∀ o, h1.get? a = some o → h2.get? a = some o) → φ h2
def HOk (H : Hp) (h : Heap) : Prop := ∀ a o, H a = some o → ObjOk P w H h a o
end
section
variable {P : Program} {w : World} {H H' : Hp} {h h' : Heap} {a : Addr} {o : HO}
theorem ObjOk.lt (x : ObjOk P w H h a o) : a < h.objs.size := by
  cases o with
  | lst xs => obtain ⟨_, _, _, _, e⟩ := x; exact Heap.lt_size e
  | tup xs => obtain ⟨_, _, _, p⟩ := x; exact p.lt
  | dK kvs => obtain ⟨_, _, _, _, o, _, _, e, _⟩ := x; exact Heap.lt_size e
  | dT kvs => obtain ⟨_, _, _, _, o, _, _, e, _⟩ := x; exact Heap.lt_size e
  | set S n => obtain ⟨o, _, _, _, e, _⟩ := x; exact Heap.lt_size e
  | ins C dx fs => obtain ⟨_, _, _, e, _⟩ := x; exact Heap.lt_size e
  | own y => obtain ⟨_, e⟩ := x; exact Heap.lt_size e
  | xd fs => obtain ⟨_, ⟨_, _, _, e, _⟩, _⟩ := x; exact Heap.lt_size e
  | rng lo hi => obtain ⟨_, _, _, e⟩ := x; exact Heap.lt_size e
  | frz ob u => obtain ⟨e, _⟩ := x; exact Heap.lt_size e
  | tbl ps => exact Heap.lt_size (show h.get? a = some _ from x)
  | met f y => exact Heap.lt_size (show h.get? a = some _ from x)
  | ext φ => obtain ⟨_, ⟨_, e⟩, _⟩ := x; exact Heap.lt_size e
theorem Paired.mapP {α β : Type} {F G : α → β → Prop} : ∀ {l₁ : List α} {l₂ : List β}, Paired F l₁ l₂ → (∀ a b, F a b → G a b) → Paired G l₁ l₂
  | _, _, .nil, _ => .nil
  | _, _, .cons r t, f => .cons (f _ _ r) (Paired.mapP t f)
theorem ObjOk.stay (x : ObjOk P w H h a o) (k : ∀ b u, (b = a ∨ H b = some (.own a)) → h.get? b = some u → h'.get? b = some u)
    (ho : ∀ b, H b = some (.own a) → H' b = some (.own a)) (ht : ∀ b xs, H b = some (.tup xs) → H' b = some (.tup xs)) : ObjOk P w H' h' a o := by
  induction o with
  | lst xs => obtain ⟨z, its, n, r, e⟩ := x; exact ⟨z, its, n, r, k _ _ (.inl rfl) e⟩
  | tup xs => obtain ⟨z, its, r, ob, e, c⟩ := x; exact ⟨z, its, r, ob, k _ _ (.inl rfl) e, c⟩
  | dK kvs => obtain ⟨z, y, vs, r, ob, es, ep, e, c⟩ := x; exact ⟨z, y, vs, r, ob, es, ep, k _ _ (.inl rfl) e, c⟩
  | dT kvs =>
    obtain ⟨z, y, xs, r, ob, es, ep, e, c⟩ := x
    exact ⟨z, y, xs, Paired.mapP r fun p q z => ⟨z.1, ht _ _ z.2.1, z.2.2⟩, ob, es, ep, k _ _ (.inl rfl) e, c⟩
  | set S n => obtain ⟨ob, es, ep, t, e, c⟩ := x; exact ⟨ob, es, ep, t, k _ _ (.inl rfl) e, c⟩
  | ins C dx fs =>
    obtain ⟨d, z, ne, e, mA, ⟨od, es, ep, e2, c⟩, r⟩ := x
    exact ⟨ho _ d, z, ne, k _ _ (.inl rfl) e, mA, ⟨od, es, ep, k _ _ (.inr d) e2, c⟩, r⟩
  | own y => obtain ⟨ob, e⟩ := x; exact ⟨ob, k _ _ (.inl rfl) e⟩
  | xd fs => obtain ⟨mA, ⟨od, es, ep, e, c⟩, r⟩ := x; exact ⟨mA, ⟨od, es, ep, k _ _ (.inl rfl) e, c⟩, r⟩
  | rng lo hi => obtain ⟨t, u, v, e⟩ := x; exact ⟨t, u, v, k _ _ (.inl rfl) e⟩
  | frz ob u ih => obtain ⟨e, q⟩ := x; exact ⟨k _ _ (.inl rfl) e, ih q⟩
  | tbl ps =>
    have e : h.get? a = some { cls := .none, data := .fields ps } := x
    show h'.get? a = some { cls := .none, data := .fields ps }
    exact k a _ (.inl rfl) e
  | met f y =>
    have e : h.get? a = some (PySem.W.methodObj (.ref f) (.ref y)) := x
    show h'.get? a = some (PySem.W.methodObj (.ref f) (.ref y))
    exact k a _ (.inl rfl) e
  | ext φ => obtain ⟨p, ⟨o, e⟩, st⟩ := x; exact ⟨st _ _ p fun o q => k _ _ (.inl rfl) q, ⟨o, k _ _ (.inl rfl) e⟩, st⟩
theorem HOk.lt (x : HOk P w H h) (e : H a = some o) : a < h.objs.size := (x a o e).lt
theorem HOk.fresh (x : HOk P w H h) (e : h.objs.size ≤ a) : H a = none := by
  cases q : H a with
  | none => rfl
  | some u => exact absurd (Nat.lt_of_lt_of_le (x.lt q) e) (Nat.lt_irrefl _)
theorem HOk.kept (x : HOk P w H h) (k : ∀ b u, h.get? b = some u → h'.get? b = some u) : HOk P w H h' := fun a o e =>
  (x a o e).stay (fun b u _ q => k b u q) (fun _ q => q) fun _ _ q => q
theorem HOk.laid (x : HOk P w H h) (k : ∀ b u, h.get? b = some u → h'.get? b = some u) (hp : h.objs.size ≤ a) (new : ObjOk P w (upd H a o) h' a o) : HOk P w (upd H a o) h' := fun b u e => by
  have hn := x.fresh hp
  by_cases hb : b = a
  · subst hb; rw [upd_same] at e; cases e; exact new
  · rw [upd_ne hb] at e
    exact (x b u e).stay (fun c v _ q => k c v q) (fun c q => by rw [upd_ne (ne_of_none q hn)]; exact q) fun c xs q => by rw [upd_ne (ne_of_none q hn)]; exact q
end
def Rd (H : Hp) (a : Addr) (u : HO) : Prop := H a = some u ∨ ∃ o, H a = some (.frz o u)
theorem Rd.of {H : Hp} {a : Addr} {u : HO} (h : H a = some u) : Rd H a u := .inl h
theorem Rd.ok {P : Program} {w : World} {H : Hp} {h : Heap} {a : Addr} {u : HO} (r : Rd H a u) (x : HOk P w H h) : ObjOk P w H h a u := by
  rcases r with r | ⟨o, r⟩
  · exact x a u r
  · obtain ⟨_, q⟩ := x a _ r
    exact q
def Mut : Option HO → Prop
  | some (.lst _) => True
  | some (.dK _) => True
  | some (.dT _) => True
  | some (.set _ _) => True
  | some (.ins _ _ _) => True
  | some (.ext _) => True
  | _ => False
section
variable {P : Program} {w : World} {H : Hp} {h h' : Heap} {x e : Addr} {o' : HO}
theorem HOk.write (ok : HOk P w H h) (mu : Mut (H x)) (he : e = x ∨ H e = some (.own x)) (k : ∀ b u, b ≠ e → h.get? b = some u → h'.get? b = some u) (heo : ∃ u, h'.get? e = some u)
    (new : ObjOk P w (upd H x o') h' x o') : HOk P w (upd H x o') h' := fun b u q => by
  have nown : ∀ c y, H c = some (.own y) → c ≠ x := fun c y r z => by subst z; rw [r] at mu; exact mu
  have ntup : ∀ c xs, H c = some (.tup xs) → c ≠ x := fun c xs r z => by subst z; rw [r] at mu; exact mu
  by_cases hb : b = x
  · subst hb; rw [upd_same] at q; cases q; exact new
  · rw [upd_ne hb] at q
    by_cases hbe : b = e
    · have q' : H b = some (.own x) := by
        rcases he with z | z
        · exact absurd (hbe.trans z) hb
        · rw [hbe]; exact z
      rw [q] at q'; cases q'
      obtain ⟨v, hv⟩ := heo
      exact ⟨v, by rw [hbe]; exact hv⟩
    · refine (ok b u q).stay (fun c v hc r => k c v ?_ r) (fun c r => by rw [upd_ne (nown c b r)]; exact r) fun c xs r => by rw [upd_ne (ntup c xs r)]; exact r
      rcases hc with rfl | hc
      · exact hbe
      · rintro rfl
        rcases he with z | z
        · exact nown c b hc z
        · rw [hc] at z; cases z; exact hb rfl
end
structure Un (fs ex : List Addr) (H H' : Hp) (h h' : Heap) : Prop where
  keep : ∀ b o, h.get? b = some o → H b = none → b ∉ fs → b ∉ ex → h'.get? b = some o
  slot : ∀ b o, h.get? b = some o → H b = none → b ∈ fs → b ∉ ex → ∃ sl, h'.get? b = some { o with slots := sl }
  free : ∀ b o, h.get? b = some o → H b = none → b ∉ ex → H' b = none
  there : ∀ b o, h.get? b = some o → b ∉ ex → ∃ o', h'.get? b = some o'
  tups : ∀ b xs, H b = some (.tup xs) → H' b = some (.tup xs)
  frzs : ∀ b o u, H b = some (.frz o u) → H' b = some (.frz o u)
  tbls : ∀ b ps, H b = some (.tbl ps) → ∃ more, H' b = some (.tbl (ps ++ more))
section
variable {fs fs' ex ex' : List Addr} {H H1 H2 : Hp} {h h1 h2 h' : Heap} {a x e : Addr} {o : HO}
theorem Un.any (u : Un fs ex H H1 h h1) {b : Addr} {ob : Obj} (q : h.get? b = some ob) (n : H b = none) (hx : b ∉ ex) : ∃ sl, h1.get? b = some { ob with slots := sl } := by
  by_cases hb : b ∈ fs
  · exact u.slot b ob q n hb hx
  · exact ⟨ob.slots, u.keep b ob q n hb hx⟩
theorem Un.trans (a : Un fs ex H H1 h h1) (b : Un fs ex H1 H2 h1 h2) : Un fs ex H H2 h h2 where
  keep := fun c ob q n hc hx => b.keep c ob (a.keep c ob q n hc hx) (a.free c ob q n hx) hc hx
  slot := fun c ob q n hc hx => by
    obtain ⟨sl, e1⟩ := a.slot c ob q n hc hx
    obtain ⟨sl', e2⟩ := b.slot c _ e1 (a.free c ob q n hx) hc hx
    exact ⟨sl', e2⟩
  free := fun c ob q n hx => by
    obtain ⟨o', e1⟩ := a.there c ob q hx
    exact b.free c o' e1 (a.free c ob q n hx) hx
  there := fun c ob q hx => by
    obtain ⟨o', e1⟩ := a.there c ob q hx
    exact b.there c o' e1 hx
  tups := fun c xs q => b.tups c xs (a.tups c xs q)
  frzs := fun c ob xs q => b.frzs c ob xs (a.frzs c ob xs q)
  tbls := fun c ps q => by
    obtain ⟨m1, e1⟩ := a.tbls c ps q
    obtain ⟨m2, e2⟩ := b.tbls c _ e1
    exact ⟨m1 ++ m2, by rw [e2, Array.append_assoc]⟩
theorem Un.kept (k : ∀ b u, h.get? b = some u → h'.get? b = some u) : Un fs ex H H h h' :=
  ⟨fun b ob q _ _ _ => k b ob q, fun b ob q _ _ _ => ⟨ob.slots, k b ob q⟩, fun _ _ _ n _ => n, fun b ob q _ => ⟨ob, k b ob q⟩, fun _ _ q => q, fun _ _ _ q => q, fun _ ps q => ⟨#[], by rw [q]; simp⟩⟩
theorem Un.refl : Un fs ex H H h h := Un.kept fun _ _ q => q
theorem Un.laid (k : ∀ b u, h.get? b = some u → h'.get? b = some u) (hp : h.objs.size ≤ a) (hn : H a = none) : Un fs ex H (upd H a o) h h' where
  keep := fun b u q _ _ _ => k b u q
  slot := fun b u q _ _ _ => ⟨u.slots, k b u q⟩
  free := fun b u q n _ => by rw [upd_ne (Nat.ne_of_lt (Nat.lt_of_lt_of_le (Heap.lt_size q) hp))]; exact n
  there := fun b u q _ => ⟨u, k b u q⟩
  tups := fun b xs q => by rw [upd_ne (ne_of_none q hn)]; exact q
  frzs := fun b u xs q => by rw [upd_ne (ne_of_none q hn)]; exact q
  tbls := fun b ps q => ⟨#[], by rw [upd_ne (ne_of_none q hn), q]; simp⟩
theorem Un.write (mu : Mut (H x)) (he : e = x ∨ H e = some (.own x)) (k : ∀ b u, b ≠ e → h.get? b = some u → h'.get? b = some u) (heo : ∃ u, h'.get? e = some u) : Un fs ex H (upd H x o) h h' := by
  have hx : ∀ b, H b = none → b ≠ x := fun b n z => by subst z; rw [n] at mu; exact mu
  have hb : ∀ b, H b = none → b ≠ e := fun b n z => by
    subst z
    rcases he with r | r
    · exact hx b n r
    · rw [n] at r; cases r
  have hm : ∀ b u, H b = some u → ¬ Mut (some u) → b ≠ x := fun b u q nm z => by subst z; rw [q] at mu; exact nm mu
  refine ⟨fun b u q n _ _ => k b u (hb b n) q, fun b u q n _ _ => ⟨u.slots, k b u (hb b n) q⟩, fun b u q n _ => by rw [upd_ne (hx b n)]; exact n, fun b u q _ => ?_,
    fun b xs q => by rw [upd_ne (hm b _ q fun z => z)]; exact q, fun b u xs q => by rw [upd_ne (hm b _ q fun z => z)]; exact q, fun b ps q => ⟨#[], by rw [upd_ne (hm b _ q fun z => z), q]; simp⟩⟩
  by_cases hbe : b = e
  · subst hbe; exact heo
  · exact ⟨u, k b u hbe q⟩
theorem Un.mono (u : Un fs ex H H1 h h1) (hs : ∀ b ∈ fs, b ∈ fs') (hx : ∀ b ∈ ex, b ∈ ex') : Un fs' ex' H H1 h h1 :=
  ⟨fun b ob q n hb he => u.keep b ob q n (fun z => hb (hs b z)) fun z => he (hx b z), fun _ _ q n _ he => u.any q n fun z => he (hx _ z), fun b ob q n he => u.free b ob q n fun z => he (hx b z), fun b ob q he => u.there b ob q fun z => he (hx b z), u.tups, u.frzs, u.tbls⟩
end
def trk (h : Heap) (H : Hp) : List Addr := (List.range h.objs.size).filter fun a => (H a).isSome
def hidT (h : Heap) (H : Hp) : Heap := PySem.W.hideAll h (trk h H)
theorem hidT_size (h : Heap) (H : Hp) : (hidT h H).objs.size = h.objs.size := PySem.W.hideAll_size _ _
theorem hidT_get {h : Heap} {H : Hp} {b : Addr} {o : Obj} (e : h.get? b = some o) (n : H b = none) : (hidT h H).get? b = some o :=
  PySem.W.hideAll_get _ e fun hm => by
    have q : (H b).isSome = true := (List.mem_filter.mp hm).2
    rw [n] at q; simp at q
theorem of_hidT {h : Heap} {H : Hp} {b : Addr} {o : Obj} (e : (hidT h H).get? b = some o) : h.get? b = some o ∧ H b = none := by
  have e' : h.get? b = some o := PySem.W.of_hideAll (trk h H) e
  refine ⟨e', ?_⟩
  cases q : H b with
  | none => rfl
  | some x =>
    have hm : b ∈ trk h H := List.mem_filter.mpr ⟨List.mem_range.mpr (Heap.lt_size e'), by simp [q]⟩
    have z : (hidT h H).get? b = none := PySem.W.hideAll_none (trk h H) hm
    rw [z] at e; cases e
def allNews (g h : Heap) (L : Addr) : List (Addr × Obj) := (List.range h.objs.size).filterMap fun a => if a = L ∨ (g.get? a).isSome = true then none else (h.get? a).map fun o => (a, o)
def rest (g h : Heap) (L d : Addr) : List (Addr × Obj) := (allNews g h L).filter fun p => decide (p.1 ≠ d)
end L2
namespace L2
open PySem PySem.Spec PyProof.Rows
structure Mod (K : PySem.W.Frag) (mg : Str → Option Value) (base : Heap) : Prop where
  kin : K.In base
  glob : base.Ns mainGlobals mg
  blt : ∃ mb, base.Ns builtinsNs mb ∧ ∀ x : Str, x ≠ "__name__" → mb x = bootBuiltins x
  nolimit : base.NoLimit
structure Cx where
  prog : Program
  w : World
  K : PySem.W.Frag
  mg : Str → Option Value
  base : Heap
  A : Around
  N : List Str
  s₀ : Shared
  H₀ : Hp
  env : Env
  outer : List Env
  stack : List Env
  ex : List Addr
  fn : Str → Bool
  calm : Bool
  pn : List (Addr × Obj)
  xe : Value → Shared → Prop
def frs (l : List Env) : List Addr := l.filterMap (·.frame)
abbrev Cx.fs (X : Cx) : List Addr := frs X.outer
def Vis (sc : Scope) (x : Str) : Prop := sc.names.lookup x = some .local ∨ sc.names.lookup x = some .cell ∨ sc.names.lookup x = some .free
def Loc (sc : Scope) (x : Str) : Prop := sc.names.lookup x = some .local ∨ sc.names.lookup x = some .cell
def Look (env : Env) (h : Heap) (m : Str → Option Value) (x : Str) (u : Value) : Prop :=
  (env.kindOf x = some .local ∧ m x = some u) ∨ ((env.kindOf x = some .cell ∨ env.kindOf x = some .free) ∧ ∃ c, env.cells.lookup x = some c ∧ h.IsCell c (some u))
structure Cx.Ok (X : Cx) : Prop where
  mod : Mod X.K X.mg X.base
  kind : X.env.scope.kind = .function
  glob : X.env.globals = mainGlobals
  blt : X.env.builtins = builtinsNs
  above : X.s₀.heap.objs.size ≤ X.env.locals
  inj : ∀ x y c, X.env.cells.lookup x = some c → X.env.cells.lookup y = some c → x = y
  has : ∀ x, (X.env.kindOf x = some .cell ∨ X.env.kindOf x = some .free) → ∃ c, X.env.cells.lookup x = some c
  cab : ∀ x c, X.fn x = true → X.env.cells.lookup x = some c → X.s₀.heap.objs.size ≤ c
  hd : X.calm = true → X.A.handled = none
  frames : X.A.frames = some X.stack
  stk : X.stack = X.outer ∨ (X.stack = X.env :: X.outer ∧ X.env.frame = some X.env.locals)
  exf : ∀ b ∈ X.ex, b ≠ X.env.locals ∧ ∀ x c, X.env.cells.lookup x = some c → c ≠ b
  bs : ∀ b o, X.base.get? b = some o → X.s₀.heap.get? b = some o ∧ X.H₀ b = none
  bsz : X.base.objs.size ≤ X.s₀.heap.objs.size
  noex : ∀ b o, X.base.get? b = some o → b ∉ X.ex
  exfs : ∀ b ∈ X.ex, b ∉ X.fs
  funs : X.s₀.heap.FunFrames X.base X.outer
  frf : ∀ b ∈ X.fs, X.H₀ b = none
structure Inv (X : Cx) (pins : List (Addr × Obj)) (σ : List (Option V)) (H : Hp) (s : Shared) : Prop where
  ok : X.Ok
  os : s.os = X.s₀.os
  bare : AllBare s.gens
  base : Un X.fs X.ex X.H₀ H X.s₀.heap s.heap
  loc : ∃ m, s.heap.Ns X.env.locals m ∧ ∀ (i : Nat) (x : Str) (v : V), X.N[i]? = some x → σ[i]? = some (some v) → Vis X.env.scope x → ∃ u, RelV v u ∧ Look X.env s.heap m x u
  cell : ∀ x c, X.env.cells.lookup x = some c → ∃ v, s.heap.IsCell c v
  free : H X.env.locals = none
  freeC : ∀ x c, X.env.cells.lookup x = some c → H c = none
  pin : ∀ p ∈ X.pn ++ pins, s.heap.get? p.1 = some p.2 ∧ H p.1 = none ∧ p.1 ≠ X.env.locals ∧ p.1 ∉ X.fs ∧ ∀ v, p.2.data ≠ .cell v
  hok : HOk X.prog X.w H s.heap
  len : σ.length = X.N.length
section
variable {X : Cx} {pins : List (Addr × Obj)} {σ : List (Option V)} {H H' : Hp} {s : Shared} {h' : Heap}
theorem Cx.Ok.nofr (ok : X.Ok) {b : Addr} {o : Obj} (e : X.base.get? b = some o) : b ∉ X.fs := fun hb => by
  have := (ok.funs.mem hb).1
  rw [e] at this; cases this
theorem Inv.bs (I : Inv X pins σ H s) : ∀ b o, X.base.get? b = some o → s.heap.get? b = some o ∧ H b = none := fun b o e =>
  ⟨I.base.keep b o (I.ok.bs b o e).1 (I.ok.bs b o e).2 (I.ok.nofr e) (I.ok.noex b o e), I.base.free b o (I.ok.bs b o e).1 (I.ok.bs b o e).2 (I.ok.noex b o e)⟩
theorem Inv.bk (I : Inv X pins σ H s) : ∀ b o, X.base.get? b = some o → s.heap.get? b = some o := fun b o e => (I.bs b o e).1
theorem Inv.mod (I : Inv X pins σ H s) : Mod X.K X.mg X.base := I.ok.mod
theorem Inv.kIn (I : Inv X pins σ H s) : X.K.In s.heap := I.ok.mod.kin.keeps I.bk
theorem Inv.nolimit (I : Inv X pins σ H s) : s.heap.NoLimit := I.ok.mod.nolimit.keeps I.bk
theorem Inv.fr (I : Inv X pins σ H s) : ∃ m, Fr X.base X.env.locals s.heap m :=
  let ⟨m, hn, _⟩ := I.loc
  ⟨m, hn, I.bk, Nat.le_trans I.ok.bsz I.ok.above⟩
theorem Inv.lt (I : Inv X pins σ H s) : X.env.locals < s.heap.objs.size := let ⟨_, hn, _⟩ := I.loc; hn.lt
theorem Inv.sz (I : Inv X pins σ H s) : X.s₀.heap.objs.size ≤ s.heap.objs.size := Nat.le_trans I.ok.above (Nat.le_of_lt I.lt)
theorem Inv.nofs (I : Inv X pins σ H s) {a : Addr} (h : s.heap.objs.size ≤ a) : a ∉ X.fs := fun hb => by
  obtain ⟨_, o, ho, _⟩ := I.ok.funs.mem hb
  exact absurd (Nat.lt_of_lt_of_le (Heap.lt_size ho) (Nat.le_trans I.sz h)) (Nat.lt_irrefl _)
theorem Inv.cne (I : Inv X pins σ H s) : ∀ x c, X.env.cells.lookup x = some c → c ≠ X.env.locals := fun x c e z => by
  obtain ⟨v, o, ho, hd⟩ := I.cell x c e
  obtain ⟨m, ⟨o', es, ep, ho', hd', _⟩, _⟩ := I.loc
  rw [z, ho'] at ho; cases ho; rw [hd'] at hd; cases hd
theorem Inv.funs (I : Inv X pins σ H s) : s.heap.FunFrames X.base X.outer := by
  have all : ∀ (l : List Env), (∀ b ∈ frs l, b ∈ X.fs) → X.s₀.heap.FunFrames X.base l → s.heap.FunFrames X.base l := by
    intro l
    induction l with
    | nil => intro _ _; trivial
    | cons env r ih =>
      intro hs hl
      obtain ⟨hk, ⟨L, o, hf, hn, ho, hd⟩, hr⟩ := hl
      have hL : L ∈ X.fs := hs L (by unfold frs; rw [List.filterMap_cons, hf]; exact List.mem_cons_self)
      obtain ⟨sl, e⟩ := I.base.slot L o ho (I.ok.frf L hL) hL fun z => I.ok.exfs L z hL
      exact ⟨hk, ⟨L, _, hf, hn, e, hd⟩, ih (fun b hb => hs b (by unfold frs; rw [List.filterMap_cons, hf]; exact List.mem_cons_of_mem _ hb)) hr⟩
  exact all X.outer (fun _ hb => hb) I.ok.funs
theorem Inv.stack (I : Inv X pins σ H s) : s.heap.FunFrames X.base X.stack := by
  rcases I.ok.stk with e | ⟨e, hf⟩
  · rw [e]; exact I.funs
  · rw [e]
    obtain ⟨m, hn, _⟩ := I.loc
    refine .cons (by rw [I.ok.kind]; decide) hf hn ?_ I.funs
    exact Heap.get?_none_of_le (Nat.le_trans I.ok.bsz I.ok.above)
theorem Inv.stkSub (I : Inv X pins σ H s) : ∀ b ∈ frs X.stack, b ∈ X.env.locals :: X.fs := fun b hb => by
  rcases I.ok.stk with e | ⟨e, hf⟩
  · rw [e] at hb; exact List.mem_cons_of_mem _ hb
  · rw [e] at hb
    unfold frs at hb
    rw [List.filterMap_cons, hf] at hb
    exact hb
theorem Inv.stkFree (I : Inv X pins σ H s) : ∀ b ∈ frs X.stack, H b = none := fun b hb => by
  rcases List.mem_cons.mp (I.stkSub b hb) with e | hb
  · rw [e]; exact I.free
  · obtain ⟨_, o, ho, _⟩ := I.ok.funs.mem hb
    exact I.base.free b o ho (I.ok.frf b hb) fun z => I.ok.exfs b z hb
theorem Inv.step {g' : Array GenState} {t' : Nat} {d' : Drawn} {ch : List Addr} (I : Inv X pins σ H s)
    (hch : ∀ b ∈ ch, (b ∈ X.ex ∨ X.s₀.heap.objs.size ≤ b) ∧ b ≠ X.env.locals ∧ (∀ x c, X.env.cells.lookup x = some c → c ≠ b) ∧ ∀ p ∈ X.pn ++ pins, p.1 ≠ b)
    (keep : ∀ b o, b ≠ X.env.locals → b ∉ X.fs → b ∉ ch → s.heap.get? b = some o → H b = none → h'.get? b = some o)
    (slot : ∀ b o, b ≠ X.env.locals → b ∈ X.fs → b ∉ ch → s.heap.get? b = some o → H b = none → ∃ sl, h'.get? b = some { o with slots := sl }) (free : ∀ b o, b ∉ ch → s.heap.get? b = some o → H b = none → H' b = none)
    (there : ∀ b o, b ∉ ch → s.heap.get? b = some o → ∃ o', h'.get? b = some o')
    (tups : ∀ b xs, H b = some (.tup xs) → H' b = some (.tup xs)) (frzs : ∀ b o u, H b = some (.frz o u) → H' b = some (.frz o u)) (tbls : ∀ b ps, H b = some (.tbl ps) → ∃ more, H' b = some (.tbl (ps ++ more)))
    (ns : ∀ m, s.heap.Ns X.env.locals m → h'.Ns X.env.locals m) (hok : HOk X.prog X.w H' h') (hg : AllBare g') :
    Inv X pins σ H' { s with heap := h', gens := g', drawn := d', toks := t' } := by
  have neL : ∀ b o, X.s₀.heap.get? b = some o → b ≠ X.env.locals := fun b o e => Nat.ne_of_lt (Nat.lt_of_lt_of_le (Heap.lt_size e) I.ok.above)
  have neC : ∀ b o, X.s₀.heap.get? b = some o → b ∉ X.ex → b ∉ ch := fun b o e hx hb => by
    rcases (hch b hb).1 with z | z
    · exact hx z
    · exact absurd (Nat.lt_of_lt_of_le (Heap.lt_size e) z) (Nat.lt_irrefl _)
  have cellK : ∀ x c, X.env.cells.lookup x = some c → ∀ v, s.heap.IsCell c v → h'.IsCell c v := fun x c e v ⟨o, ho, hd⟩ => by
    have nch : c ∉ ch := fun z => (hch c z).2.2.1 x c e rfl
    by_cases hc : c ∈ X.fs
    · obtain ⟨sl, q⟩ := slot c o (I.cne x c e) hc nch ho (I.freeC x c e)
      exact ⟨_, q, hd⟩
    · exact ⟨o, keep c o (I.cne x c e) hc nch ho (I.freeC x c e), hd⟩
  refine ⟨I.ok, I.os, hg, ⟨fun b o e n hb hx => ?_, fun b o e n hb hx => ?_, fun b o e n hx => ?_, fun b o e hx => ?_, fun b xs e => tups b xs (I.base.tups b xs e), fun b o xs e => frzs b o xs (I.base.frzs b o xs e), fun b ps e => ?_⟩, ?_, fun x c e => ?_, ?_, fun x c e => ?_, fun p hp => ?_, hok, I.len⟩
  · exact keep b o (neL b o e) hb (neC b o e hx) (I.base.keep b o e n hb hx) (I.base.free b o e n hx)
  · obtain ⟨sl, e1⟩ := I.base.slot b o e n hb hx
    obtain ⟨sl', e2⟩ := slot b _ (neL b o e) hb (neC b o e hx) e1 (I.base.free b o e n hx)
    exact ⟨sl', e2⟩
  · obtain ⟨o', e1⟩ := I.base.there b o e hx
    exact free b o' (neC b o e hx) e1 (I.base.free b o e n hx)
  · obtain ⟨o', e1⟩ := I.base.there b o e hx
    exact there b o' (neC b o e hx) e1
  · obtain ⟨m1, e1⟩ := I.base.tbls b ps e
    obtain ⟨m2, e2⟩ := tbls b _ e1
    exact ⟨m1 ++ m2, by rw [e2, Array.append_assoc]⟩
  · obtain ⟨m, hn, hl⟩ := I.loc
    refine ⟨m, ns m hn, fun i x v e1 e2 e3 => ?_⟩
    obtain ⟨u, r, l⟩ := hl i x v e1 e2 e3
    refine ⟨u, r, ?_⟩
    rcases l with l | ⟨k, c, e, z⟩
    · exact .inl l
    · exact .inr ⟨k, c, e, cellK x c e _ z⟩
  · obtain ⟨v, z⟩ := I.cell x c e
    exact ⟨v, cellK x c e v z⟩
  · obtain ⟨m, ⟨o, _, _, ho, _⟩, _⟩ := I.loc
    exact free _ o (fun z => (hch _ z).2.1 rfl) ho I.free
  · obtain ⟨v, o, ho, hd⟩ := I.cell x c e
    exact free c o (fun z => (hch c z).2.2.1 x c e rfl) ho (I.freeC x c e)
  · obtain ⟨e, n, ne, nf, d⟩ := I.pin p hp
    have nch : p.1 ∉ ch := fun z => (hch p.1 z).2.2.2 p hp rfl
    exact ⟨keep p.1 p.2 ne nf nch e n, free p.1 p.2 nch e n, ne, nf, d⟩
theorem Inv.un {t' : Nat} (I : Inv X pins σ H s) (u : Un X.fs [] H H' s.heap h') (hok : HOk X.prog X.w H' h') : Inv X pins σ H' { s with heap := h', toks := t' } := by
  obtain ⟨m, ⟨o, es, ep, ho, r⟩, _⟩ := id I.loc
  obtain ⟨sl, hL⟩ := u.any ho I.free (by simp)
  exact I.step (g' := s.gens) (d' := s.drawn) (ch := []) (fun _ z => nomatch z) (fun b o _ hb _ e n => u.keep b o e n hb (by simp)) (fun b o _ hb _ e n => u.slot b o e n hb (by simp)) (fun b o _ e n => u.free b o e n (by simp)) (fun b o _ e => u.there b o e (by simp)) u.tups u.frzs u.tbls (fun m' hm => by
    obtain ⟨o', es', ep', ho', r'⟩ := hm
    rw [ho] at ho'; cases ho'
    exact ⟨_, es', ep', hL, r'⟩) hok I.bare
theorem Inv.call {g' : Array GenState} {t' : Nat} {d' : Drawn} {ch : List Addr} (I : Inv X pins σ H s) (u : Un (frs X.stack) ch H H' s.heap h') (hok : HOk X.prog X.w H' h') (hg : AllBare g')
    (hch : ∀ b ∈ ch, (b ∈ X.ex ∨ X.s₀.heap.objs.size ≤ b) ∧ b ≠ X.env.locals ∧ (∀ x c, X.env.cells.lookup x = some c → c ≠ b) ∧ ∀ p ∈ X.pn ++ pins, p.1 ≠ b) :
    Inv X pins σ H' { s with heap := h', gens := g', drawn := d', toks := t' } := by
  obtain ⟨m, ⟨o, es, ep, ho, r⟩, _⟩ := id I.loc
  obtain ⟨sl, hL⟩ := u.any ho I.free fun z => (hch _ z).2.1 rfl
  exact I.step (ch := ch) hch (fun b o hL hb hc e n => u.keep b o e n (fun z => (List.mem_cons.mp (I.stkSub b z)).elim hL hb) hc) (fun b o _ _ hc e n => u.any e n hc) (fun b o hc e n => u.free b o e n hc) (fun b o hc e => u.there b o e hc) u.tups u.frzs u.tbls (fun m' hm => by
    obtain ⟨o', es', ep', ho', r'⟩ := hm
    rw [ho] at ho'; cases ho'
    exact ⟨_, es', ep', hL, r'⟩) hok hg
theorem Inv.turned {t' : Nat} {it : Addr} (I : Inv X pins σ H s) (k : ∀ b o, b ≠ it → s.heap.get? b = some o → h'.get? b = some o) (hn : H it = none) (hL : it ≠ X.env.locals)
    (h1 : it ∈ X.ex ∨ X.s₀.heap.objs.size ≤ it) (h2 : ∀ x c, X.env.cells.lookup x = some c → c ≠ it) (h3 : ∀ p ∈ X.pn ++ pins, p.1 ≠ it) : Inv X pins σ H { s with heap := h', toks := t' } := by
  have nit : ∀ b u, H b = some u → b ≠ it := fun b u e z => by rw [z, hn] at e; cases e
  refine I.step (g' := s.gens) (d' := s.drawn) (ch := [it]) (fun b hb => ?_) (fun b o _ _ hc e _ => k b o (fun z => hc (by simp [z])) e) (fun b o _ _ hc e _ => ⟨o.slots, k b o (fun z => hc (by simp [z])) e⟩) (fun _ _ _ _ n => n)
    (fun b o hc e => ⟨o, k b o (fun z => hc (by simp [z])) e⟩) (fun _ _ e => e) (fun _ _ _ e => e) (fun b ps e => ⟨#[], by rw [e]; simp⟩) (fun m hm => ?_) (fun b u e => ?_) I.bare
  · have e : b = it := by simpa using hb
    subst e
    exact ⟨h1, hL, h2, h3⟩
  · obtain ⟨o, es, ep, ho, r⟩ := hm
    exact ⟨o, es, ep, k _ o (Ne.symm hL) ho, r⟩
  · refine (I.hok b u e).stay (fun c v hc q => k c v ?_ q) (fun _ q => q) fun _ _ q => q
    rcases hc with z | z
    · rw [z]; exact nit b u e
    · exact nit c _ z
theorem Inv.tok (I : Inv X pins σ H s) (t : Nat) : Inv X pins σ H { s with toks := t } := I.un (h' := s.heap) (t' := t) Un.refl I.hok
theorem Inv.kept {t' : Nat} (I : Inv X pins σ H s) (k : ∀ b u, s.heap.get? b = some u → h'.get? b = some u) : Inv X pins σ H { s with heap := h', toks := t' } := I.un (Un.kept k) (I.hok.kept k)
theorem Inv.laid {a : Addr} {o : HO} {t' : Nat} (I : Inv X pins σ H s) (k : ∀ b u, s.heap.get? b = some u → h'.get? b = some u) (hp : s.heap.objs.size ≤ a) (new : ObjOk X.prog X.w (upd H a o) h' a o) :
    Inv X pins σ (upd H a o) { s with heap := h', toks := t' } := I.un (Un.laid k hp (I.hok.fresh hp)) (I.hok.laid k hp new)
theorem Inv.write {x e : Addr} {o : HO} {t' : Nat} (I : Inv X pins σ H s) (mu : Mut (H x)) (he : e = x ∨ H e = some (.own x)) (k : ∀ b u, b ≠ e → s.heap.get? b = some u → h'.get? b = some u) (heo : ∃ u, h'.get? e = some u)
    (new : ObjOk X.prog X.w (upd H x o) h' x o) : Inv X pins σ (upd H x o) { s with heap := h', toks := t' } := I.un (Un.write mu he k heo) (I.hok.write mu he k heo new)
theorem Inv.pins_of {pins' : List (Addr × Obj)} (I : Inv X pins σ H s) (h : ∀ p ∈ pins', s.heap.get? p.1 = some p.2 ∧ H p.1 = none ∧ p.1 ≠ X.env.locals ∧ p.1 ∉ X.fs ∧ ∀ v, p.2.data ≠ .cell v) : Inv X pins' σ H s :=
  ⟨I.ok, I.os, I.bare, I.base, I.loc, I.cell, I.free, I.freeC, fun p hp => (List.mem_append.mp hp).elim (fun z => I.pin p (List.mem_append_left _ z)) (h p), I.hok, I.len⟩
theorem nodup_ix {N : List Str} (hN : N.Nodup) {i j : Nat} {x : Str} (a : N[i]? = some x) (b : N[j]? = some x) : i = j := by
  obtain ⟨h1, e1⟩ := List.getElem?_eq_some_iff.mp a
  obtain ⟨h2, e2⟩ := List.getElem?_eq_some_iff.mp b
  exact (List.getElem_inj hN).mp (e1.trans e2.symm)
theorem store_ok2 {M : Model} {A : Around} {E : Value → Shared → Prop} {i : Nat} {x : Str} {v : V} {u : Value} {Q : Unit → Shared → Prop} (I : Inv X pins σ H s) (hN : X.N.Nodup) (hi : X.N[i]? = some x) (hx : Loc X.env.scope x) (r : RelV v u)
    (h : ∀ s', Inv X pins (σ.set i (some v)) H s' → (∃ a, Heap.SameBut a s.heap s'.heap ∧ (a = X.env.locals ∨ X.env.cells.lookup x = some a)) → Q () s') (hf : X.fn x = true ∨ X.env.scope.names.lookup x = some .local := by first | exact .inl rfl | exact .inr rfl | assumption) : wpAny M A (storeName X.env x u) Q E s := by
  obtain ⟨m, hn, hl⟩ := id I.loc
  have hcls : (X.env.scope.kind == .class || (X.env.scope.kind == .module && X.env.locals != X.env.globals)) = false := by rw [I.ok.kind]; rfl
  have hiσ : i < σ.length := by rw [I.len]; exact (List.getElem?_eq_some_iff.mp hi).1
  have cne := I.cne
  have tracked : ∀ {a : Addr} {h' : Heap}, (∃ o, s.heap.get? a = some o ∧ H a = none) → Heap.SameBut a s.heap h' → HOk X.prog X.w H h' := fun {a h'} ha hs b ob e => by
    obtain ⟨_, _, hfree⟩ := ha
    refine (I.hok b ob e).stay (fun c w' hc q => (hs.2 c ?_).trans q) (fun _ q => q) fun _ _ q => q
    rintro rfl
    rcases hc with rfl | hc
    · rw [hfree] at e; cases e
    · rw [hfree] at hc; cases hc
  rcases hx with hk | hk
  · refine wpAny_storeName_local hk hn (fun h' hn' hs => ?_) hcls
    obtain ⟨oL, _, _, hoL, _⟩ := id hn
    refine h _ ⟨I.ok, I.os, I.bare, ⟨fun b o e n hb hx => ?_, fun b o e n hb hx => ?_, I.base.free, fun b o e hx => ?_, I.base.tups, I.base.frzs, I.base.tbls⟩, ⟨_, hn', fun j y v' e1 e2 e3 => ?_⟩, fun y c e => ?_, I.free, I.freeC, fun p hp => ?_, tracked ⟨oL, hoL, I.free⟩ hs, by simpa using I.len⟩ ⟨_, hs, .inl rfl⟩
    · exact (hs.2 b (Nat.ne_of_lt (Nat.lt_of_lt_of_le (Heap.lt_size e) I.ok.above))).trans (I.base.keep b o e n hb hx)
    · obtain ⟨sl, e1⟩ := I.base.slot b o e n hb hx
      exact ⟨sl, (hs.2 b (Nat.ne_of_lt (Nat.lt_of_lt_of_le (Heap.lt_size e) I.ok.above))).trans e1⟩
    · obtain ⟨o', e1⟩ := I.base.there b o e hx
      exact ⟨o', (hs.2 b (Nat.ne_of_lt (Nat.lt_of_lt_of_le (Heap.lt_size e) I.ok.above))).trans e1⟩
    · by_cases hj : j = i
      · subst hj
        rw [hi] at e1; cases e1
        rw [List.getElem?_set_self hiσ] at e2
        cases e2
        exact ⟨u, r, .inl ⟨hk, by simp⟩⟩
      · rw [List.getElem?_set_ne (Ne.symm hj)] at e2
        obtain ⟨u', r', q⟩ := hl j y v' e1 e2 e3
        refine ⟨u', r', ?_⟩
        rcases q with ⟨k, e⟩ | ⟨k, c, e, z⟩
        · refine .inl ⟨k, ?_⟩
          have : y ≠ x := fun e => hj (nodup_ix hN e1 (e ▸ hi))
          simp [this, e]
        · exact .inr ⟨k, c, e, z.sameBut hs (cne y c e)⟩
    · obtain ⟨w', z⟩ := I.cell y c e
      exact ⟨w', z.sameBut hs (cne y c e)⟩
    · obtain ⟨e, n, ne, nf, d⟩ := I.pin p hp
      exact ⟨(hs.2 p.1 ne).trans e, n, ne, nf, d⟩
  · have hfn : X.fn x = true := by
      rcases hf with z | z
      · exact z
      · rw [z] at hk; cases hk
    obtain ⟨c, hc⟩ := I.ok.has x (.inl hk)
    obtain ⟨w', z⟩ := I.cell x c hc
    refine wpAny_storeName_cell I.ok.kind hk hc z (fun h' hc' hs => ?_)
    obtain ⟨oc, hoc, hocd⟩ := id z
    refine h { s with heap := h' } ⟨I.ok, I.os, I.bare, ⟨fun b o e n hb hx => ?_, fun b o e n hb hx => ?_, I.base.free, fun b o e hx => ?_, I.base.tups, I.base.frzs, I.base.tbls⟩, ⟨m, hn.sameBut hs (Ne.symm (cne x c hc)), fun j y v' e1 e2 e3 => ?_⟩, fun y c' e => ?_, I.free, I.freeC, fun p hp => ?_, tracked ⟨oc, hoc, I.freeC x c hc⟩ hs, by simpa using I.len⟩ ⟨c, hs, .inr hc⟩
    · exact (hs.2 b (Nat.ne_of_lt (Nat.lt_of_lt_of_le (Heap.lt_size e) (I.ok.cab x c hfn hc)))).trans (I.base.keep b o e n hb hx)
    · obtain ⟨sl, e1⟩ := I.base.slot b o e n hb hx
      exact ⟨sl, (hs.2 b (Nat.ne_of_lt (Nat.lt_of_lt_of_le (Heap.lt_size e) (I.ok.cab x c hfn hc)))).trans e1⟩
    · obtain ⟨o', e1⟩ := I.base.there b o e hx
      exact ⟨o', (hs.2 b (Nat.ne_of_lt (Nat.lt_of_lt_of_le (Heap.lt_size e) (I.ok.cab x c hfn hc)))).trans e1⟩
    · by_cases hj : j = i
      · subst hj
        rw [hi] at e1; cases e1
        rw [List.getElem?_set_self hiσ] at e2
        cases e2
        exact ⟨u, r, .inr ⟨.inl hk, c, hc, hc'⟩⟩
      · rw [List.getElem?_set_ne (Ne.symm hj)] at e2
        obtain ⟨u', r', q⟩ := hl j y v' e1 e2 e3
        refine ⟨u', r', ?_⟩
        rcases q with q | ⟨k, c', e, z'⟩
        · exact .inl q
        · refine .inr ⟨k, c', e, z'.sameBut hs ?_⟩
          rintro rfl
          exact hj (nodup_ix hN e1 (I.ok.inj _ _ _ e hc ▸ hi))
    · by_cases hcc : c' = c
      · subst hcc; exact ⟨_, hc'⟩
      · obtain ⟨w2, z2⟩ := I.cell y c' e
        exact ⟨w2, z2.sameBut hs hcc⟩
    · obtain ⟨e, n, ne, nf, d⟩ := I.pin p hp
      refine ⟨(hs.2 p.1 ?_).trans e, n, ne, nf, d⟩
      intro q
      rw [q, hoc] at e
      have q' : oc = p.2 := Option.some.inj e
      exact d w' (by rw [← q']; exact hocd)
theorem store_ok {M : Model} {A : Around} {E : Value → Shared → Prop} {i : Nat} {x : Str} {v : V} {u : Value} {Q : Unit → Shared → Prop} (I : Inv X pins σ H s) (hN : X.N.Nodup) (hi : X.N[i]? = some x) (hx : Loc X.env.scope x) (r : RelV v u)
    (h : ∀ s', Inv X pins (σ.set i (some v)) H s' → Q () s') (hf : X.fn x = true ∨ X.env.scope.names.lookup x = some .local := by first | exact .inl rfl | exact .inr rfl | assumption) : wpAny M A (storeName X.env x u) Q E s :=
  store_ok2 I hN hi hx r (fun s' I' _ => h s' I') hf
theorem Inv.call' {s' : Shared} {ch : List Addr} (I : Inv X pins σ H s) (ho : s'.os = s.os) (u : Un (frs X.stack) ch H H' s.heap s'.heap) (hok : HOk X.prog X.w H' s'.heap) (hg : AllBare s'.gens)
    (hch : ∀ b ∈ ch, (b ∈ X.ex ∨ X.s₀.heap.objs.size ≤ b) ∧ b ≠ X.env.locals ∧ (∀ x c, X.env.cells.lookup x = some c → c ≠ b) ∧ ∀ p ∈ X.pn ++ pins, p.1 ≠ b) : Inv X pins σ H' s' := by
  obtain ⟨h', g', d', t', o'⟩ := s'
  have e : o' = s.os := ho
  subst e
  exact I.call (g' := g') (t' := t') (d' := d') u hok hg hch
end
abbrev XK := Value → Option Addr → Hp → Prop
abbrev St := List (Option V)
abbrev VK := V → Hp → Prop
abbrev TE := St → Hp → VK → Prop
abbrev TT := St → Hp → (Bool → Hp → Prop) → Prop
abbrev TA := St → Hp → (List V → Hp → Prop) → Prop
structure Ends where
  nx : St → Hp → Prop
  rt : VK
  bk : St → Hp → Prop := fun _ _ => False
  ct : St → Hp → Prop := fun _ _ => False
abbrev TS := Ends → St → Hp → Prop
def EP (X : Cx) (pins : List (Addr × Obj)) (σ : St) (Q : VK) (u : Value) (s' : Shared) : Prop := ∃ v H', Inv X pins σ H' s' ∧ RelV v u ∧ Q v H'
def TP (X : Cx) (pins : List (Addr × Obj)) (σ : St) (Q : Bool → Hp → Prop) (b : Bool) (s' : Shared) : Prop := ∃ H', Inv X pins σ H' s' ∧ Q b H'
def AP (X : Cx) (pins : List (Addr × Obj)) (σ : St) (Q : List V → Hp → Prop) (us : List Value) (s' : Shared) : Prop := ∃ vs H', Inv X pins σ H' s' ∧ Vals vs us ∧ Q vs H'
def SP (X : Cx) (pins : List (Addr × Obj)) (D : Ends) (f : Flow) (s' : Shared) : Prop :=
  match f with
  | .next => ∃ σ' H', Inv X pins σ' H' s' ∧ D.nx σ' H'
  | .brk => ∃ σ' H', Inv X pins σ' H' s' ∧ D.bk σ' H'
  | .cont => ∃ σ' H', Inv X pins σ' H' s' ∧ D.ct σ' H'
  | .ret u => ∃ v σ' H', Inv X pins σ' H' s' ∧ RelV v u ∧ D.rt v H'
def PE (X : Cx) (e : Expr) (t : TE) : Prop :=
  ∀ (pins : List (Addr × Obj)) (s : Shared) (σ : St) (H : Hp) (Q : VK), Inv X pins σ H s → t σ H Q → wpAny (model X.prog X.w) X.A (eval e X.env) (EP X pins σ Q) X.xe s
def PT (X : Cx) (e : Expr) (t : TT) : Prop :=
  ∀ (pins : List (Addr × Obj)) (s : Shared) (σ : St) (H : Hp) (Q : Bool → Hp → Prop), Inv X pins σ H s → t σ H Q → wpAny (model X.prog X.w) X.A (isTrue e X.env (eval e X.env)) (TP X pins σ Q) X.xe s
def PW (X : Cx) (e : Expr) (t : TT) : Prop :=
  ∀ (whole : Sem Value) (pins : List (Addr × Obj)) (s : Shared) (σ : St) (H : Hp) (Q : Bool → Hp → Prop), Inv X pins σ H s → t σ H Q → wpAny (model X.prog X.w) X.A (isTrue e X.env whole) (TP X pins σ Q) X.xe s
theorem PW.pt {X : Cx} {e : Expr} {t : TT} (h : PW X e t) : PT X e t := h _
def PA (X : Cx) (es : List Expr) (t : TA) : Prop :=
  ∀ (pos : Pos) (pins : List (Addr × Obj)) (s : Shared) (σ : St) (H : Hp) (Q : List V → Hp → Prop), Inv X pins σ H s → t σ H Q → wpAny (model X.prog X.w) X.A (spliced (backTo pos (starEach es X.env))) (AP X pins σ Q) X.xe s
def PS (X : Cx) (st : Stmt) (t : TS) : Prop :=
  ∀ (pins : List (Addr × Obj)) (s : Shared) (σ : St) (H : Hp) (D : Ends), Inv X pins σ H s → t D σ H → wpAny (model X.prog X.w) X.A (exec st X.env) (SP X pins D) X.xe s
def PSs (X : Cx) (st : List Stmt) (t : TS) : Prop :=
  ∀ (pins : List (Addr × Obj)) (s : Shared) (σ : St) (H : Hp) (D : Ends), Inv X pins σ H s → t D σ H → wpAny (model X.prog X.w) X.A (execs st X.env) (SP X pins D) X.xe s
theorem thn {α : Type} {t : Sem α} {Q Q' : α → Shared → Prop} {M : Model} {A : Around} {E : Value → Shared → Prop} {s : Shared} (h : wpAny M A t Q E s) (hQ : ∀ a s, Q a s → Q' a s) : wpAny M A t Q' E s := wpAny_mono h hQ fun _ _ x => x
end L2
namespace L2
open PySem PySem.Spec PyProof.Rows
section
variable {X : Cx}
def tVar (i : Nat) : TE := fun σ H Q => ∃ v, σ[i]? = some (some v) ∧ Q v H
def tC (v : V) : TE := fun _ H Q => Q v H
theorem pe_var {i : Nat} {x : Str} {pos : Pos} (hN : X.N[i]? = some x) (hv : Vis X.env.scope x) (hd : (x == ("__debug__" : Str)) = false := by decide) (hcd : (x == ("__classdict__" : Str)) = false := by decide) : PE X (.Name x pos) (tVar i) := by
  intro pins s σ H Q I h
  obtain ⟨v, e, h⟩ := h
  obtain ⟨m, hn, hl⟩ := I.loc
  obtain ⟨u, r, l⟩ := hl i x v hN e hv
  have fin : EP X pins σ Q u s := ⟨v, H, I, r, h⟩
  rcases l with ⟨hk, hm⟩ | ⟨hk, c, hc, hcell⟩
  · exact wpAny_Name (wpAny_loadName_local I.ok.kind hk hn hm fin) hd
  · rcases hk with hk | hk
    · exact wpAny_Name (wpAny_loadName_cell I.ok.kind hk hc hcell fin) hd
    · exact wpAny_Name (wpAny_loadName_free I.ok.kind hk hc hcell fin hcd) hd
theorem pe_int {i j pos} : PE X (.Constant (.int i) j pos) (tC (.int i)) := fun _ _ _ H _ I h => wpAny_Constant_int ⟨.int i, H, I.tok _, ⟨_, rfl⟩, h⟩
theorem pe_bl {b j pos} : PE X (.Constant (.bool b) j pos) (tC (.bl b)) := fun _ _ _ H _ I h => Constant_bool ⟨.bl b, H, I, rfl, h⟩
theorem pe_non {j pos} : PE X (.Constant .none j pos) (tC .non) := fun _ _ _ H _ I h => Constant_none ⟨.non, H, I, rfl, h⟩
theorem pe_str {x j pos} : PE X (.Constant (.str x) j pos) (tC (.str x)) := fun _ _ _ H _ I h => Calls.Constant_str ⟨.str x, H, I.tok _, ⟨_, rfl⟩, h⟩
def Gl (X : Cx) (x : Str) : Prop := X.env.kindOf x = some .globalImplicit
theorem ld_glob {E : Value → Shared → Prop} {pins : List (Addr × Obj)} {s : Shared} {σ : St} {H : Hp} {x : Str} {u : Value} {pos : Pos} {Q : Value → Shared → Prop} (I : Inv X pins σ H s) (hg : Gl X x) (hm : X.mg x = some u) (h : Q u s)
    (hd : (x == ("__debug__" : Str)) = false := by decide) : wpAny (model X.prog X.w) X.A (eval (.Name x pos) X.env) Q E s :=
  Calls.Name_function_global I.ok.kind hg (Calls.loadGlobal_global (by rw [I.ok.glob]; exact I.mod.glob.keeps I.bk) hm h) hd
theorem ld_blt {E : Value → Shared → Prop} {pins : List (Addr × Obj)} {s : Shared} {σ : St} {H : Hp} {x : Str} {u : Value} {pos : Pos} {Q : Value → Shared → Prop} (I : Inv X pins σ H s) (hg : Gl X x) (hm : X.mg x = none) (hv : bootBuiltins x = some u) (h : Q u s)
    (hn : x ≠ "__name__" := by decide) (hd : (x == ("__debug__" : Str)) = false := by decide) : wpAny (model X.prog X.w) X.A (eval (.Name x pos) X.env) Q E s := by
  obtain ⟨mb, h1, h2⟩ := I.mod.blt
  exact Calls.Name_function_global I.ok.kind hg (Calls.loadGlobal_builtin (by rw [I.ok.glob]; exact I.mod.glob.keeps I.bk) hm (by rw [I.ok.blt]; exact h1.keeps I.bk) ((h2 x hn).trans hv) h) hd
theorem pe_bltn {x : Str} {v : V} {u : Value} {pos : Pos} (hg : Gl X x) (hm : X.mg x = none) (hv : bootBuiltins x = some u) (r : RelV v u) (hn : x ≠ "__name__" := by decide) (hd : (x == ("__debug__" : Str)) = false := by decide) : PE X (.Name x pos) (tC v) :=
  fun _ _ _ H _ I h => ld_blt I hg hm hv ⟨v, H, I, r, h⟩ hn hd
variable {a b : Expr} {ta tb : TE} {pos : Pos}
def PC (X : Cx) (op : CmpOp) (a b : Expr) (t : TE) : Prop :=
  ∀ (pins : List (Addr × Obj)) (s : Shared) (σ : St) (H : Hp) (Q : VK), Inv X pins σ H s → t σ H Q →
    wpAny (model X.prog X.w) X.A (eval a X.env) (fun v s₁ => wpAny (model X.prog X.w) X.A (eval b X.env) (fun u s₂ => wpAny (model X.prog X.w) X.A (compareOp op v u) (EP X pins σ Q) X.xe s₂) X.xe s₁) X.xe s
theorem nobehind (b : Expr) {op : CmpOp} (h : op ≠ .In) (h2 : op ≠ .NotIn) : behindInMarks op b = false := by
  have e1 : (op == CmpOp.In) = false := by cases op <;> first | rfl | exact absurd rfl h
  have e2 : (op == CmpOp.NotIn) = false := by cases op <;> first | rfl | exact absurd rfl h2
  cases b <;> simp [behindInMarks, e1, e2]
def tB (t : TE) : TT := fun σ H Q => t σ H fun x H1 => ∃ c, x = .bl c ∧ Q c H1
theorem pt_cmp {op : CmpOp} {t : TE} (h : PC X op a b t) (h1 : behindInMarks op b = false := by first | exact nobehind _ (by decide) (by decide) | rfl) : PT X (.Compare a [op] [b] pos) (tB t) := by
  intro pins s σ H Q I hw
  refine wpAny_isTrue_Compare1 (thn (h pins s σ H _ I hw) fun v s1 h1 => thn h1 fun u s2 h2 => thn h2 fun c s3 ⟨x, H1, I1, r1, q1⟩ => ?_) h1
  obtain ⟨d, rfl, q⟩ := q1
  cases r1
  exact wpAny_truthy_bool ⟨H1, I1, q⟩
theorem pt_val {e : Expr} {t : TE} (h : PE X e t) (he : ∀ whole, isTrue e X.env whole = (do let v ← whole; standAt e.pos; holding [v] (truthy v)) := by intro _; rfl) : PT X e (tB t) := by
  intro pins s σ H Q I hw
  refine isTrue_plain (thn (h pins s σ H _ I hw) fun v s1 ⟨x, H1, I1, r1, q1⟩ => ?_) (he _)
  obtain ⟨d, rfl, q⟩ := q1
  cases r1
  exact wpAny_truthy_bool ⟨H1, I1, q⟩
variable {tA tB' : TT} {rest : List Expr}
def tAnd (t u : TT) : TT := fun σ H Q => t σ H fun c H1 => if c = true then u σ H1 Q else Q false H1
def tOr (t u : TT) : TT := fun σ H Q => t σ H fun c H1 => if c = true then Q true H1 else u σ H1 Q
def tNot (t : TT) : TT := fun σ H Q => t σ H fun c H1 => Q (!c) H1
theorem pw_and1 (ha : PT X a tA) : PW X (.BoolOp .And [a] pos) tA := by
  intro wh pins s σ H Q I h
  refine isTrue_and (thn (ha pins s σ H Q I h) fun c s1 e => ?_)
  cases c with
  | true => exact isTrue_and_nil e
  | false => exact e
theorem pw_or1 (ha : PT X a tA) : PW X (.BoolOp .Or [a] pos) tA := by
  intro wh pins s σ H Q I h
  refine isTrue_or (thn (ha pins s σ H Q I h) fun c s1 e => ?_)
  cases c with
  | false => exact isTrue_or_nil e
  | true => exact e
theorem pw_and (ha : PT X a tA) (hb : PW X (.BoolOp .And (b :: rest) pos) tB') : PW X (.BoolOp .And (a :: b :: rest) pos) (tAnd tA tB') := by
  intro wh pins s σ H Q I h
  refine isTrue_and (thn (ha pins s σ H _ I h) fun c s1 ⟨H1, I1, q1⟩ => ?_)
  cases c with
  | true => exact hb wh pins s1 σ H1 Q I1 q1
  | false => exact ⟨H1, I1, q1⟩
theorem pw_or (ha : PT X a tA) (hb : PW X (.BoolOp .Or (b :: rest) pos) tB') : PW X (.BoolOp .Or (a :: b :: rest) pos) (tOr tA tB') := by
  intro wh pins s σ H Q I h
  refine isTrue_or (thn (ha pins s σ H _ I h) fun c s1 ⟨H1, I1, q1⟩ => ?_)
  cases c with
  | true => exact ⟨H1, I1, q1⟩
  | false => exact hb wh pins s1 σ H1 Q I1 q1
theorem pt_not (ha : PT X a tA) : PT X (.UnaryOp .Not a pos) (tNot tA) := by
  intro pins s σ H Q I h
  exact isTrue_not (ha pins s σ H (fun c H1 => Q (!c) H1) I h)
def tAndV (ta tb : TE) : TE := fun σ H Q => ta σ H fun x H1 => ∃ c, x = .bl c ∧ if c = true then tb σ H1 Q else Q (.bl false) H1
def tOrV (ta tb : TE) : TE := fun σ H Q => ta σ H fun x H1 => ∃ c, x = .bl c ∧ if c = true then Q (.bl true) H1 else tb σ H1 Q
def tNotV (ta : TE) : TE := fun σ H Q => ta σ H fun x H1 => ∃ c, x = .bl c ∧ Q (.bl (!c)) H1
theorem pe_one {op} {t : TE} (h : PE X a t) : PE X (.BoolOp op [a] pos) t := fun pins s σ H Q I hw => BoolOp_one (h pins s σ H Q I hw)
theorem pe_and (ha : PE X a ta) (hb : PE X (.BoolOp .And (b :: rest) pos) tb) : PE X (.BoolOp .And (a :: b :: rest) pos) (tAndV ta tb) := by
  intro pins s σ H Q I h
  refine BoolOp_and (thn (ha pins s σ H _ I h) fun v s1 ⟨x, H1, I1, r1, q1⟩ => ?_)
  obtain ⟨c, rfl, q1⟩ := q1
  cases r1
  refine wpAny_truthy_bool ?_
  cases c with
  | true => exact hb pins s1 σ H1 Q I1 q1
  | false => exact ⟨.bl false, H1, I1, rfl, q1⟩
theorem pe_not (ha : PE X a ta) : PE X (.UnaryOp .Not a pos) (tNotV ta) := by
  intro pins s σ H Q I h
  refine UnaryOp_ (thn (ha pins s σ H _ I h) fun v s1 ⟨x, H1, I1, r1, q1⟩ => ?_)
  obtain ⟨c, rfl, q1⟩ := q1
  cases r1
  exact not_of (wpAny_truthy_bool ⟨.bl (!c), H1, I1, rfl, q1⟩)
def tIf (t : TT) (ta tb : TE) : TE := fun σ H Q => t σ H fun c H1 => if c = true then ta σ H1 Q else tb σ H1 Q
theorem pe_ifExp {c : Expr} (hc : PT X c tA) (ha : PE X a ta) (hb : PE X b tb) : PE X (.IfExp c a b pos) (tIf tA ta tb) := by
  intro pins s σ H Q I h
  refine wpAny_IfExp (thn (hc pins s σ H _ I h) fun d s1 ⟨H1, I1, q1⟩ => ?_)
  cases d with
  | true => exact ha pins s1 σ H1 Q I1 q1
  | false => exact hb pins s1 σ H1 Q I1 q1
end
end L2
namespace L2
open PySem PySem.Spec PyProof.Rows
def SqL (K : PySem.W.Frag) (H : Hp) (a : Addr) (xs : List V) : Prop :=
  Rd H a (.lst xs) ∨
    ∃ (o : Obj) (its : Array Value) (n : Nat), K.lookup a = some o ∧ o.cls = .type "list" ∧ o.dict = none ∧ o.data = .seq its n ∧ its.size ≤ sizeLine ∧ Vals xs its.toList
def SqT (K : PySem.W.Frag) (H : Hp) (a : Addr) (xs : List V) : Prop :=
  Rd H a (.tup xs) ∨
    ∃ (o : Obj) (its : Array Value) (n : Nat), K.lookup a = some o ∧ o.cls = .type "tuple" ∧ o.data = .seq its n ∧ its.size ≤ sizeLine ∧ Vals xs its.toList
def absV : Value → Option V
  | .none => some .non
  | .bool b => some (.bl b)
  | .int i _ => some (.int i)
  | .str x _ => some (.str x)
  | .bytes b _ => some (.byt b)
  | .float b _ => some (.flt b)
  | .ref a => some (.ref a)
  | .type n => some (.ty n)
  | _ => none
theorem RelV.abs {x : V} {u : Value} (r : RelV x u) : absV u = some x := by
  cases x with
  | non => cases r; rfl
  | bl _ => cases r; rfl
  | int _ => obtain ⟨t, rfl⟩ := r; rfl
  | str _ => obtain ⟨t, rfl⟩ := r; rfl
  | byt _ => obtain ⟨t, rfl⟩ := r; rfl
  | flt _ => obtain ⟨t, rfl⟩ := r; rfl
  | ref _ => cases r; rfl
  | ty _ => cases r; rfl
theorem RelV.inj {x y : V} {u : Value} (r : RelV x u) (q : RelV y u) : x = y := Option.some.inj (r.abs.symm.trans q.abs)
theorem Vals.inj : ∀ {xs ys : List V} {us : List Value}, Vals xs us → Vals ys us → xs = ys
  | _, _, _, .nil, .nil => rfl
  | _, _, _, .cons r t, .cons r' t' => by rw [r.inj r', Vals.inj t t']
section
variable {X : Cx} {pins : List (Addr × Obj)} {σ : St} {H : Hp} {s : Shared} {a : Addr} {xs ys : List V}
theorem SqL.of {K : PySem.W.Frag} (h : H a = some (.lst xs)) : SqL K H a xs := .inl (.inl h)
theorem SqT.of {K : PySem.W.Frag} (h : H a = some (.tup xs)) : SqT K H a xs := .inl (.inl h)
theorem Inv.list (I : Inv X pins σ H s) (h : SqL X.K H a xs) : ∃ its : List Value, Vals xs its ∧ PlainL s.heap a its.toArray ∧ xs.length ≤ sizeLine := by
  rcases h with h | ⟨o, its, n, hk, hc, hd, hs, hz, r⟩
  · obtain ⟨z, its, n, r, e⟩ := h.ok I.hok
    exact ⟨its, r, ⟨_, n, e, rfl, rfl, rfl⟩, z⟩
  · refine ⟨its.toList, r, ⟨o, n, I.kIn a o hk, hc, hd, by simpa using hs⟩, ?_⟩
    have e := r.length
    simp only [Array.length_toList] at e
    omega
theorem Inv.tuple (I : Inv X pins σ H s) (h : SqT X.K H a xs) : ∃ its : List Value, Vals xs its ∧ IsTup s.heap a its.toArray ∧ xs.length ≤ sizeLine := by
  rcases h with h | ⟨o, its, n, hk, hc, hs, hz, r⟩
  · obtain ⟨z, its, r, p⟩ := h.ok I.hok
    exact ⟨its, r, p, z⟩
  · refine ⟨its.toList, r, ⟨o, I.kIn a o hk, hc, n, by simpa using hs⟩, ?_⟩
    have e := r.length
    simp only [Array.length_toList] at e
    omega
theorem Inv.list_inj (I : Inv X pins σ H s) (h : SqL X.K H a xs) (h' : SqL X.K H a ys) : xs = ys := by
  obtain ⟨its, r, ⟨o, n, e, _, _, d⟩, _⟩ := I.list h
  obtain ⟨its', r', ⟨o', n', e', _, _, d'⟩, _⟩ := I.list h'
  rw [e] at e'; cases e'
  rw [d] at d'
  injection d' with d1 _
  have : its = its' := by simpa using congrArg Array.toList d1
  subst this
  exact r.inj r'
theorem Inv.tuple_inj (I : Inv X pins σ H s) (h : SqT X.K H a xs) (h' : SqT X.K H a ys) : xs = ys := by
  obtain ⟨its, r, ⟨o, e, _, n, d⟩, _⟩ := I.tuple h
  obtain ⟨its', r', ⟨o', e', _, n', d'⟩, _⟩ := I.tuple h'
  rw [e] at e'; cases e'
  rw [d] at d'
  injection d' with d1 _
  have : its = its' := by simpa using congrArg Array.toList d1
  subst this
  exact r.inj r'
end
abbrev Cx.wish (X : Cx) (E : Value → Shared → Prop) : Cx := { X with xe := E }
abbrev Cx.nox (X : Cx) : Cx := X.wish fun _ _ => False
theorem Cx.Ok.wish {X : Cx} (ok : X.Ok) (E : Value → Shared → Prop) : (X.wish E).Ok :=
  ⟨ok.mod, ok.kind, ok.glob, ok.blt, ok.above, ok.inj, ok.has, ok.cab, ok.hd, ok.frames, ok.stk, ok.exf, ok.bs, ok.bsz, ok.noex, ok.exfs, ok.funs, ok.frf⟩
theorem Cx.Ok.unwish {X : Cx} {E : Value → Shared → Prop} (ok : (X.wish E).Ok) : X.Ok :=
  ⟨ok.mod, ok.kind, ok.glob, ok.blt, ok.above, ok.inj, ok.has, ok.cab, ok.hd, ok.frames, ok.stk, ok.exf, ok.bs, ok.bsz, ok.noex, ok.exfs, ok.funs, ok.frf⟩
section
variable {X : Cx} {pins : List (Addr × Obj)} {σ : St} {H : Hp} {s : Shared} {E : Value → Shared → Prop}
theorem Inv.wish (I : Inv X pins σ H s) (E : Value → Shared → Prop) : Inv (X.wish E) pins σ H s := ⟨I.ok.wish E, I.os, I.bare, I.base, I.loc, I.cell, I.free, I.freeC, I.pin, I.hok, I.len⟩
theorem Inv.unwish (I : Inv (X.wish E) pins σ H s) : Inv X pins σ H s := ⟨I.ok.unwish, I.os, I.bare, I.base, I.loc, I.cell, I.free, I.freeC, I.pin, I.hok, I.len⟩
theorem SP.unwish {D : Ends} {f : Flow} {s' : Shared} (h : SP (X.wish E) pins D f s') : SP X pins D f s' := by
  cases f with
  | next => obtain ⟨σ', H', I, q⟩ := h; exact ⟨σ', H', I.unwish, q⟩
  | brk => obtain ⟨σ', H', I, q⟩ := h; exact ⟨σ', H', I.unwish, q⟩
  | cont => obtain ⟨σ', H', I, q⟩ := h; exact ⟨σ', H', I.unwish, q⟩
  | ret u => obtain ⟨v, σ', H', I, r, q⟩ := h; exact ⟨v, σ', H', I.unwish, r, q⟩
theorem PE.nox {e : Expr} {t : TE} (h : PE X.nox e t) : PE X e t := fun pins s σ H Q I hw =>
  wpAny_mono (h pins s σ H Q (I.wish _) hw) (fun _ _ ⟨v, H', I', r, q⟩ => ⟨v, H', I'.unwish, r, q⟩) fun _ _ z => False.elim z
theorem PT.nox {e : Expr} {t : TT} (h : PT X.nox e t) : PT X e t := fun pins s σ H Q I hw =>
  wpAny_mono (h pins s σ H Q (I.wish _) hw) (fun _ _ ⟨H', I', q⟩ => ⟨H', I'.unwish, q⟩) fun _ _ z => False.elim z
theorem PSs.nox {st : List Stmt} {t : TS} (h : PSs X.nox st t) : PSs X st t := fun pins s σ H D I hw =>
  wpAny_mono (h pins s σ H D (I.wish _) hw) (fun _ _ q => q.unwish) fun _ _ z => False.elim z
end
section
variable {X : Cx} {st : Stmt} {rest : List Stmt} {t u : TS} {e : Expr} {te : TE} {pos : Pos}
def tNext : TS := fun D σ H => D.nx σ H
def tSeq (t u : TS) : TS := fun D σ H => t { D with nx := u D } σ H
theorem pss_nil : PSs X [] tNext := fun _ _ σ H _ I h => wpAny_execs_nil ⟨σ, H, I, h⟩
theorem pss_cons (h1 : PS X st t) (h2 : PSs X rest u) : PSs X (st :: rest) (tSeq t u) := by
  intro pins s σ H D I h
  refine wpAny_execs_cons (thn (h1 pins s σ H { D with nx := u D } I h) fun f s1 q => ?_)
  cases f with
  | next =>
    obtain ⟨σ', H', I', q⟩ := q
    exact h2 pins s1 σ' H' D I' q
  | ret v => exact q
  | brk => exact q
  | cont => exact q
theorem pss_one (h1 : PS X st t) : PSs X [st] t := by
  intro pins s σ H D I h
  refine wpAny_execs_cons (thn (h1 pins s σ H D I h) fun f s1 q => ?_)
  cases f with
  | next => exact wpAny_execs_nil q
  | ret v => exact q
  | brk => exact q
  | cont => exact q
theorem Inv.quiet {pins : List (Addr × Obj)} {σ : St} {H : Hp} {s : Shared} (I : Inv X pins σ H s) : interactive X.env = false := by simp [interactive, I.ok.kind]
def tDrop (te : TE) : TS := fun D σ H => te σ H fun _ H1 => D.nx σ H1
theorem ps_expr (he : PE X e te) (hs : swapsWith e none pos.line X.env = pure false := by rfl) : PS X (.Expr e pos) (tDrop te) := by
  intro pins s σ H D I h
  exact wpAny_Expr_any (thn (he pins s σ H _ I h) fun v s1 ⟨x, H1, I1, r1, q1⟩ => ⟨σ, H1, I1, q1⟩) I.quiet hs
def tRet (te : TE) : TS := fun D σ H => te σ H D.rt
theorem ps_ret (he : PE X e te) : PS X (.Return (some e) pos) (tRet te) := by
  intro pins s σ H D I h
  exact wpAny_Return_some (thn (he pins s σ H _ I h) fun v s1 ⟨x, H1, I1, r1, q1⟩ => ⟨x, σ, H1, I1, r1, q1⟩)
def tRetN : TS := fun D _ H => D.rt .non H
def tIfS (c : TT) (t u : TS) : TS := fun D σ H => c σ H fun b H1 => if b = true then t D σ H1 else u D σ H1
theorem ps_if {c : Expr} {a b : List Stmt} {tc : TT} (hc : PT X c tc) (ha : PSs X a t) (hb : PSs X b u) : PS X (.If c a b pos) (tIfS tc t u) := by
  intro pins s σ H D I h
  refine wpAny_If (thn (hc pins s σ H _ I h) fun d s1 ⟨H1, I1, q1⟩ => ?_)
  cases d with
  | true => exact ha pins s1 σ H1 D I1 q1
  | false => exact hb pins s1 σ H1 D I1 q1
end
abbrev TG := V → St → Hp → (St → Hp → Prop) → Prop
abbrev TGs := List V → St → Hp → (St → Hp → Prop) → Prop
def PG (X : Cx) (target : Expr) (t : TG) : Prop :=
  ∀ (pins : List (Addr × Obj)) (s : Shared) (σ : St) (H : Hp) (v : V) (u : Value) (Q : St → Hp → Prop), Inv X pins σ H s → RelV v u → t v σ H Q →
    wpAny (model X.prog X.w) X.A (assign target X.env u) (fun _ s' => ∃ σ' H', Inv X pins σ' H' s' ∧ Q σ' H') X.xe s
def PGs (X : Cx) (ts : List Expr) (t : TGs) : Prop :=
  ∀ (pins : List (Addr × Obj)) (s : Shared) (σ : St) (H : Hp) (vs : List V) (us : List Value) (Q : St → Hp → Prop), Inv X pins σ H s → Vals vs us → t vs σ H Q →
    wpAny (model X.prog X.w) X.A (assignInOrder ((assignEach ts X.env).map (·.2)) us) (fun _ s' => ∃ σ' H', Inv X pins σ' H' s' ∧ Q σ' H') X.xe s
abbrev TSet := V → V → V → Hp → (Hp → Prop) → Prop
def PSet (X : Cx) (t : TSet) : Prop :=
  ∀ (pins : List (Addr × Obj)) (s : Shared) (σ : St) (H : Hp) (o i v : V) (ov iv u : Value) (Q : Hp → Prop), Inv X pins σ H s → RelV o ov → RelV i iv → RelV v u → t o i v H Q →
    wpAny (model X.prog X.w) X.A (setItem ov iv u) (fun _ s' => ∃ H', Inv X pins σ H' s' ∧ Q H') X.xe s
section
variable {X : Cx} {pos : Pos}
def gName (i : Nat) : TG := fun v σ H Q => Q (σ.set i (some v)) H
theorem pg_name {i : Nat} {x : Str} (hN : X.N.Nodup) (hi : X.N[i]? = some x) (hx : Loc X.env.scope x) (hf : X.fn x = true ∨ X.env.scope.names.lookup x = some .local := by first | exact .inl rfl | exact .inr rfl | assumption) : PG X (.Name x pos) (gName i) := by
  intro pins s σ H v u Q I r h
  exact wpAny_assign_Name (store_ok I hN hi hx r (fun s' I' => ⟨_, H, I', h⟩) hf)
def gNil : TGs := fun vs σ H Q => vs = [] ∧ Q σ H
def gCons (t : TG) (u : TGs) : TGs := fun vs σ H Q => ∃ v r, vs = v :: r ∧ t v σ H fun σ' H' => u r σ' H' Q
theorem pgs_nil : PGs X [] gNil := by
  intro pins s σ H vs us Q I r h
  obtain ⟨e, h⟩ := h
  subst e
  cases r
  exact assignInOrder_nil ⟨σ, H, I, h⟩
theorem pgs_cons {e : Expr} {es : List Expr} {t : TG} {u : TGs} (h1 : PG X e t) (h2 : PGs X es u)
    (hs : (assignEach (e :: es) X.env).map (·.2) = assign e X.env :: (assignEach es X.env).map (·.2) := by rfl) : PGs X (e :: es) (gCons t u) := by
  intro pins s σ H vs us Q I r h
  obtain ⟨v, vr, e1, h⟩ := h
  subst e1
  cases r with
  | cons r rr =>
    rw [hs]
    refine assignInOrder_cons (thn (h1 pins s σ H _ _ _ I r h) fun _ s1 ⟨σ1, H1, I1, q1⟩ => ?_)
    exact h2 pins s1 σ1 H1 _ _ Q I1 rr q1
def gTup (K : PySem.W.Frag) (n : Nat) (t : TGs) : TG := fun v σ H Q => ∃ a xs, v = .ref a ∧ SqT K H a xs ∧ xs.length = n ∧ t xs σ H Q
theorem pg_tup {es : List Expr} {k : Nat} {t : TGs} {n : Nat} (hc : X.calm = true) (h : PGs X es t)
    (hn : (assignEach es X.env).length = n := by rfl) (hst : (assignEach es X.env).findIdx? (·.1) = none := by rfl) : PG X (.Tuple es k pos) (gTup X.K n t) := by
  intro pins s σ H v u Q I r hw
  obtain ⟨a, xs, e1, hq, hl, hw⟩ := hw
  subst e1
  cases r
  obtain ⟨its, rv, ht, hz⟩ := I.tuple hq
  refine assign_Tuple_tuple (I.ok.hd hc) ht (by simp [hn, ← hl, rv.length]) hst fun h' hx => ?_
  have I1 : Inv X pins σ H { s with heap := h' } := I.kept (t' := s.toks) fun b o e => hx b o (Nat.ne_of_lt (Heap.lt_size e)) e
  exact h pins _ σ H xs _ Q I1 (by simpa using rv) hw
def tAsg (te : TE) (g : TG) : TS := fun D σ H => te σ H fun x H1 => g x σ H1 D.nx
theorem ps_set {i : Nat} {x : Str} {e : Expr} {te : TE} {pos' : Pos} (hN : X.N.Nodup) (hi : X.N[i]? = some x) (hx : Loc X.env.scope x) (he : PE X e te) (hs : swapsWith e (some (.Name x pos')) pos.line X.env = pure false := by rfl) (hf : X.fn x = true ∨ X.env.scope.names.lookup x = some .local := by first | exact .inl rfl | exact .inr rfl | assumption) :
    PS X (.Assign [.Name x pos'] e pos) (tAsg te (gName i)) := by
  intro pins s σ H D I h
  refine wpAny_Assign_Name (thn (he pins s σ H _ I h) fun v s1 ⟨y, H1, I1, r1, q1⟩ => ?_) hs
  exact store_ok I1 hN hi hx r1 (fun s2 I2 => ⟨_, H1, I2, q1⟩) hf
end
section
variable {X : Cx} {pos : Pos}
end
structure It where
  go : Nat → Hp → Prop
  yld : Nat → Hp → V → Hp → Prop
  stop : Nat → Hp → Prop
def FpOk (X : Cx) (pins : List (Addr × Obj)) (H : Hp) (b : Addr) : Prop :=
  H b = none ∧ b ≠ X.env.locals ∧ b ∉ X.fs ∧ (b ∈ X.ex ∨ X.s₀.heap.objs.size ≤ b) ∧ (∀ x c, X.env.cells.lookup x = some c → c ≠ b) ∧ ∀ p ∈ X.pn ++ pins, p.1 ≠ b
theorem Inv.fpOk {X : Cx} {pins : List (Addr × Obj)} {σ : St} {H H' : Hp} {s : Shared} {b : Addr} (I : Inv X pins σ H s) (hb : s.heap.objs.size ≤ b) (hn : H' b = none) : FpOk X pins H' b := by
  refine ⟨hn, Nat.ne_of_gt (Nat.lt_of_lt_of_le I.lt hb), I.nofs hb, .inr (Nat.le_trans I.sz hb), fun x c e z => ?_, fun p hp z => ?_⟩
  · obtain ⟨v, q⟩ := I.cell x c e
    exact absurd (Nat.lt_of_lt_of_le q.lt (by rw [z]; exact hb)) (Nat.lt_irrefl _)
  · exact absurd (Nat.lt_of_lt_of_le (Heap.lt_size (I.pin p hp).1) (by rw [z]; exact hb)) (Nat.lt_irrefl _)
structure Turn (P : Program) (w : World) (K : PySem.W.Frag) (tg : Expr) (J : It) (fp : List Addr) (it : Addr) (tn : Nat → Heap → Prop) : Prop where
  mem : it ∈ fp
  obj : ∀ i h, tn i h → ∀ b ∈ fp, ∃ o, h.get? b = some o ∧ ∀ v, o.data ≠ .cell v
  keep : ∀ i h h', tn i h → (∀ b ∈ fp, ∀ o, h.get? b = some o → h'.get? b = some o) → tn i h'
  item : ∀ (X : Cx), X.prog = P → X.w = w → X.K = K → X.calm = true → ∀ (i : Nat) (pins : List (Addr × Obj)) (s : Shared) (σ : St) (H : Hp) (E : Value → Shared → Prop), Inv X pins σ H s → (∀ b ∈ fp, FpOk X pins H b) → tn i s.heap → J.go i H →
    wpAny (model P w) X.A (pyNext (.ref it)) (fun r s1 => ∃ u, r = some u ∧
      wpAny (model P w) X.A (letOwnedTupleGo tg (.ref it) u) (fun _ s2 => ∃ x H', Inv X pins σ H' s2 ∧ RelV x u ∧ J.yld i H x H' ∧ tn (i + 1) s2.heap ∧ ∀ b ∈ fp, H' b = none) E s1) E s
  done : ∀ (X : Cx), X.prog = P → X.w = w → X.K = K → X.calm = true → ∀ (i : Nat) (pins : List (Addr × Obj)) (s : Shared) (σ : St) (H : Hp) (E : Value → Shared → Prop), Inv X pins σ H s → (∀ b ∈ fp, FpOk X pins H b) → tn i s.heap → J.stop i H →
    wpAny (model P w) X.A (pyNext (.ref it)) (fun r s1 => r = none ∧ Inv X pins σ H s1) E s
  self : ∀ (A : Around) (i : Nat) (s : Shared) (Q : Value → Shared → Prop) (E : Value → Shared → Prop), tn i s.heap → Q (.ref it) s → wpAny (model P w) A (pyIter (.ref it)) Q E s
abbrev TI := St → Hp → (It → Hp → Prop) → Prop
def PIE (X : Cx) (pins : List (Addr × Obj)) (σ : St) (tg : Expr) (R : It → Hp → Prop) (itv : Value) (s2 : Shared) : Prop :=
  ∃ (it : Addr) (fp : List Addr) (tn : Nat → Heap → Prop) (J : It) (H' : Hp), itv = .ref it ∧ Inv X pins σ H' s2 ∧ Turn X.prog X.w X.K tg J fp it tn ∧ tn 0 s2.heap ∧ (∀ b ∈ fp, FpOk X pins H' b) ∧ R J H'
def PI (X : Cx) (tg iter : Expr) (wi : TI) : Prop :=
  ∀ (pins : List (Addr × Obj)) (s : Shared) (σ : St) (H : Hp) (R : It → Hp → Prop), Inv X pins σ H s → wi σ H R →
    wpAny (model X.prog X.w) X.A (eval iter X.env) (fun v s1 => wpAny (model X.prog X.w) X.A (pyIter v) (PIE X pins σ tg R) X.xe s1) X.xe s
theorem go_of {M : Model} {A : Around} {E : Value → Shared → Prop} {s : Shared} {tg : Expr} {it : Addr} {u : Value} {o : Obj} {n : String} {vs : Array Value} {Q : Unit → Shared → Prop} (ho : s.heap.get? it = some o) (hc : o.cls = .type n) (hd : o.data = .fields vs)
    (hn : ["enumerate", "zip", "dict_itemiterator", "dict_reverseitemiterator", "odict_iterator", "itertools.zip_longest", "itertools.pairwise"].contains n = false) (hQ : Q () s) : wpAny M A (letOwnedTupleGo tg (.ref it) u) Q E s := by
  unfold letOwnedTupleGo
  cases tg <;> first
    | exact wpAny_pure hQ
    | (cases u <;> first
        | exact wpAny_pure hQ
        | (refine wpAny_bind (wpAny_load ho ?_)
           rw [hc, hd]
           show wpAny M A (if (["enumerate", "zip", "dict_itemiterator", "dict_reverseitemiterator", "odict_iterator", "itertools.zip_longest", "itertools.pairwise"].contains n && vs[0]? == some (rawInt _)) = true then _ else _) Q E s
           rw [if_neg (by intro h; rw [hn, Bool.false_and] at h; cases h)]
           exact wpAny_pure hQ))
def Itl (K : PySem.W.Frag) (a : Addr) : It :=
  ⟨fun i H => ∃ xs x, SqL K H a xs ∧ xs[i]? = some x, fun i H x H' => H' = H ∧ ∀ xs, SqL K H a xs → xs[i]? = some x, fun i H => ∃ xs, SqL K H a xs ∧ xs.length ≤ i⟩
def Itt (K : PySem.W.Frag) (a : Addr) : It :=
  ⟨fun i H => ∃ xs x, SqT K H a xs ∧ xs[i]? = some x, fun i H x H' => H' = H ∧ ∀ xs, SqT K H a xs → xs[i]? = some x, fun i H => ∃ xs, SqT K H a xs ∧ xs.length ≤ i⟩
def Itr (lo : Int) (n : Nat) : It := ⟨fun i _ => i < n, fun i H x H' => H' = H ∧ x = .int (lo + i), fun i _ => n ≤ i⟩
theorem turn_list {P : Program} {w : World} {K : PySem.W.Frag} {tg : Expr} (a it : Addr) : Turn P w K tg (Itl K a) [it] it (fun i h => h.IsListIter it a i) where
  mem := by simp
  obj := fun i h st b hb => by
    have e : b = it := by simpa using hb
    subst e
    obtain ⟨o, e, c, d⟩ := st
    exact ⟨o, e, fun v z => by rw [d] at z; cases z⟩
  keep := fun i h h' st k => st.at fun o e => k it (by simp) o e
  item := by
    intro X hP hw hK hc i pins s σ H E I hf st hg
    subst hP hw hK
    obtain ⟨xs, x, hq, hx⟩ := hg
    obtain ⟨its, rv, p, hz⟩ := I.list hq
    obtain ⟨u, hu, ru⟩ := rv.get hx
    obtain ⟨f0, f1, f2, f3, f4, f5⟩ := hf it (by simp)
    refine wpAny_pyNext_list_item st p.isList (x := u) (by simpa using hu) fun h' st' sb => ?_
    have I1 : Inv X pins σ H { s with heap := h' } := I.turned (t' := s.toks) (fun b o hb e => (sb.2 b hb).trans e) f0 f1 f3 f4 f5
    obtain ⟨o, e, c, d⟩ := id st'
    exact ⟨u, rfl, go_of (s := { s with heap := h' }) e c d (by decide) ⟨x, H, I1, ru, ⟨rfl, fun ys hy => by rw [I.list_inj hy hq]; exact hx⟩, st', fun b hb => (hf b hb).1⟩⟩
  done := by
    intro X hP hw hK hc i pins s σ H E I hf st hg
    subst hP hw hK
    obtain ⟨xs, hq, hx⟩ := hg
    obtain ⟨its, rv, p, hz⟩ := I.list hq
    obtain ⟨f0, f1, f2, f3, f4, f5⟩ := hf it (by simp)
    have hl := rv.length
    exact wpAny_pyNext_list_end (I.ok.hd hc) st p.isList (by simp; omega) fun h' eb => ⟨rfl, I.turned (t' := s.toks) (fun b o hb e => eb b o hb e) f0 f1 f3 f4 f5⟩
  self := fun _ _ _ _ _ st h => wpAny_pyIter_listiter st h
theorem turn_tuple {P : Program} {w : World} {K : PySem.W.Frag} {tg : Expr} (a it : Addr) : Turn P w K tg (Itt K a) [it] it (fun i h => h.IsTupleIter it a i) where
  mem := by simp
  obj := fun i h st b hb => by
    have e : b = it := by simpa using hb
    subst e
    obtain ⟨o, e, c, d⟩ := st
    exact ⟨o, e, fun v z => by rw [d] at z; cases z⟩
  keep := fun i h h' st k => st.at fun o e => k it (by simp) o e
  item := by
    intro X hP hw hK hc i pins s σ H E I hf st hg
    subst hP hw hK
    obtain ⟨xs, x, hq, hx⟩ := hg
    obtain ⟨its, rv, p, hz⟩ := I.tuple hq
    obtain ⟨u, hu, ru⟩ := rv.get hx
    obtain ⟨f0, f1, f2, f3, f4, f5⟩ := hf it (by simp)
    refine wpAny_pyNext_tuple_item st (show s.heap.IsTuple a its.toArray from p) (x := u) (by simpa using hu) fun h' st' sb => ?_
    have I1 : Inv X pins σ H { s with heap := h' } := I.turned (t' := s.toks) (fun b o hb e => (sb.2 b hb).trans e) f0 f1 f3 f4 f5
    obtain ⟨o, e, c, d⟩ := id st'
    exact ⟨u, rfl, go_of (s := { s with heap := h' }) e c d (by decide) ⟨x, H, I1, ru, ⟨rfl, fun ys hy => by rw [I.tuple_inj hy hq]; exact hx⟩, st', fun b hb => (hf b hb).1⟩⟩
  done := by
    intro X hP hw hK hc i pins s σ H E I hf st hg
    subst hP hw hK
    obtain ⟨xs, hq, hx⟩ := hg
    obtain ⟨its, rv, p, hz⟩ := I.tuple hq
    obtain ⟨f0, f1, f2, f3, f4, f5⟩ := hf it (by simp)
    have hl := rv.length
    exact wpAny_pyNext_tuple_end (I.ok.hd hc) st (show s.heap.IsTuple a its.toArray from p) (by simp; omega) fun h' eb => ⟨rfl, I.turned (t' := s.toks) (fun b o hb e => eb b o hb e) f0 f1 f3 f4 f5⟩
  self := fun _ _ _ _ _ st h => wpAny_pyIter_tupleiter st h
theorem turn_range {P : Program} {w : World} {K : PySem.W.Frag} {tg : Expr} (it : Addr) (lo : Int) (n : Nat) : Turn P w K tg (Itr lo n) [it] it (fun i h => IsRangeIter h it (lo + (i : Nat) * 1) ((n : Int) - (i : Nat)) 1) where
  mem := by simp
  obj := fun i h st b hb => by
    have e : b = it := by simpa using hb
    subst e
    exact ⟨_, st, fun v z => by
      have z' : Data.fields _ = Data.cell v := z
      cases z'⟩
  keep := fun i h h' st k => k it (by simp) _ st
  item := by
    intro X hP hw hK hc i pins s σ H E I hf st hg
    subst hP hw hK
    obtain ⟨f0, f1, f2, f3, f4, f5⟩ := hf it (by simp)
    have W := Walks.range (prog := X.prog) (w := X.w) (I.ok.hd hc) it lo 1 n
    refine W.item i s _ _ hg st fun v h' tk hv st' kk => ?_
    obtain ⟨t, rfl⟩ := hv
    have I1 : Inv X pins σ H { s with heap := h', toks := tk } := I.turned (fun b o hb e => kk b o (by simpa using hb) e) f0 f1 f3 f4 f5
    refine ⟨_, rfl, go_of (s := { s with heap := h', toks := tk }) (n := "range_iterator") st' rfl rfl (by decide) ⟨.int (lo + i), H, I1, ⟨t, ?_⟩, ⟨rfl, rfl⟩, st', fun b hb => (hf b hb).1⟩⟩
    rw [Int.mul_one]
  done := by
    intro X hP hw hK hc i pins s σ H E I hf st hg
    subst hP hw hK
    obtain ⟨f0, f1, f2, f3, f4, f5⟩ := hf it (by simp)
    exact wpAny_pyNext_range_end (I.ok.hd hc) st (by have : n ≤ i := hg; omega) fun h' eb => ⟨rfl, I.turned (t' := s.toks) (fun b o hb e => eb b o hb e) f0 f1 f3 f4 f5⟩
  self := fun _ _ _ _ _ st h => wpAny_pyIter_rangeiter st h
end L2
namespace L2
open PySem PySem.Spec PyProof.Rows
section
variable {X : Cx} {tg : Expr}
def iList (K : PySem.W.Frag) (tl : TE) : TI := fun σ H R => tl σ H fun x H1 => ∃ a, x = .ref a ∧ (∃ xs, SqL K H1 a xs) ∧ R (Itl K a) H1
def iTup (K : PySem.W.Frag) (tl : TE) : TI := fun σ H R => tl σ H fun x H1 => ∃ a, x = .ref a ∧ (∃ xs, SqT K H1 a xs) ∧ R (Itt K a) H1
theorem pi_list {l : Expr} {tl : TE} (hl : PE X l tl) : PI X tg l (iList X.K tl) := by
  intro pins s σ H R I h
  refine thn (hl pins s σ H _ I h) fun v s1 ⟨x, H1, I1, r1, q1⟩ => ?_
  obtain ⟨a, e, ⟨xs, hq⟩, q⟩ := q1
  subst e
  cases r1
  obtain ⟨its, rv, p, hz⟩ := I1.list hq
  refine wpAny_pyIter_list p.isList ?_
  refine ⟨s1.heap.objs.size, [s1.heap.objs.size], _, _, H1, rfl, I1.kept (t' := s1.toks) fun b o e => Heap.get?_push_of_some _ e, turn_list a _, ⟨_, Heap.get?_push_size _ rfl, rfl, rfl⟩, fun b hb => ?_, q⟩
  have e : b = s1.heap.objs.size := by simpa using hb
  subst e
  exact I1.fpOk (Nat.le_refl _) (I1.hok.fresh (Nat.le_refl _))
theorem pi_tup {l : Expr} {tl : TE} (hl : PE X l tl) : PI X tg l (iTup X.K tl) := by
  intro pins s σ H R I h
  refine thn (hl pins s σ H _ I h) fun v s1 ⟨x, H1, I1, r1, q1⟩ => ?_
  obtain ⟨a, e, ⟨xs, hq⟩, q⟩ := q1
  subst e
  cases r1
  obtain ⟨its, rv, p, hz⟩ := I1.tuple hq
  refine wpAny_pyIter_tuple (show s1.heap.IsTuple a its.toArray from p) ?_
  refine ⟨s1.heap.objs.size, [s1.heap.objs.size], _, _, H1, rfl, I1.kept (t' := s1.toks) fun b o e => Heap.get?_push_of_some _ e, turn_tuple a _, ⟨_, Heap.get?_push_size _ rfl, rfl, rfl⟩, fun b hb => ?_, q⟩
  have e : b = s1.heap.objs.size := by simpa using hb
  subst e
  exact I1.fpOk (Nat.le_refl _) (I1.hok.fresh (Nat.le_refl _))
theorem range_it {pins : List (Addr × Obj)} {σ : St} {H : Hp} {s : Shared} {R : It → Hp → Prop} {E : Value → Shared → Prop} {lo hi : Int} {t u v : Tok} {tk : Nat} (I : Inv X pins σ H s) (h1 : -(2 ^ 62) ≤ lo) (h2 : lo < 2 ^ 62) (h3 : -(2 ^ 62) ≤ hi) (h4 : hi < 2 ^ 62)
    (q : R (Itr lo (hi - lo).toNat) H) : wpAny (model X.prog X.w) X.A (pyIter (.ref s.heap.objs.size)) (PIE X pins σ tg R) E { s with heap := s.heap.push { cls := .type "range", data := .fields #[.int lo t, .int hi u, .int 1 v] }, toks := tk } := by
  refine wpAny_pyIter_range (IsRange.new ..) (small_one h1 h2 h3 h4) ?_
  have I1 : Inv X pins σ H { s with heap := s.heap.push { cls := .type "range", data := .fields #[.int lo t, .int hi u, .int 1 v] }, toks := tk } := I.kept fun b o e => Heap.get?_push_of_some _ e
  refine ⟨(s.heap.push { cls := .type "range", data := .fields #[.int lo t, .int hi u, .int 1 v] }).objs.size, [(s.heap.push { cls := .type "range", data := .fields #[.int lo t, .int hi u, .int 1 v] }).objs.size], _, _, H, rfl,
    I1.kept (t' := tk) fun b o e => Heap.get?_push_of_some _ e, turn_range _ lo (hi - lo).toNat, ?_, fun b hb => ?_, q⟩
  · have e1 : lo + ((0 : Nat) : Int) * 1 = lo := by simp
    have e2 : (((hi - lo).toNat : Nat) : Int) - ((0 : Nat) : Int) = Builtin.Range.rangeSize lo hi 1 := by rw [rangeSize_one]; split <;> omega
    show IsRangeIter _ _ (lo + ((0 : Nat) : Int) * 1) ((((hi - lo).toNat : Nat) : Int) - ((0 : Nat) : Int)) 1
    rw [e1, e2]
    exact Heap.get?_push_size _ rfl
  · have e : b = (s.heap.push { cls := .type "range", data := .fields #[.int lo t, .int hi u, .int 1 v] }).objs.size := by simpa using hb
    subst e
    exact I1.fpOk (Nat.le_refl _) (I1.hok.fresh (Nat.le_refl _))
def iRng1 (ta : TA) : TI := fun σ H R => ta σ H fun vs H1 => ∃ j : Int, vs = [.int j] ∧ -(2 ^ 62) ≤ j ∧ j < 2 ^ 62 ∧ R (Itr 0 j.toNat) H1
def iRng2 (ta : TA) : TI := fun σ H R => ta σ H fun vs H1 => ∃ i j : Int, vs = [.int i, .int j] ∧ (-(2 ^ 62) ≤ i ∧ i < 2 ^ 62 ∧ -(2 ^ 62) ≤ j ∧ j < 2 ^ 62) ∧ R (Itr i (j - i).toNat) H1
theorem pi_range1 {a : Expr} {ta : TA} {p pos : Pos} (hg : Gl X "range") (hm : X.mg "range" = none) (ha : PA X [a] ta) (hs : starEach [a] X.env = [(false, eval a X.env)] := by rfl) : PI X tg (.Call (.Name "range" p) [a] [] pos) (iRng1 ta) := by
  intro pins s σ H R I h
  refine Call_ (ld_blt I hg hm boot_range (PyProof.Rows.callWith_type1 (thn (ha pos pins s σ H _ I h) fun us s1 ⟨vs, H1, I1, r1, q1⟩ => ?_) hs rfl))
  obtain ⟨j, e, q1, q2, q⟩ := q1
  subst e
  cases r1 with
  | cons r rr =>
    cases rr
    obtain ⟨t, rfl⟩ := r
    exact call_range_1 (range_it I1 (by omega) (by omega) q1 q2 (by simpa using q))
def tFor (wi : TI) (g : TG) (tb : TS) : TS := fun D σ H => wi σ H fun J H1 => ∃ W : Nat → Nat → St → Hp → Prop, (∃ m, W 0 m σ H1) ∧ ∀ i m σ H, W i m σ H →
  (J.stop i H ∧ D.nx σ H) ∨ (J.go i H ∧ ∃ N : St → Hp → Prop, (∀ σ' H', N σ' H' → ∃ m', m' < m ∧ W (i + 1) m' σ' H') ∧ ∀ x H', J.yld i H x H' → g x σ H' fun σ2 H2 => tb { D with nx := N, ct := N, bk := D.nx } σ2 H2)
def pinsAt (fp : List Addr) (h : Heap) : List (Addr × Obj) := fp.filterMap fun b => (h.get? b).map fun o => (b, o)
theorem mem_pinsAt {fp : List Addr} {h : Heap} {b : Addr} {o : Obj} (hb : b ∈ fp) (e : h.get? b = some o) : (b, o) ∈ pinsAt fp h := List.mem_filterMap.mpr ⟨b, hb, by rw [e]; rfl⟩
theorem of_pinsAt {fp : List Addr} {h : Heap} {p : Addr × Obj} (hp : p ∈ pinsAt fp h) : p.1 ∈ fp ∧ h.get? p.1 = some p.2 := by
  obtain ⟨b, hb, e⟩ := List.mem_filterMap.mp hp
  cases q : h.get? b with
  | none => rw [q] at e; cases e
  | some o =>
    rw [q] at e
    have e' : (b, o) = p := Option.some.inj e
    subst e'
    exact ⟨hb, q⟩
theorem Inv.pinned {pins : List (Addr × Obj)} {σ : St} {H : Hp} {s : Shared} {fp : List Addr} (I : Inv X pins σ H s) (hf : ∀ b ∈ fp, FpOk X pins H b) (ho : ∀ b ∈ fp, ∃ o, s.heap.get? b = some o ∧ ∀ v, o.data ≠ .cell v) : Inv X (pins ++ pinsAt fp s.heap) σ H s :=
  I.pins_of fun p hp => (List.mem_append.mp hp).elim (fun z => I.pin p (List.mem_append_right _ z)) fun z => by
    obtain ⟨hb, e⟩ := of_pinsAt z
    obtain ⟨f0, f1, f2, _⟩ := hf p.1 hb
    obtain ⟨o, e', d⟩ := ho p.1 hb
    rw [e] at e'; cases e'
    exact ⟨e, f0, f1, f2, d⟩
theorem Inv.unpinned {pins pl : List (Addr × Obj)} {σ : St} {H : Hp} {s : Shared} (I : Inv X (pins ++ pl) σ H s) : Inv X pins σ H s := I.pins_of fun p hp => I.pin p (List.mem_append_right _ (List.mem_append_left _ hp))
theorem ps_for {iter : Expr} {body : List Stmt} {wi : TI} {g : TG} {tb : TS} {pos : Pos} (hp : PassesOwn (model X.prog X.w) X.A X.env X.xe) (hc : X.calm = true) (hi : PI X tg iter wi) (hg : PG X tg g) (hb : PSs X body tb)
    (hs : ∀ x, foldedSetIterable iter X.env x = pure x := by intro _; rfl) : PS X (.For tg iter body [] pos) (tFor wi g tb) := by
  intro pins s σ H D I h
  refine wpAny_For (thn (hi pins s σ H _ I h) fun v s1 h1 => thn h1 fun itv s2 h2 => ?_) hs
  obtain ⟨it, fp, tn, J, H2, e, I2, T, st2, f2, W, ⟨m0, w0⟩, turn⟩ := h2
  subst e
  -- what stays true of the iterator's objects through the loop
  have stat : ∀ {H' : Hp}, (∀ b ∈ fp, H' b = none) → ∀ b ∈ fp, FpOk X pins H' b := fun hn b hb => ⟨hn b hb, (f2 b hb).2⟩
  refine codeAny_forLoop_any (fun n s' => ∃ i σ' H', Inv X pins σ' H' s' ∧ tn i s'.heap ∧ (∀ b ∈ fp, H' b = none) ∧ W i n σ' H') ?_ m0 ⟨0, σ, H2, I2, st2, fun b hb => (f2 b hb).1, w0⟩
  rintro n s3 ⟨i, σ3, H3, I3, st3, fr3, w3⟩
  rcases turn i n σ3 H3 w3 with ⟨stop, qn⟩ | ⟨go, N, hN, step⟩
  · refine wpAny_passesOwn hp (thn (T.done X rfl rfl rfl hc i pins s3 σ3 H3 X.xe I3 (stat fr3) st3 stop) fun r s4 ⟨hr, I4⟩ => ?_)
    subst hr
    exact wpAny_execs_nil ⟨σ3, H3, I4, qn⟩
  · refine wpAny_passesOwn hp (thn (T.item X rfl rfl rfl hc i pins s3 σ3 H3 X.xe I3 (stat fr3) st3 go) fun r s4 ⟨u, hr, h4⟩ => ?_)
    subst hr
    refine wpAny_passesOwn hp (thn h4 fun _ s5 ⟨x, H5, I5, r5, y5, st5, fr5⟩ => ?_)
    have I5' := I5.pinned (stat fr5) (T.obj _ _ st5)
    refine wpAny_passesOwn hp (thn (hg _ s5 σ3 H5 x u _ I5' r5 (step x H5 y5)) fun _ s6 ⟨σ6, H6, I6, q6⟩ => ?_)
    refine wpAny_passesOwn hp (thn (hb _ s6 σ6 H6 _ I6 q6) fun f s7 q7 => ?_)
    have again : ∀ {σ7 : St} {H7 : Hp}, Inv X (pins ++ pinsAt fp s5.heap) σ7 H7 s7 → N σ7 H7 → ∃ m, m < n ∧ ∃ i σ' H', Inv X pins σ' H' s7 ∧ tn i s7.heap ∧ (∀ b ∈ fp, H' b = none) ∧ W i m σ' H' := fun {σ7 H7} I7 n7 => by
      obtain ⟨m', hm, w7⟩ := hN σ7 H7 n7
      refine ⟨m', hm, i + 1, σ7, H7, I7.unpinned, T.keep _ _ _ st5 fun b hb o e => (I7.pin (b, o) (List.mem_append_right _ (List.mem_append_right _ (mem_pinsAt hb e)))).1, fun b hb => ?_, w7⟩
      obtain ⟨o, e, d⟩ := T.obj _ _ st5 b hb
      exact (I7.pin (b, o) (List.mem_append_right _ (List.mem_append_right _ (mem_pinsAt hb e)))).2.1
    cases f with
    | next => obtain ⟨σ7, H7, I7, n7⟩ := q7; exact again I7 n7
    | cont => obtain ⟨σ7, H7, I7, n7⟩ := q7; exact again I7 n7
    | brk => obtain ⟨σ7, H7, I7, q7⟩ := q7; exact ⟨σ7, H7, I7.unpinned, q7⟩
    | ret v => obtain ⟨x7, σ7, H7, I7, r7, q7⟩ := q7; exact ⟨x7, σ7, H7, I7.unpinned, r7, q7⟩
end
theorem for_list {K : PySem.W.Frag} {a : Addr} {xs : List V} {g : TG} {tb : TS} {D : Ends} {σ : St} {H : Hp} (Pv : Nat → St → Hp → Prop) (h0 : Pv 0 σ H) (hl : ∀ i σ H, i ≤ xs.length → Pv i σ H → SqL K H a xs)
    (hs : ∀ i x σ H, xs[i]? = some x → Pv i σ H → g x σ H fun σ2 H2 => tb { D with nx := Pv (i + 1), ct := Pv (i + 1), bk := D.nx } σ2 H2) (hd : ∀ σ H, Pv xs.length σ H → D.nx σ H) :
    ∃ W : Nat → Nat → St → Hp → Prop, (∃ m, W 0 m σ H) ∧ ∀ i m σ H, W i m σ H →
      ((Itl K a).stop i H ∧ D.nx σ H) ∨ ((Itl K a).go i H ∧ ∃ N : St → Hp → Prop, (∀ σ' H', N σ' H' → ∃ m', m' < m ∧ W (i + 1) m' σ' H') ∧ ∀ x H', (Itl K a).yld i H x H' → g x σ H' fun σ2 H2 => tb { D with nx := N, ct := N, bk := D.nx } σ2 H2) := by
  refine ⟨fun i m σ H => m = xs.length - i ∧ i ≤ xs.length ∧ Pv i σ H, ⟨xs.length, by simp, Nat.zero_le _, h0⟩, ?_⟩
  rintro i m σ H ⟨rfl, hi, p⟩
  have q := hl i σ H hi p
  by_cases hlt : i < xs.length
  · refine .inr ⟨⟨xs, xs[i], q, by simp [hlt]⟩, Pv (i + 1), fun σ' H' p' => ⟨xs.length - (i + 1), by omega, rfl, hlt, p'⟩, fun x H' y => ?_⟩
    obtain ⟨e, y⟩ := y
    subst e
    exact hs i x σ _ (y xs q) p
  · have e : i = xs.length := by omega
    subst e
    exact .inl ⟨⟨xs, q, Nat.le_refl _⟩, hd σ H p⟩
theorem for_tup {K : PySem.W.Frag} {a : Addr} {xs : List V} {g : TG} {tb : TS} {D : Ends} {σ : St} {H : Hp} (Pv : Nat → St → Hp → Prop) (h0 : Pv 0 σ H) (hl : ∀ i σ H, i ≤ xs.length → Pv i σ H → SqT K H a xs)
    (hs : ∀ i x σ H, xs[i]? = some x → Pv i σ H → g x σ H fun σ2 H2 => tb { D with nx := Pv (i + 1), ct := Pv (i + 1), bk := D.nx } σ2 H2) (hd : ∀ σ H, Pv xs.length σ H → D.nx σ H) :
    ∃ W : Nat → Nat → St → Hp → Prop, (∃ m, W 0 m σ H) ∧ ∀ i m σ H, W i m σ H →
      ((Itt K a).stop i H ∧ D.nx σ H) ∨ ((Itt K a).go i H ∧ ∃ N : St → Hp → Prop, (∀ σ' H', N σ' H' → ∃ m', m' < m ∧ W (i + 1) m' σ' H') ∧ ∀ x H', (Itt K a).yld i H x H' → g x σ H' fun σ2 H2 => tb { D with nx := N, ct := N, bk := D.nx } σ2 H2) := by
  refine ⟨fun i m σ H => m = xs.length - i ∧ i ≤ xs.length ∧ Pv i σ H, ⟨xs.length, by simp, Nat.zero_le _, h0⟩, ?_⟩
  rintro i m σ H ⟨rfl, hi, p⟩
  have q := hl i σ H hi p
  by_cases hlt : i < xs.length
  · refine .inr ⟨⟨xs, xs[i], q, by simp [hlt]⟩, Pv (i + 1), fun σ' H' p' => ⟨xs.length - (i + 1), by omega, rfl, hlt, p'⟩, fun x H' y => ?_⟩
    obtain ⟨e, y⟩ := y
    subst e
    exact hs i x σ _ (y xs q) p
  · have e : i = xs.length := by omega
    subst e
    exact .inl ⟨⟨xs, q, Nat.le_refl _⟩, hd σ H p⟩
theorem for_range {lo : Int} {n : Nat} {g : TG} {tb : TS} {D : Ends} {σ : St} {H : Hp} (Pv : Nat → St → Hp → Prop) (h0 : Pv 0 σ H)
    (hs : ∀ i σ H, i < n → Pv i σ H → g (.int (lo + i)) σ H fun σ2 H2 => tb { D with nx := Pv (i + 1), ct := Pv (i + 1), bk := D.nx } σ2 H2) (hd : ∀ σ H, Pv n σ H → D.nx σ H) :
    ∃ W : Nat → Nat → St → Hp → Prop, (∃ m, W 0 m σ H) ∧ ∀ i m σ H, W i m σ H →
      ((Itr lo n).stop i H ∧ D.nx σ H) ∨ ((Itr lo n).go i H ∧ ∃ N : St → Hp → Prop, (∀ σ' H', N σ' H' → ∃ m', m' < m ∧ W (i + 1) m' σ' H') ∧ ∀ x H', (Itr lo n).yld i H x H' → g x σ H' fun σ2 H2 => tb { D with nx := N, ct := N, bk := D.nx } σ2 H2) := by
  refine ⟨fun i m σ H => m = n - i ∧ i ≤ n ∧ Pv i σ H, ⟨n, by simp, Nat.zero_le _, h0⟩, ?_⟩
  rintro i m σ H ⟨rfl, hi, p⟩
  by_cases hlt : i < n
  · refine .inr ⟨hlt, Pv (i + 1), fun σ' H' p' => ⟨n - (i + 1), by omega, rfl, hlt, p'⟩, fun x H' y => ?_⟩
    obtain ⟨e, y⟩ := y
    subst e y
    exact hs i σ _ hlt p
  · have e : i = n := by omega
    subst e
    exact .inl ⟨Nat.le_refl _, hd σ H p⟩
end L2
namespace L2
open PySem PySem.Spec PyProof.Rows
abbrev R2 := V → V → Hp → VK → Prop
def OpR (X : Cx) (f : Value → Value → Sem Value) (r : R2) : Prop :=
  ∀ (pins : List (Addr × Obj)) (s : Shared) (σ : St) (H : Hp) (x y : V) (v u : Value) (Q : VK), Inv X pins σ H s → RelV x v → RelV y u → r x y H Q →
    wpAny (model X.prog X.w) X.A (f v u) (EP X pins σ Q) X.xe s
def UnR (X : Cx) (f : Value → Sem Value) (r : V → Hp → VK → Prop) : Prop :=
  ∀ (pins : List (Addr × Obj)) (s : Shared) (σ : St) (H : Hp) (x : V) (v : Value) (Q : VK), Inv X pins σ H s → RelV x v → r x H Q →
    wpAny (model X.prog X.w) X.A (f v) (EP X pins σ Q) X.xe s
def CallR (X : Cx) (f : Value) (r : List V → Hp → VK → Prop) : Prop :=
  ∀ (pins : List (Addr × Obj)) (s : Shared) (σ : St) (H : Hp) (xs : List V) (us : List Value) (Q : VK), Inv X pins σ H s → Vals xs us → r xs H Q →
    wpAny (model X.prog X.w) X.A (call f us) (EP X pins σ Q) X.xe s
def tOp (r : R2) (ta tb : TE) : TE := fun σ H Q => ta σ H fun x H1 => tb σ H1 fun y H2 => r x y H2 Q
def tUn (r : V → Hp → VK → Prop) (ta : TE) : TE := fun σ H Q => ta σ H fun x H1 => r x H1 Q
def rI (C : Int → Int → Prop) (g : Int → Int → V) : R2 := fun x y H Q => ∃ i j, x = .int i ∧ y = .int j ∧ C i j ∧ Q (g i j) H
def rI0 (g : Int → Int → V) : R2 := fun x y H Q => ∃ i j, x = .int i ∧ y = .int j ∧ Q (g i j) H
def rU (g : Int → V) : V → Hp → VK → Prop := fun x H Q => ∃ i, x = .int i ∧ Q (g i) H
section
variable {X : Cx} {a b c : Expr} {ta tb tc : TE} {pos : Pos}
theorem binT (ha : PE X a ta) (hb : PE X b tb) {pins : List (Addr × Obj)} {s : Shared} {σ : St} {H : Hp} {R : V → V → Hp → Prop} (I : Inv X pins σ H s)
    (h : ta σ H fun x H1 => tb σ H1 fun y H2 => R x y H2) {Q : Value → Shared → Prop} {f : Value → Value → Sem Value}
    (hf : ∀ v u s2 x y H2, Inv X pins σ H2 s2 → RelV x v → RelV y u → R x y H2 → wpAny (model X.prog X.w) X.A (f v u) Q X.xe s2) :
    wpAny (model X.prog X.w) X.A (eval a X.env) (fun v s₁ => wpAny (model X.prog X.w) X.A (eval b X.env) (fun u s₂ => wpAny (model X.prog X.w) X.A (f v u) Q X.xe s₂) X.xe s₁) X.xe s := by
  refine thn (ha pins s σ H _ I h) fun v s1 ⟨x, H1, I1, r1, q1⟩ => ?_
  refine thn (hb pins s1 σ H1 _ I1 q1) fun u s2 ⟨y, H2, I2, r2, q2⟩ => ?_
  exact hf v u s2 x y H2 I2 r1 r2 q2
theorem pe_op {op : Operator} {r : R2} (ho : OpR X (binaryOp op) r) (ha : PE X a ta) (hb : PE X b tb) : PE X (.BinOp a op b pos) (tOp r ta tb) := by
  intro pins s σ H Q I h
  exact wpAny_BinOp (binT ha hb I h fun v u s2 x y H2 I2 rx ry q => ho pins s2 σ H2 x y v u Q I2 rx ry q)
theorem pe_un {op : UnaryOp} {r : V → Hp → VK → Prop} (ho : UnR X (unaryOp op) r) (ha : PE X a ta) : PE X (.UnaryOp op a pos) (tUn r ta) := by
  intro pins s σ H Q I h
  exact UnaryOp_ (thn (ha pins s σ H _ I h) fun v s1 ⟨x, H1, I1, r1, q1⟩ => ho pins s1 σ H1 x v Q I1 r1 q1)
theorem opI {f : Value → Value → Sem Value} {C : Int → Int → Prop} {g : Int → Int → Int}
    (rule : ∀ (i j : Int) (t u : Tok) (s : Shared) (Q : Value → Shared → Prop) (E : Value → Shared → Prop), C i j → Q (.int (g i j) s.toks) { s with toks := s.toks + 1 } → wpAny (model X.prog X.w) X.A (f (.int i t) (.int j u)) Q E s) :
    OpR X f (rI C fun i j => .int (g i j)) := by
  intro pins s σ H x y v u Q I rx ry h
  obtain ⟨i, j, rfl, rfl, hc, q⟩ := h
  obtain ⟨t, rfl⟩ := rx
  obtain ⟨t', rfl⟩ := ry
  exact rule i j t t' s _ _ hc ⟨.int (g i j), H, I.tok _, ⟨_, rfl⟩, q⟩
theorem opI0 {f : Value → Value → Sem Value} {g : Int → Int → Int}
    (rule : ∀ (i j : Int) (t u : Tok) (s : Shared) (Q : Value → Shared → Prop) (E : Value → Shared → Prop), Q (.int (g i j) s.toks) { s with toks := s.toks + 1 } → wpAny (model X.prog X.w) X.A (f (.int i t) (.int j u)) Q E s) :
    OpR X f (rI0 fun i j => .int (g i j)) := by
  intro pins s σ H x y v u Q I rx ry h
  obtain ⟨i, j, rfl, rfl, q⟩ := h
  obtain ⟨t, rfl⟩ := rx
  obtain ⟨t', rfl⟩ := ry
  exact rule i j t t' s _ _ ⟨.int (g i j), H, I.tok _, ⟨_, rfl⟩, q⟩
theorem opB0 {f : Value → Value → Sem Value} {g : Int → Int → Bool}
    (rule : ∀ (i j : Int) (t u : Tok) (s : Shared) (Q : Value → Shared → Prop) (E : Value → Shared → Prop), Q (.bool (g i j)) s → wpAny (model X.prog X.w) X.A (f (.int i t) (.int j u)) Q E s) :
    OpR X f (rI0 fun i j => .bl (g i j)) := by
  intro pins s σ H x y v u Q I rx ry h
  obtain ⟨i, j, rfl, rfl, q⟩ := h
  obtain ⟨t, rfl⟩ := rx
  obtain ⟨t', rfl⟩ := ry
  exact rule i j t t' s _ _ ⟨.bl (g i j), H, I, rfl, q⟩
def CDiv (i j : Int) : Prop := 0 < j ∧ j < 1073741824
def CPow (i j : Int) : Prop := 0 ≤ j ∧ j ≤ 1000000 ∧ i.natAbs < 2 ^ 64
def CMul (i j : Int) : Prop := (-(2 ^ 64) < i ∧ i < 2 ^ 64) ∨ (-(2 ^ 64) < j ∧ j < 2 ^ 64)
theorem CMul.ok {i j : Int} (h : CMul i j) : IntMulOk i j := by
  rcases h with ⟨h1, h2⟩ | ⟨h1, h2⟩
  · exact .of_left (intBits_le_64 h1 h2)
  · exact .of_right (intBits_le_64 h1 h2)
theorem op_add : OpR X (binaryOp .Add) (rI0 fun i j => .int (i + j)) := opI0 fun _ _ _ _ _ _ _ q => add_int q
theorem op_sub : OpR X (binaryOp .Sub) (rI0 fun i j => .int (i - j)) := opI0 fun _ _ _ _ _ _ _ q => sub_int q
theorem op_mul : OpR X (binaryOp .Mult) (rI CMul fun i j => .int (i * j)) := opI fun _ _ _ _ _ _ _ hc q => mul_int q hc.ok
theorem op_fdiv : OpR X (binaryOp .FloorDiv) (rI CDiv fun i j => .int (i / j)) := opI fun i j _ _ _ _ _ hc q => by
  have h1 : (0 : Int) < j := hc.1
  have h2 : j < 1073741824 := hc.2
  exact floordiv_int (by omega) (by rw [Int.fdiv_eq_ediv_of_nonneg i (by omega)]; exact q) (.inl (PyProof.noPylong_small (by omega)))
theorem op_mod : OpR X (binaryOp .Mod) (rI (fun _ j => 0 < j) fun i j => .int (i % j)) := opI fun i j _ _ _ _ _ hc q => by
  have h1 : (0 : Int) < j := hc
  exact mod_int' (by omega) (by rw [Int.fmod_eq_emod_of_nonneg i (by omega)]; exact q)
theorem op_pow : OpR X (binaryOp .Pow) (rI CPow fun i j => .int (i ^ j.toNat)) := opI fun _ _ _ _ _ _ _ hc q => pow_int_small hc.1 hc.2.1 hc.2.2 q
theorem unI {f : Value → Sem Value} {g : Int → Int}
    (rule : ∀ (i : Int) (t : Tok) (s : Shared) (Q : Value → Shared → Prop) (E : Value → Shared → Prop), Q (.int (g i) s.toks) { s with toks := s.toks + 1 } → wpAny (model X.prog X.w) X.A (f (.int i t)) Q E s) :
    UnR X f (rU fun i => .int (g i)) := by
  intro pins s σ H x v Q I rx h
  obtain ⟨i, rfl, q⟩ := h
  obtain ⟨t, rfl⟩ := rx
  exact rule i t s _ _ ⟨.int (g i), H, I.tok _, ⟨_, rfl⟩, q⟩
theorem un_neg : UnR X (unaryOp .USub) (rU fun i => .int (-i)) := unI fun _ _ _ _ _ q => neg_int q
end
def scal : V → V → Bool
  | .non, .non => true | .non, .int _ => true | .int _, .non => true | .non, .bl _ => true | .bl _, .non => true | .non, .str _ => true | .str _, .non => true
  | .int _, .int _ => true | .bl _, .bl _ => true | .str _, .str _ => true | .byt _, .byt _ => true
  | .int _, .str _ => true | .str _, .int _ => true | .bl _, .str _ => true | .str _, .bl _ => true
  | _, _ => false
def rEq : R2 := fun x y H Q => scal x y = true ∧ Q (.bl (decide (x = y))) H
def rNe : R2 := fun x y H Q => scal x y = true ∧ Q (.bl (!decide (x = y))) H
theorem dec_int {i j : Int} : decide (V.int i = V.int j) = (i == j) := by
  rw [Bool.eq_iff_iff]
  simp
theorem dec_bl {i j : Bool} : decide (V.bl i = V.bl j) = (i == j) := by
  rw [Bool.eq_iff_iff]
  simp
theorem dec_str {i j : Str} : decide (V.str i = V.str j) = (i == j) := by
  rw [Bool.eq_iff_iff]
  simp
theorem dec_byt {i j : Array UInt8} : decide (V.byt i = V.byt j) = (i.toList == j.toList) := by
  rw [Bool.eq_iff_iff]
  cases i
  cases j
  simp
section
variable {X : Cx} {a b c : Expr} {ta tb tc : TE} {pos : Pos}
theorem fin_bl {pins : List (Addr × Obj)} {σ : St} {H : Hp} {s : Shared} {Q : VK} {k k' : Bool} (I : Inv X pins σ H s) (q : Q (.bl k) H) (e : k = k') : EP X pins σ Q (.bool k') s := by
  subst e
  exact ⟨.bl k, H, I, rfl, q⟩
theorem op_eq : OpR X (compareOp .Eq) rEq := by
  intro pins s σ H x y v u Q I rx ry h
  obtain ⟨hs, q⟩ := h
  cases x with
  | non =>
    cases rx
    cases y with
    | non => cases ry; exact PySem.EqNone.eq_none_none (fin_bl I q (by simp))
    | bl j => cases ry; exact PySem.EqNone.eq_none_bool (fin_bl I q (by simp))
    | int j => obtain ⟨t', rfl⟩ := ry; exact PySem.EqNone.eq_none_int (fin_bl I q (by simp))
    | str j => obtain ⟨t', rfl⟩ := ry; exact PySem.EqNone.eq_none_str (fin_bl I q (by simp))
    | _ => exact absurd (show false = true from hs) Bool.false_ne_true
  | bl i =>
    cases rx
    cases y with
    | non => cases ry; exact PySem.EqNone.eq_bool_none (fin_bl I q (by simp))
    | bl j => cases ry; exact eq_bool (fin_bl I q dec_bl)
    | str j => obtain ⟨t', rfl⟩ := ry; exact PySem.EqMixed.eq_bool_str (fin_bl I q (by simp))
    | _ => exact absurd (show false = true from hs) Bool.false_ne_true
  | int i =>
    obtain ⟨t, rfl⟩ := rx
    cases y with
    | non => cases ry; exact PySem.EqNone.eq_int_none (fin_bl I q (by simp))
    | int j => obtain ⟨t', rfl⟩ := ry; exact eq_int (fin_bl I q dec_int)
    | str j => obtain ⟨t', rfl⟩ := ry; exact PySem.EqMixed.eq_int_str (fin_bl I q (by simp))
    | _ => exact absurd (show false = true from hs) Bool.false_ne_true
  | str i =>
    obtain ⟨t, rfl⟩ := rx
    cases y with
    | non => cases ry; exact PySem.EqNone.eq_str_none (fin_bl I q (by simp))
    | bl j => cases ry; exact PySem.EqMixed.eq_str_bool (fin_bl I q (by simp))
    | int j => obtain ⟨t', rfl⟩ := ry; exact PySem.EqMixed.eq_str_int (fin_bl I q (by simp))
    | str j => obtain ⟨t', rfl⟩ := ry; exact eq_str (fin_bl I q dec_str)
    | _ => exact absurd (show false = true from hs) Bool.false_ne_true
  | byt i =>
    obtain ⟨t, rfl⟩ := rx
    cases y with
    | byt j => obtain ⟨t', rfl⟩ := ry; exact PySem.W.eq_bytes (fin_bl I q dec_byt)
    | _ => exact absurd (show false = true from hs) Bool.false_ne_true
  | _ => cases y <;> exact absurd (show false = true from hs) Bool.false_ne_true
theorem op_ne : OpR X (compareOp .NotEq) rNe := by
  intro pins s σ H x y v u Q I rx ry h
  obtain ⟨hs, q⟩ := h
  cases x with
  | non =>
    cases rx
    cases y with
    | non => cases ry; exact PySem.EqNone.ne_none_none (fin_bl I q (by simp))
    | bl j => cases ry; exact PySem.EqNone.ne_none_bool (fin_bl I q (by simp))
    | int j => obtain ⟨t', rfl⟩ := ry; exact PySem.EqNone.ne_none_int (fin_bl I q (by simp))
    | str j => obtain ⟨t', rfl⟩ := ry; exact PySem.EqNone.ne_none_str (fin_bl I q (by simp))
    | _ => exact absurd (show false = true from hs) Bool.false_ne_true
  | bl i =>
    cases rx
    cases y with
    | non => cases ry; exact PySem.EqNone.ne_bool_none (fin_bl I q (by simp))
    | bl j => cases ry; exact ne_bool (fin_bl I q (congrArg not dec_bl))
    | str j => obtain ⟨t', rfl⟩ := ry; exact PySem.EqMixed.ne_bool_str (fin_bl I q (by simp))
    | _ => exact absurd (show false = true from hs) Bool.false_ne_true
  | int i =>
    obtain ⟨t, rfl⟩ := rx
    cases y with
    | non => cases ry; exact PySem.EqNone.ne_int_none (fin_bl I q (by simp))
    | int j => obtain ⟨t', rfl⟩ := ry; exact ne_int (fin_bl I q (congrArg not dec_int))
    | str j => obtain ⟨t', rfl⟩ := ry; exact PySem.EqMixed.ne_int_str (fin_bl I q (by simp))
    | _ => exact absurd (show false = true from hs) Bool.false_ne_true
  | str i =>
    obtain ⟨t, rfl⟩ := rx
    cases y with
    | non => cases ry; exact PySem.EqNone.ne_str_none (fin_bl I q (by simp))
    | bl j => cases ry; exact PySem.EqMixed.ne_str_bool (fin_bl I q (by simp))
    | int j => obtain ⟨t', rfl⟩ := ry; exact PySem.EqMixed.ne_str_int (fin_bl I q (by simp))
    | str j => obtain ⟨t', rfl⟩ := ry; exact ne_str (fin_bl I q (congrArg not dec_str))
    | _ => exact absurd (show false = true from hs) Bool.false_ne_true
  | byt i =>
    obtain ⟨t, rfl⟩ := rx
    cases y with
    | byt j => obtain ⟨t', rfl⟩ := ry; exact PySem.W.ne_bytes (fin_bl I q (congrArg not dec_byt))
    | _ => exact absurd (show false = true from hs) Bool.false_ne_true
  | _ => cases y <;> exact absurd (show false = true from hs) Bool.false_ne_true
theorem op_lt : OpR X (compareOp .Lt) (rI0 fun i j => .bl (decide (i < j))) := opB0 fun _ _ _ _ _ _ _ q => lt_int q
theorem op_gt : OpR X (compareOp .Gt) (rI0 fun i j => .bl (decide (j < i))) := opB0 fun _ _ _ _ _ _ _ q => gt_int q
theorem op_isN : OpR X (compareOp .Is) (fun x y H Q => y = .non ∧ Q (.bl (decide (x = .non))) H) := by
  intro pins s σ H x y v u Q I rx ry h
  obtain ⟨rfl, q⟩ := h
  cases ry
  refine is_none_gen (fin_bl I q ?_)
  cases x <;> first
    | (cases rx; rfl)
    | (obtain ⟨t, rfl⟩ := rx; rfl)
theorem op_notN : OpR X (compareOp .IsNot) (fun x y H Q => y = .non ∧ Q (.bl (!decide (x = .non))) H) := by
  intro pins s σ H x y v u Q I rx ry h
  obtain ⟨rfl, q⟩ := h
  cases ry
  refine isnot_none_gen (fin_bl I q ?_)
  cases x <;> first
    | (cases rx; rfl)
    | (obtain ⟨t, rfl⟩ := rx; rfl)
theorem OpR.or {f : Value → Value → Sem Value} {r r' : R2} (h : OpR X f r) (h' : OpR X f r') : OpR X f (fun x y H Q => r x y H Q ∨ r' x y H Q) := by
  intro pins s σ H x y v u Q I rx ry q
  rcases q with q | q
  · exact h pins s σ H x y v u Q I rx ry q
  · exact h' pins s σ H x y v u Q I rx ry q
theorem nomark (b : Expr) {op : CmpOp} (h : op ≠ .In := by decide) (h2 : op ≠ .NotIn := by decide) : behindInMarks op b = false := by
  have e1 : (op == CmpOp.In) = false := by cases op <;> first | rfl | exact absurd rfl h
  have e2 : (op == CmpOp.NotIn) = false := by cases op <;> first | rfl | exact absurd rfl h2
  cases b <;> simp [behindInMarks, e1, e2]
theorem pe_cmpR {op : CmpOp} {r : R2} (ho : OpR X (compareOp op) r) (ha : PE X a ta) (hb : PE X b tb) (hm : behindInMarks op b = false) : PE X (.Compare a [op] [b] pos) (tOp r ta tb) := by
  intro pins s σ H Q I h
  exact wpAny_Compare1 (binT ha hb I h fun v u s2 x y H2 I2 rx ry q => ho pins s2 σ H2 x y v u Q I2 rx ry q) hm
def tTest (t : TE) : TT := fun σ H Q => t σ H fun x H' => ∃ k, x = .bl k ∧ Q k H'
theorem pt_cmpR {op : CmpOp} {r : R2} (ho : OpR X (compareOp op) r) (ha : PE X a ta) (hb : PE X b tb) (hm : behindInMarks op b = false) : PT X (.Compare a [op] [b] pos) (tTest (tOp r ta tb)) := by
  intro pins s σ H Q I h
  refine wpAny_isTrue_Compare1 (thn (ha pins s σ H _ I h) fun v s1 ⟨x, H1, I1, r1, q1⟩ => thn (hb pins s1 σ H1 _ I1 q1) fun u s2 ⟨y, H2, I2, r2, q2⟩ =>
    thn (ho pins s2 σ H2 x y v u _ I2 r1 r2 q2) fun c s3 ⟨z, H3, I3, r3, k, e, q3⟩ => ?_) hm
  subst e
  cases r3
  exact wpAny_truthy_bool ⟨H3, I3, q3⟩
def tChain (r r' : R2) (ta tb tc : TE) : TE := fun σ H Q => ta σ H fun x H1 => tb σ H1 fun y H2 => r x y H2 fun z H3 => ∃ k, z = .bl k ∧
  (if k = true then tc σ H3 fun w' H4 => r' y w' H4 Q else Q (.bl false) H3)
theorem line63 : (sizeLine : Nat) < 2 ^ 63 := by rw [sizeLine_eq]; decide
theorem op_add_str : OpR X (binaryOp .Add) (fun x y H Q => ∃ i j, x = .str i ∧ y = .str j ∧ i.length + j.length ≤ sizeLine ∧ Q (.str (i ++ j)) H) := by
  intro pins s σ H x y v u Q I rx ry h
  obtain ⟨i, j, rfl, rfl, hz, q⟩ := h
  obtain ⟨t, rfl⟩ := rx
  obtain ⟨t', rfl⟩ := ry
  exact add_str (fun t' tk => ⟨.str (i ++ j), H, I.tok _, ⟨_, rfl⟩, q⟩) hz
theorem vals1 {x : V} {us : List Value} (r : Vals [x] us) : ∃ u, us = [u] ∧ RelV x u := by
  cases r with
  | cons r1 r2 => cases r2; exact ⟨_, rfl, r1⟩
theorem vals2 {x y : V} {us : List Value} (r : Vals [x, y] us) : ∃ u w', us = [u, w'] ∧ RelV x u ∧ RelV y w' := by
  cases r with
  | cons r1 r2 =>
    cases r2 with
    | cons r3 r4 => cases r4; exact ⟨_, _, rfl, r1, r3⟩
def LenV (K : PySem.W.Frag) (x : V) (H : Hp) (n : Nat) : Prop :=
  match x with
  | .str y => y.length ≤ sizeLine ∧ n = y.length
  | .byt y => y.size ≤ sizeLine ∧ n = y.size
  | .ref p => (∃ xs, SqL K H p xs ∧ n = xs.length) ∨ ∃ xs, SqT K H p xs ∧ n = xs.length
  | _ => False
theorem call_len : CallR X (.builtin "len") (fun xs H Q => ∃ x n, xs = [x] ∧ LenV X.K x H n ∧ Q (.int n) H) := by
  intro pins s σ H xs us Q I r h
  obtain ⟨x, n, rfl, e, q⟩ := h
  obtain ⟨u, rfl, rx⟩ := vals1 r
  have hl := line63
  have hs : sizeLine = 16777216 := sizeLine_eq
  cases x with
  | str y =>
    obtain ⟨t, rfl⟩ := rx
    obtain ⟨hy, e'⟩ : y.length ≤ sizeLine ∧ n = y.length := e
    subst e'
    exact len_str (by omega) ⟨.int _, H, I.tok _, ⟨_, rfl⟩, q⟩
  | byt y =>
    obtain ⟨t, rfl⟩ := rx
    obtain ⟨hy, e'⟩ : y.size ≤ sizeLine ∧ n = y.size := e
    subst e'
    exact PySem.W.len_bytes (by omega) ⟨.int _, H, I.tok _, ⟨_, rfl⟩, q⟩
  | ref p =>
    cases rx
    have e' : (∃ xs, SqL X.K H p xs ∧ n = xs.length) ∨ ∃ xs, SqT X.K H p xs ∧ n = xs.length := e
    rcases e' with ⟨xs, hx, e'⟩ | ⟨xs, hx, e'⟩
    · subst e'
      obtain ⟨its, r', pl, hz⟩ := I.list hx
      have hlen := r'.length
      exact Calls.call_len_list pl.isList (by simp only [List.size_toArray]; omega) ⟨.int xs.length, H, I.tok _, ⟨_, by simp only [List.size_toArray]; rw [hlen]⟩, q⟩
    · subst e'
      obtain ⟨its, r', pl, hz⟩ := I.tuple hx
      have hlen := r'.length
      exact len_tuple pl (by simp only [List.size_toArray]; omega) ⟨.int xs.length, H, I.tok _, ⟨_, by simp only [List.size_toArray]; rw [hlen]⟩, q⟩
  | _ => exact (show False from e).elim
end
end L2
namespace L2
open PySem PySem.Spec PyProof.Rows
structure ObjM (h : Heap) (x dx C : Addr) (mA : Str → Option Value) : Prop where
  obj : h.get? x = some (PySem.W.instObj C dx)
  ns : h.Ns1 dx mA
  ne : dx ≠ x
theorem lookIn_ns {h : Heap} {dx : Addr} {mA : Str → Option Value} (n : h.Ns1 dx mA) : ∃ od, h.get? dx = some od ∧ ∀ name, PySem.W.lookIn name od = some (mA name) := by
  obtain ⟨o, es, ep, ho, hd, hk, _, hm⟩ := n
  refine ⟨o, ho, fun name => ?_⟩
  have e := hm name
  unfold nsFind findBy at e
  rw [← Array.find?_toList] at e
  unfold PySem.W.lookIn
  rw [hd]
  dsimp only
  split
  · rename_i y q
    rw [q] at e
    exact congrArg some e
  · rename_i q
    rw [q] at e
    have a : es.toList.any (·.refKey) = false := by
      rw [List.any_eq_false]
      intro y hy
      obtain ⟨z, t, hkey⟩ := hk y (Array.mem_toList_iff.mp hy)
      simp [DictEntry.refKey, hkey]
    have a' : ¬ es.toList.any (·.refKey) = true := by rw [a]; exact Bool.false_ne_true
    rw [if_neg a']
    exact congrArg some e
theorem ObjM.look {h : Heap} {x dx C : Addr} {mA : Str → Option Value} (I : ObjM h x dx C mA) : ∃ od, PySem.W.InstAt h x (PySem.W.instObj C dx) C (some od) ∧ ∀ name, PySem.W.lookIn name od = some (mA name) :=
  let ⟨od, ho, hl⟩ := lookIn_ns I.ns
  ⟨od, ⟨I.obj, rfl, rfl, ho⟩, hl⟩
section
variable {prog : Program} {w : World} {A : Around} {E : Value → Shared → Prop} {s : Shared} {K : PySem.W.Frag} {x dx C f : Addr} {mA : Str → Option Value} {name : Str} {v : Value}
end
theorem RelO.some_of {v : V} {o : Option Value} (r : RelO (some v) o) : ∃ u, o = some u ∧ RelV v u := by
  cases o with
  | none => exact (show False from r).elim
  | some u => exact ⟨u, rfl, r⟩
section
variable {P : Program} {w : World} {H H' : Hp} {h h' : Heap} {a C dx : Addr} {fs fs' : List (Str × V)}
theorem ins_get (hok : HOk P w H h) (e : H a = some (.ins C dx fs)) : ∃ mA, ObjM h a dx C mA ∧ (∀ f, RelO (fs.lookup f) (mA f)) ∧ PySem.Within mA (fs.map (·.1)) ∧ fs.length ≤ 1000 ∧ H dx = some (.own a) := by
  obtain ⟨d, z, ne, ob, mA, n, r, q⟩ := (show ObjOk P w H h a (.ins C dx fs) from hok a _ e)
  exact ⟨mA, ⟨ob, n, ne⟩, r, q, z, d⟩
end
structure Cls (K : PySem.W.Frag) (C : Addr) : Prop where
  pg : PySem.W.plainGet K C Str.empty = true
  hd : PySem.W.hasDictIn K C = true
  po : PySem.W.plainOver K C = true
  sa : PySem.W.findIn K (.ref C) "__setattr__" = some (some (.builtin "object.__setattr__"))
theorem Cls.get {K : PySem.W.Frag} {C : Addr} (c : Cls K C) (f : Str) : PySem.W.plainGet K C f = true := c.pg
structure Con (K : PySem.W.Frag) (C : Addr) (f : Str) (v : V) (u : Value) : Prop where
  at_ : PySem.W.findIn K (.ref C) f = some (some u)
  rel : RelV v u
  get : PySem.W.specialIn K u "__get__" = some none
  cp : PySem.W.copiedNames.contains f = false
structure Meth (K : PySem.W.Frag) (C : Addr) (m : Str) (f : Addr) : Prop where
  at_ : PySem.W.findIn K (.ref C) m = some (some (.ref f))
  fn : PySem.W.isFn K (.ref f) = true
  kp : PySem.W.keepIn K (.ref f) = true
section
variable {X : Cx} {pins : List (Addr × Obj)} {σ : St} {H : Hp} {s : Shared} {a C dx : Addr} {fs : List (Str × V)} {f : Str} {v : V} {A : Around} {E : Value → Shared → Prop}
theorem Inv.made (I : Inv X pins σ H s) : Inv X pins σ (upd (upd H s.heap.objs.size (.own (s.heap.objs.size + 1))) (s.heap.objs.size + 1) (.ins C s.heap.objs.size []))
    { s with heap := (s.heap.push PySem.W.emptyDict).push (PySem.W.instObj C s.heap.objs.size) } := by
  have e1 : (s.heap.push PySem.W.emptyDict).get? s.heap.objs.size = some PySem.W.emptyDict := Heap.get?_push_size s.heap rfl
  have e2 : ((s.heap.push PySem.W.emptyDict).push (PySem.W.instObj C s.heap.objs.size)).get? (s.heap.objs.size + 1) = some (PySem.W.instObj C s.heap.objs.size) := by
    have := Heap.get?_push_size (s.heap.push PySem.W.emptyDict) (o := PySem.W.instObj C s.heap.objs.size) rfl
    rwa [Heap.size_push] at this
  have e3 : (s.heap.push PySem.W.emptyDict).Ns s.heap.objs.size (fun _ => none) := ⟨PySem.W.emptyDict, #[], _, e1, rfl, (fun e he => absurd he (by simp)), fun _ => rfl⟩
  have I1 := I.laid (a := s.heap.objs.size) (o := .own (s.heap.objs.size + 1)) (h' := s.heap.push PySem.W.emptyDict) (t' := s.toks) (fun b u q => Heap.get?_push_of_some _ q) (Nat.le_refl _) ⟨_, e1⟩
  refine I1.laid (a := s.heap.objs.size + 1) (o := .ins C s.heap.objs.size []) (t' := s.toks) (fun b u q => Heap.get?_push_of_some _ q) (Nat.le_of_eq (Heap.size_push _ _)) ?_
  have ne : s.heap.objs.size ≠ s.heap.objs.size + 1 := Nat.ne_of_lt (Nat.lt_succ_self _)
  refine ⟨by rw [upd_ne ne, upd_same], Nat.zero_le _, ne, e2, fun _ => none, (Heap.Ns1.of_empty e3).at fun o q => Heap.get?_push_of_some _ q, fun _ => True.intro, fun y hy => absurd rfl hy⟩
end
section
variable {X : Cx} {o e value : Expr} {f : Str} {pos pos' tpos : Pos} {ta tv : TE}
end
section
variable {X : Cx} {pins : List (Addr × Obj)} {σ : St} {H : Hp} {s : Shared} {A : Around} {E : Value → Shared → Prop} {Q : Value → Shared → Prop} {c : Value} {b : Bool}
inductive TyOf (K : PySem.W.Frag) (H : Hp) : V → Value → Prop where
  | non : TyOf K H .non (.type "NoneType")
  | bl (x : Bool) : TyOf K H (.bl x) (.type "bool")
  | int (i : Int) : TyOf K H (.int i) (.type "int")
  | str (x : Str) : TyOf K H (.str x) (.type "str")
  | flt (x : UInt64) : TyOf K H (.flt x) (.type "float")
  | lst {a : Addr} {xs : List V} (e : H a = some (.lst xs)) : TyOf K H (.ref a) (.type "list")
  | frz {a : Addr} {o : Obj} {xs : List V} (e : H a = some (.frz o (.lst xs))) : TyOf K H (.ref a) (.type "list")
  | tup {a : Addr} {xs : List V} (e : H a = some (.tup xs)) : TyOf K H (.ref a) (.type "tuple")
  | dK {a : Addr} {kvs : List (Key × V)} (e : H a = some (.dK kvs)) : TyOf K H (.ref a) (.type "dict")
  | dT {a : Addr} {kvs : List (List Key × V)} (e : H a = some (.dT kvs)) : TyOf K H (.ref a) (.type "dict")
  | ins {a C dx : Addr} {fs : List (Str × V)} (e : H a = some (.ins C dx fs)) (cl : Cls K C) (ha : PySem.W.findIn K (.ref C) "__class__" = some (some (.builtin "object.__class__")))
      (hn : PySem.W.specialIn K (.builtin "object.__class__") "__get__" = some (some (.builtin "getset_descriptor.__get__"))) (htk : PySem.W.takesIn K (.builtin "object.__class__") = some true)
      (hm : PySem.W.mroIn K C (.type "object") = some true) : TyOf K H (.ref a) (.ref C)
theorem isinst_ok {x : V} {u t : Value} (I : Inv X pins σ H s) (rx : RelV x u) (ty : TyOf X.K H x t) (e : PySem.W.kitOne X.K t c = some b) (h : ∀ tk, Q (.bool b) { s with toks := tk }) :
    wpAny (model X.prog X.w) A (call (.builtin "isinstance") [u, c]) Q E s := by
  cases ty with
  | non => cases (show u = Value.none from rx); exact PySem.W.kia_one PySem.W.kitx_none I.kIn True.intro e (fun z => nomatch z) h
  | bl y => cases (show u = Value.bool y from rx); exact PySem.W.kia_one PySem.W.kitx_bool I.kIn True.intro e (fun z => nomatch z) h
  | int i => obtain ⟨t, q⟩ := (show ∃ t, u = Value.int i t from rx); cases q; exact PySem.W.kia_one PySem.W.kitx_int I.kIn True.intro e (fun z => nomatch z) h
  | str y => obtain ⟨t, q⟩ := (show ∃ t, u = Value.str y t from rx); cases q; exact PySem.W.kia_one PySem.W.kitx_str I.kIn True.intro e (fun z => nomatch z) h
  | flt y => obtain ⟨t, q⟩ := (show ∃ t, u = Value.float y t from rx); cases q; exact PySem.W.kia_one PySem.W.kitx_float I.kIn True.intro e (fun z => nomatch z) h
  | @lst a xs ea =>
    cases (show u = Value.ref a from rx)
    obtain ⟨_, _, n, _, h1⟩ := (show ObjOk X.prog X.w H s.heap a (.lst xs) from I.hok a _ ea)
    exact PySem.W.kia_one PySem.W.kitx_list I.kIn ⟨_, h1, rfl⟩ e (fun z => nomatch z) h
  | @frz a ob xs ea =>
    cases (show u = Value.ref a from rx)
    obtain ⟨_, _, _, n, _, h1⟩ := (show ObjOk X.prog X.w H s.heap a (.frz ob (.lst xs)) from I.hok a _ ea)
    exact PySem.W.kia_one PySem.W.kitx_list I.kIn ⟨_, h1, rfl⟩ e (fun z => nomatch z) h
  | @tup a xs ea =>
    cases (show u = Value.ref a from rx)
    obtain ⟨_, _, _, p⟩ := (show ObjOk X.prog X.w H s.heap a (.tup xs) from I.hok a _ ea)
    obtain ⟨o, h1, h2, _⟩ := p
    exact PySem.W.kia_one PySem.W.kitx_tuple I.kIn ⟨o, h1, h2⟩ e (fun z => nomatch z) h
  | @dK a kvs ea =>
    cases (show u = Value.ref a from rx)
    obtain ⟨_, _, vs, _, p⟩ := (show ObjOk X.prog X.w H s.heap a (.dK kvs) from I.hok a _ ea)
    obtain ⟨o, es, ep, h1, h2, _⟩ := p
    exact PySem.W.kia_one PySem.W.kitx_dict I.kIn ⟨o, h1, h2.1⟩ e (fun z => nomatch z) h
  | @dT a kvs ea =>
    cases (show u = Value.ref a from rx)
    obtain ⟨_, _, xs, _, o, es, ep, h1, h2, _⟩ := (show ObjOk X.prog X.w H s.heap a (.dT kvs) from I.hok a _ ea)
    exact PySem.W.kia_one PySem.W.kitx_dict I.kIn ⟨o, h1, h2.1⟩ e (fun z => nomatch z) h
  | @ins a C dx fs ea cl ha hn htk hm =>
    cases (show u = Value.ref a from rx)
    obtain ⟨mA, O, _⟩ := ins_get I.hok ea
    obtain ⟨od, J, _⟩ := O.look
    exact PySem.W.kia_one (PySem.W.kitx_own (cl.get _) cl.hd ha hn htk hm) I.kIn J e (fun z => nomatch z) h
end
end L2
namespace L2
open PySem PySem.Spec PyProof.Rows
structure Room (k : Nat) (A : Around) : Prop where
  hd : A.handled = none
  dp : A.depth + 3 * k + 5 < recursionLimit
  un : A.units + 16 * k + 200 < cLine
theorem Room.mono {j k : Nat} {A : Around} (r : Room k A) (h : j ≤ k) : Room j A := ⟨r.hd, by have := r.dp; omega, by have := r.un; omega⟩
theorem Room.deeper {k : Nat} {A : Around} (r : Room (k + 1) A) (env : Env) : Room k (A.deeper env) :=
  ⟨r.hd, by have := r.dp; show A.depth + 1 + 3 * k + 5 < _; omega, by have := r.un; show A.units + 3 + 16 * k + 200 < _; omega⟩
theorem Room.in1 {k : Nat} {A : Around} (r : Room (k + 1) A) : Room k A.in1 :=
  ⟨r.hd, by have := r.dp; show A.depth + 3 * k + 5 < _; omega, by have := r.un; show A.units + 1 + 16 * k + 200 < _; omega⟩
theorem Room.depth {k : Nat} {A : Around} (r : Room k A) : A.depth < recursionLimit := by have := r.dp; omega
theorem Room.units {k : Nat} {A : Around} (r : Room k A) : A.units + 64 < cLine := by have := r.un; omega
def tNil : TA := fun _ H Q => Q [] H
def tCons (ta : TE) (tr : TA) : TA := fun σ H Q => ta σ H fun x H1 => tr σ H1 fun xs H2 => Q (x :: xs) H2
section
variable {X : Cx} {e : Expr} {es : List Expr} {te : TE} {t : TA} {pos : Pos}
theorem pa_nil : PA X [] tNil := fun _ _ _ _ H Q I h => Calls.spliced_nil ⟨[], H, I, .nil, h⟩
theorem pa_cons (ha : PE X e te) (hr : PA X es t) (hs : starEach (e :: es) X.env = (false, eval e X.env) :: starEach es X.env := by rfl) : PA X (e :: es) (tCons te t) := by
  intro pos pins s σ H Q I h
  rw [hs]
  show wpAny _ _ (spliced ((false, eval e X.env) :: backTo pos (starEach es X.env))) _ _ s
  refine Calls.spliced_cons (thn (ha pins s σ H _ I h) fun u s1 ⟨x, H1, I1, r1, q1⟩ => ?_)
  exact thn (hr pos pins s1 σ H1 _ I1 q1) fun us s2 ⟨xs, H2, I2, r2, q2⟩ => ⟨x :: xs, H2, I2, .cons r1 r2, q2⟩
def tTup (t : TA) : TE := fun σ H Q => t σ H fun xs H1 => xs.length ≤ sizeLine ∧ ∀ p, H1 p = none → Q (.ref p) (upd H1 p (.tup xs))
def tLst (t : TA) : TE := fun σ H Q => t σ H fun xs H1 => xs.length ≤ sizeLine ∧ ∀ p, H1 p = none → Q (.ref p) (upd H1 p (.lst xs))
theorem pe_tup {x1} (h : PA X es t) : PE X (.Tuple es x1 pos) (tTup t) := by
  intro pins s σ H Q I hq
  refine wpAny_Tuple_spliced (thn (h pos pins s σ H _ I hq) fun us s1 ⟨xs, H1, I1, r, z, q⟩ => ⟨by rw [← r.length]; exact z, ?_⟩)
  have hf : H1 s1.heap.objs.size = none := I1.hok.fresh (Nat.le_refl _)
  refine ⟨.ref s1.heap.objs.size, upd H1 s1.heap.objs.size (.tup xs), I1.laid (t' := s1.toks) (fun b u e => Heap.get?_push_of_some _ e) (Nat.le_refl _) ?_, rfl, q _ hf⟩
  exact ⟨z, us, r, ⟨_, Heap.get?_push_size _ rfl, rfl, _, rfl⟩⟩
theorem pe_lst (h : PA X es t) : PE X (.List es pos) (tLst t) := by
  intro pins s σ H Q I hq
  refine wpAny_List_spliced (thn (h pos pins s σ H _ I hq) fun us s1 ⟨xs, H1, I1, r, z, q⟩ => ⟨by rw [← r.length]; exact z, ?_⟩)
  have hf : H1 s1.heap.objs.size = none := I1.hok.fresh (Nat.le_refl _)
  refine ⟨.ref s1.heap.objs.size, upd H1 s1.heap.objs.size (.lst xs), I1.laid (t' := s1.toks) (fun b u e => Heap.get?_push_of_some _ e) (Nat.le_refl _) ?_, rfl, q _ hf⟩
  exact ⟨z, us, 0, r, Heap.get?_push_size _ rfl⟩
end
abbrev Sp := List V → Hp → VK → XK → Prop
abbrev CXT := List Env → Hp → Shared → XK → Value → Shared → Prop
structure Env0 (P : Program) (w : World) (K : PySem.W.Frag) (mg : Str → Option Value) (base : Heap) (A : Around) (outer : List Env) (s : Shared) (H : Hp) : Prop where
  frames : A.frames = some outer
  mod : Mod K mg base
  bs : ∀ b o, base.get? b = some o → s.heap.get? b = some o ∧ H b = none
  bsz : base.objs.size ≤ s.heap.objs.size
  funs : s.heap.FunFrames base outer
  frf : ∀ b ∈ frs outer, H b = none
  hok : HOk P w H s.heap
  bare : AllBare s.gens
def CE (outer : List Env) (P : Program) (w : World) (H : Hp) (s : Shared) (Q : VK) (u : Value) (s' : Shared) : Prop :=
  ∃ v H', s'.os = s.os ∧ AllBare s'.gens ∧ Un (frs outer) [] H H' s.heap s'.heap ∧ HOk P w H' s'.heap ∧ RelV v u ∧ Q v H'
def CR (CX : CXT) (outer : List Env) (P : Program) (w : World) (H : Hp) (s : Shared) (Q : VK) (E : XK) (r : Result) (s' : Shared) : Prop :=
  match r with
  | .ok (.ret u) => CE outer P w H s Q u s'
  | .ok _ => False
  | .error e => CX outer H s E e s'
structure FnOk (P : Program) (w : World) (K : PySem.W.Frag) (mg : Str → Option Value) (base : Heap) (CX : CXT) (k : Nat) (f : Addr) (fd : FuncData) (ps : List Str) (sp : Sp) : Prop where
  len : ∀ vs H Q E, sp vs H Q E → vs.length = ps.length
  run : ∀ (A : Around) (outer : List Env) (s : Shared) (H : Hp) (args : Args) (us : List Value) (vs : List V) (Q : VK) (E : XK), Room k A → Env0 P w K mg base A outer s H → BindsTo s fd args (ps.zip us) → Vals vs us → sp vs H Q E →
    codeAny (model P w) A (.call (.ref f) args) (CR CX outer P w H s Q E) s
theorem FnOk.mono {P : Program} {w : World} {K : PySem.W.Frag} {mg : Str → Option Value} {base : Heap} {CX : CXT} {j k : Nat} {f : Addr} {fd : FuncData} {ps : List Str} {sp : Sp} (F : FnOk P w K mg base CX j f fd ps sp) (h : j ≤ k) :
    FnOk P w K mg base CX k f fd ps sp := ⟨F.len, fun A outer s H args us vs Q E hr => F.run A outer s H args us vs Q E (hr.mono h)⟩
theorem FnOk.imp {P : Program} {w : World} {K : PySem.W.Frag} {mg : Str → Option Value} {base : Heap} {CX : CXT} {k : Nat} {f : Addr} {fd : FuncData} {ps : List Str} {sp sp' : Sp} (F : FnOk P w K mg base CX k f fd ps sp)
    (h : ∀ vs H Q E, sp' vs H Q E → sp vs H Q E) : FnOk P w K mg base CX k f fd ps sp' :=
  ⟨fun vs H Q E q => F.len vs H Q E (h _ _ _ _ q), fun A outer s H args us vs Q E hr he hb hv hs => F.run A outer s H args us vs Q E hr he hb hv (h _ _ _ _ hs)⟩
theorem Env0.in1 {P : Program} {w : World} {K : PySem.W.Frag} {mg : Str → Option Value} {base : Heap} {A : Around} {outer : List Env} {s : Shared} {H : Hp} (e : Env0 P w K mg base A outer s H) :
    Env0 P w K mg base A.in1 outer s H := ⟨e.frames, e.mod, e.bs, e.bsz, e.funs, e.frf, e.hok, e.bare⟩
section
variable {X : Cx} {pins : List (Addr × Obj)} {σ : St} {H : Hp} {s s' : Shared}
theorem Inv.env0 (I : Inv X pins σ H s) : Env0 X.prog X.w X.K X.mg X.base X.A X.stack s H :=
  ⟨I.ok.frames, I.ok.mod, I.bs, Nat.le_trans I.ok.bsz I.sz, I.stack, I.stkFree, I.hok, I.bare⟩
theorem Inv.after {Q : VK} {u : Value} (I : Inv X pins σ H s) (h : CE X.stack X.prog X.w H s Q u s') : EP X pins σ Q u s' := by
  obtain ⟨v, H', os, bare, un, hok, r, q⟩ := h
  obtain ⟨hh, g, d, t, os'⟩ := s'
  obtain rfl : os' = s.os := os
  exact ⟨v, H', I.call (h' := hh) (g' := g) (d' := d) (t' := t) (ch := []) un hok bare (fun b z => absurd z (by simp)), r, q⟩
end
def tCall (sp : Sp) (dvs : List V) (E : XK) (t : TA) : TE := fun σ H Q => t σ H fun vs H1 => sp (vs ++ dvs) H1 Q E
def Binds (K : PySem.W.Frag) (fd : FuncData) (ps : List Str) (ds : List Value) : Prop :=
  ∀ (s : Shared) (us : List Value), K.In s.heap → (us ++ ds).length = ps.length → BindsTo s fd ⟨us, []⟩ (ps.zip (us ++ ds))
theorem Binds.all {K : PySem.W.Frag} {fd : FuncData} {ps : List Str} (h : ∀ us : List Value, us.length = ps.length → bindArgs fd ⟨us, []⟩ = pure (ps.zip us)) : Binds K fd ps [] := fun s us _ hl => by
  rw [List.append_nil] at hl ⊢
  exact .of_eq (h us hl)
def Passes (CX : CXT) (X : Cx) (E : XK) : Prop := ∀ (pins : List (Addr × Obj)) (σ : St) (H : Hp) (s : Shared) (e : Value) (s' : Shared), Inv X pins σ H s → CX X.stack H s E e s' → X.xe e s'
section
variable {X : Cx} {CX : CXT} {k : Nat} {f C : Addr} {fd : FuncData} {ps : List Str} {sp : Sp} {dvs : List V} {ds : List Value} {E : XK} {x m : Str} {p pos apos : Pos} {e o : Expr} {es : List Expr} {ta : TE} {t : TA}
theorem run_fn {pins : List (Addr × Obj)} {σ : St} {H : Hp} {s : Shared} {Q : VK} {us : List Value} {vs : List V} (F : FnOk X.prog X.w X.K X.mg X.base CX k f fd ps sp) (hr : Room k X.A) (hb : Binds X.K fd ps ds) (hd : Vals dvs ds) (hx : Passes CX X E)
    (I : Inv X pins σ H s) (r : Vals vs us) (h : sp (vs ++ dvs) H Q E) : wpAny (model X.prog X.w) X.A (call (.ref f) us) (EP X pins σ Q) X.xe s := by
  have r2 : Vals (vs ++ dvs) (us ++ ds) := r.append hd
  have hl : (us ++ ds).length = ps.length := by rw [← r2.length]; exact F.len _ _ _ _ h
  refine wpAny_call (codeAny_mono (F.run X.A X.stack s H ⟨us, []⟩ (us ++ ds) (vs ++ dvs) Q E hr I.env0 (hb s us I.kIn hl) r2 h) fun r s' hq => ?_)
  cases r with
  | error e => exact hx pins σ H s e s' I hq
  | ok fl =>
    cases fl with
    | ret u => exact I.after hq
    | next => exact False.elim hq
    | brk => exact False.elim hq
    | cont => exact False.elim hq
theorem pe_call (F : FnOk X.prog X.w X.K X.mg X.base CX k f fd ps sp) (hr : Room k X.A) (hg : Gl X x) (hm : X.mg x = some (.ref f)) (hk : PySem.W.keepIn X.K (.ref f) = true) (hb : Binds X.K fd ps ds) (hd : Vals dvs ds) (hx : Passes CX X E)
    (ha : PA X (e :: es) t) (hdb : (x == ("__debug__" : Str)) = false := by decide) (he : starEach (e :: es) X.env = (false, eval e X.env) :: starEach es X.env := by rfl) (hpl : (backTo pos (starEach es X.env)).any (·.1) = false := by rfl) :
    PE X (.Call (.Name x p) (e :: es) [] pos) (tCall sp dvs E t) := by
  intro pins s σ H Q I h
  refine wpAny_Call_Name_kw (ld_glob I hg hm ?_ hdb)
  refine PySem.W.callWith_K (h₀ := X.base) I.ok.mod.kin hk (thn (ha pos pins s σ H _ I h) fun us s1 ⟨vs, H1, I1, r, q⟩ => ⟨I1.kIn, ?_⟩) he hpl
  exact run_fn F hr hb hd hx I1 r q
structure Mk (K : PySem.W.Frag) (C f : Addr) : Prop where
  makes : PySem.W.makesIn K C = true
  init : PySem.W.findIn K (.ref C) "__init__" = some (some (.ref f))
  fn : PySem.W.isFn K (.ref f) = true
  kp : PySem.W.keepIn K (.ref C) = true
end
section
variable {X : Cx} {CX : CXT} {k : Nat} {f C : Addr} {fd : FuncData} {ps ks : List Str} {sp : Sp} {E : XK} {x m : Str} {p pos apos kpos : Pos} {e o : Expr} {es : List Expr} {kws : List Keyword} {te ta : TE} {t tk : TA} {nm : Option Str}
structure KBinds (K : PySem.W.Frag) (fd : FuncData) (ps ks : List Str) (g : List Value → List Value → List Value) (gV : List V → List V → List V) : Prop where
  to : ∀ (s : Shared) (us ws : List Value), K.In s.heap → (g us ws).length = ps.length → BindsTo s fd ⟨us, ks.zip ws⟩ (ps.zip (g us ws))
  rel : ∀ {vs : List V} {us : List Value} {zs : List V} {ws : List Value}, Vals vs us → Vals zs ws → Vals (gV vs zs) (g us ws)
variable {g : List Value → List Value → List Value} {gV : List V → List V → List V}
end
structure FnScope (N P : List Str) (sc : Scope) : Prop where
  kind : sc.kind = .function
  co : sc.isCoroutine = false
  gen : sc.isGenerator = false
  nd : N.Nodup
  pre : N.take P.length = P
  par : ∀ x ∈ P, sc.names.lookup x = some .local ∨ sc.names.lookup x = some .cell
  nofree : ∀ y ∈ sc.names, y.2 ≠ .free
theorem bindL_out {kindOf : Str → Option NameKind} {x : Str} : ∀ {binds : List (Str × Value)} {m : Str → Option Value}, (∀ v, (x, v) ∉ binds) → bindL kindOf binds m x = m x
  | [], _, _ => rfl
  | (n, v) :: r, m, h => by
    unfold bindL
    rw [bindL_out fun w hw => h w (List.mem_cons_of_mem _ hw)]
    split
    · have : x ≠ n := by rintro rfl; exact h v List.mem_cons_self
      simp [this]
    · rfl
theorem bindC_out {kindOf : Str → Option NameKind} {x : Str} : ∀ {binds : List (Str × Value)} {m : Str → Option Value}, (∀ v, (x, v) ∉ binds) → bindC kindOf binds m x = m x
  | [], _, _ => rfl
  | (n, v) :: r, m, h => by
    unfold bindC
    rw [bindC_out fun w hw => h w (List.mem_cons_of_mem _ hw)]
    split
    · rfl
    · have : x ≠ n := by rintro rfl; exact h v List.mem_cons_self
      simp [this]
theorem bindL_get {kindOf : Str → Option NameKind} {x : Str} {v : Value} : ∀ {P : List Str} {vs : List Value} {i : Nat} {m : Str → Option Value}, P.Nodup → P[i]? = some x → vs[i]? = some v → kindOf x = some .local →
    bindL kindOf (P.zip vs) m x = some v
  | [], _, _, _, _, h, _, _ => by simp at h
  | _ :: _, [], _, _, _, _, h, _ => by simp at h
  | p :: P, w :: vs, 0, m, nd, h1, h2, hk => by
    simp at h1 h2; subst h1; subst h2
    show bindL kindOf ((p, w) :: P.zip vs) m p = _
    unfold bindL
    rw [bindL_out fun v hv => (List.nodup_cons.mp nd).1 (List.of_mem_zip hv).1, if_pos hk]
    simp
  | p :: P, w :: vs, i + 1, m, nd, h1, h2, hk => by
    show bindL kindOf ((p, w) :: P.zip vs) m x = _
    unfold bindL
    exact bindL_get (i := i) (List.nodup_cons.mp nd).2 (by simpa using h1) (by simpa using h2) hk
theorem bindC_get {kindOf : Str → Option NameKind} {x : Str} {v : Value} : ∀ {P : List Str} {vs : List Value} {i : Nat} {m : Str → Option Value}, P.Nodup → P[i]? = some x → vs[i]? = some v → kindOf x ≠ some .local →
    bindC kindOf (P.zip vs) m x = some v
  | [], _, _, _, _, h, _, _ => by simp at h
  | _ :: _, [], _, _, _, _, h, _ => by simp at h
  | p :: P, w :: vs, 0, m, nd, h1, h2, hk => by
    simp at h1 h2; subst h1; subst h2
    show bindC kindOf ((p, w) :: P.zip vs) m p = _
    unfold bindC
    rw [bindC_out fun v hv => (List.nodup_cons.mp nd).1 (List.of_mem_zip hv).1, if_neg hk]
    simp
  | p :: P, w :: vs, i + 1, m, nd, h1, h2, hk => by
    show bindC kindOf ((p, w) :: P.zip vs) m x = _
    unfold bindC
    exact bindC_get (i := i) (List.nodup_cons.mp nd).2 (by simpa using h1) (by simpa using h2) hk
def start (N : List Str) (vs : List V) : St := vs.map some ++ List.replicate (N.length - vs.length) none
def cxOf (CX : CXT) (P : Program) (w : World) (K : PySem.W.Frag) (mg : Str → Option Value) (base : Heap) (N : List Str) (qual : Str) (scope : Scope) (f : Addr) (cd : Value) (A : Around) (outer : List Env) (s : Shared) (H : Hp) (E : XK) : Cx where
  prog := P
  w := w
  K := K
  mg := mg
  base := base
  A := A.deeper (envOfC qual scope s.heap.objs.size f cd)
  N := N
  s₀ := s
  H₀ := H
  env := envOfC qual scope s.heap.objs.size f cd
  outer := outer
  stack := envOfC qual scope s.heap.objs.size f cd :: outer
  ex := []
  calm := true
  fn := fun _ => true
  pn := []
  xe := fun e s' => wpAny (model P w) (A.deeper (envOfC qual scope s.heap.objs.size f cd)) (leaving (envOfC qual scope s.heap.objs.size f cd) e) (fun _ s'' => CX outer H s E e s'') (fun e' s'' => CX outer H s E e' s'') s'
theorem cell_has {sc : Scope} {n : Nat} {x : Str} (h : sc.names.lookup x = some .cell) : ∃ c, (cellsFrom n sc.names []).lookup x = some c := by
  have q := PySem.W.cellsFrom_some sc.names n [] (.inl h)
  exact Option.isSome_iff_exists.mp q
theorem inv_start {CX : CXT} {P : Program} {w : World} {K : PySem.W.Frag} {mg : Str → Option Value} {base : Heap} {N ps : List Str} {qual : Str} {scope : Scope} {f : Addr} {cd : Value} {A : Around} {outer : List Env} {s s1 : Shared} {H : Hp} {E : XK} {us : List Value} {vs : List V}
    (S : FnScope N ps scope) (hd : A.handled = none) (e0 : Env0 P w K mg base A outer s H) (hl : vs.length = ps.length) (r : Vals vs us)
    (x : InCallC s s.heap.objs.size (bindL (envOfC qual scope s.heap.objs.size f cd).kindOf (ps.zip us) fun _ => none) (cellsFrom (s.heap.objs.size + 1) scope.names []) (bindC (envOfC qual scope s.heap.objs.size f cd).kindOf (ps.zip us) fun _ => none) s1) :
    Inv (cxOf CX P w K mg base N qual scope f cd A outer s H E) [] (start N vs) H s1 := by
  have hpl : ps.length ≤ N.length := by have := congrArg List.length S.pre; rw [List.length_take] at this; omega
  obtain ⟨h1, tk, rfl, hk⟩ := x.done
  have noA : ∀ b : Addr, b ∉ (cxOf CX P w K mg base N qual scope f cd A outer s H E).ex := fun b z => absurd (show b ∈ ([] : List Addr) from z) (by simp)
  refine ⟨⟨e0.mod, S.kind, rfl, rfl, Nat.le_refl _, fun y z c h1 h2 => ?_, fun y hy => ?_, fun y c _ h => ?_, fun _ => hd, Around.frames_deeper e0.frames, .inr ⟨rfl, rfl⟩, fun b z => absurd z (noA b), e0.bs, e0.bsz, fun b _ _ => noA b, fun b z => absurd z (noA b), e0.funs, e0.frf⟩,
    rfl, e0.bare, Un.kept hk, ⟨_, x.toInCall.ns, fun i y v h1 h2 h3 => ?_⟩, fun y c h => ⟨_, x.cell y c h⟩, e0.hok.fresh (Nat.le_refl _), fun y c h => ?_, fun p hp => absurd (show p ∈ ([] : List (Addr × Obj)) from hp) (by simp), e0.hok.kept hk, ?_⟩
  · exact name_of_addr x.apart (PySem.mem_of_lookup h1) (PySem.mem_of_lookup h2)
  · have hy : scope.names.lookup y = some .cell ∨ scope.names.lookup y = some .free := hy
    rcases hy with hy | hy
    · exact cell_has hy
    · exact absurd rfl (S.nofree _ (PySem.mem_of_lookup hy))
  · exact Nat.le_of_lt (x.above y c (PySem.mem_of_lookup h))
  · have hi : i < vs.length := by
      unfold start at h2
      by_cases hi : i < vs.length
      · exact hi
      · rw [List.getElem?_append_right (by simpa using hi)] at h2
        rw [List.getElem?_replicate] at h2
        split at h2 <;> cases h2
    have ha : vs[i]? = some v := by
      unfold start at h2
      rw [List.getElem?_append_left (by simpa using hi), List.getElem?_map] at h2
      cases e : vs[i]? with
      | none => rw [e] at h2; cases h2
      | some a => rw [e] at h2; cases h2; rfl
    obtain ⟨u, hu, rv⟩ := r.get ha
    have hp : ps[i]? = some y := by
      rw [← S.pre, List.getElem?_take_of_lt (by omega)]; exact h1
    have ndP : ps.Nodup := by rw [← S.pre]; exact S.nd.sublist (List.take_sublist _ _)
    refine ⟨u, rv, ?_⟩
    rcases S.par y (List.mem_of_getElem? hp) with k | k
    · exact .inl ⟨k, bindL_get ndP hp hu k⟩
    · obtain ⟨c, e⟩ := cell_has (n := s.heap.objs.size + 1) k
      refine .inr ⟨.inl k, c, e, ?_⟩
      have q := x.cell y c e
      rw [bindC_get ndP hp hu (by show scope.names.lookup y ≠ _; rw [k]; decide)] at q
      exact q
  · exact e0.hok.fresh (Nat.le_of_lt (x.above y c (PySem.mem_of_lookup h)))
  · unfold start
    show _ = N.length
    rw [List.length_append, List.length_map, List.length_replicate]
    omega
theorem fn_of {CX : CXT} {P : Program} {w : World} {K : PySem.W.Frag} {mg : Str → Option Value} {base : Heap} {k : Nat} {f : Addr} {name qual : Str} {params : Arguments} {body : List Stmt} {scope : Scope} {dV kV doc pm cdv ct oc : Value} {an od : Option Addr}
    {osl : Array (Option Value)} {N ps : List Str} {sp : Sp} (lk : K.lookup f = some ⟨oc, od, .func (PySem.W.fnOf name qual params body scope dV kV doc pm an cdv ct), osl⟩) (hcd : PySem.W.codeIn K cdv qual = true) (S : FnScope N ps scope)
    (len : ∀ vs H Q E, sp vs H Q E → vs.length = ps.length)
    (hbody : ∀ (A : Around) (outer : List Env) (s : Shared) (H : Hp) (vs : List V) (Q : VK) (E : XK), Room k (A.deeper (envOfC qual scope s.heap.objs.size f cdv)) → sp vs H Q E →
      ∃ t, PSs (cxOf CX P w K mg base N qual scope f cdv A outer s H E) body t ∧ t { nx := fun _ H' => Q .non H', rt := Q } (start N vs) H) :
    FnOk P w K mg base CX (k + 1) f (PySem.W.fnOf name qual params body scope dV kV doc pm an cdv ct) ps sp := by
  refine ⟨len, fun A outer s H args us vs Q E hr e0 hb r hsp => ?_⟩
  have hl := len _ _ _ _ hsp
  have KX : K.In s.heap := e0.mod.kin.keeps fun b o e => (e0.bs b o e).1
  have lim : s.heap.NoLimit := e0.mod.nolimit.keeps fun b o e => (e0.bs b o e).1
  have hkind : ∀ y ∈ ps.zip us, scope.names.lookup y.1 = some .local ∨ (scope.names.lookup y.1 = some .cell ∧ ((cellsFrom (s.heap.objs.size + 1) scope.names []).lookup y.1).isSome = true) := fun ⟨n, v⟩ hy => by
    rcases S.par n (List.of_mem_zip hy).1 with q | q
    · exact .inl q
    · exact .inr ⟨q, PySem.W.cellsFrom_some _ _ _ (.inl q)⟩
  refine codeAny_call_function hr.depth (KX _ _ lk) rfl S.co S.gen rfl (PySem.W.codeRec_of KX hcd) (hb _ _ _ _ ?_)
  refine wpAny_newFunctionEnv_cells S.kind hkind fun env he s1 x => ?_
  subst he
  refine ⟨lim.keeps x.toInCall.keep, codeAny_func ?_⟩
  obtain ⟨t, ht, hq⟩ := hbody A outer s H vs Q E (hr.deeper _) hsp
  have I : Inv (cxOf CX P w K mg base N qual scope f cdv A outer s H E) [] (start N vs) H s1 := inv_start S hr.hd e0 hl r x
  refine wpAny_mono (ht [] s1 (start N vs) H _ I hq) (fun fl s' hs => ?_) fun e s' hs => hs
  have fin : ∀ {σ' : St} {H' : Hp} {v : V} {u : Value}, Inv (cxOf CX P w K mg base N qual scope f cdv A outer s H E) [] σ' H' s' → RelV v u → Q v H' → CE outer P w H s Q u s' :=
    fun {σ' H' v u} J rv q => ⟨v, H', J.os, J.bare, J.base, J.hok, rv, q⟩
  cases fl with
  | ret u =>
    obtain ⟨v, σ', H', J, rv, q⟩ := hs
    exact fin J rv q
  | next =>
    obtain ⟨σ', H', J, q⟩ := hs
    exact fin (v := V.non) (u := Value.none) J rfl q
  | brk =>
    obtain ⟨_, _, _, q⟩ := hs
    exact False.elim q
  | cont =>
    obtain ⟨_, _, _, q⟩ := hs
    exact False.elim q
end L2
namespace L2
open PySem PySem.Spec PyProof.Rows
section
variable {X : Cx} {x : Str} {p pos : Pos} {e : Expr} {es : List Expr} {t : TA} {id T : String} {r : List V → Hp → VK → Prop}
def tCB (r : List V → Hp → VK → Prop) (t : TA) : TE := fun σ H Q => t σ H fun vs H1 => r vs H1 Q
theorem pe_callB (hc : CallR X (.builtin id) r) (hg : Gl X x) (hm : X.mg x = none) (hv : bootBuiltins x = some (.builtin id)) (ha : PA X (e :: es) t) (hn : x ≠ "__name__" := by decide) (hdb : (x == ("__debug__" : Str)) = false := by decide)
    (he : starEach (e :: es) X.env = (false, eval e X.env) :: starEach es X.env := by rfl) (hpl : (backTo pos (starEach es X.env)).any (·.1) = false := by rfl) : PE X (.Call (.Name x p) (e :: es) [] pos) (tCB r t) := by
  intro pins s σ H Q I h
  refine wpAny_Call_Name_kw (ld_blt I hg hm hv ?_ hn hdb)
  exact PyProof.Rows.callWith_builtin1 (thn (ha pos pins s σ H _ I h) fun us s1 ⟨vs, H1, I1, r1, q1⟩ => hc pins s1 σ H1 vs us Q I1 r1 q1) he hpl
theorem pe_callTy (hc : CallR X (.type T) r) (hg : Gl X x) (hm : X.mg x = none) (hv : bootBuiltins x = some (.type T)) (ha : PA X (e :: es) t) (hn : x ≠ "__name__" := by decide) (hdb : (x == ("__debug__" : Str)) = false := by decide)
    (he : starEach (e :: es) X.env = (false, eval e X.env) :: starEach es X.env := by rfl) (hpl : (backTo pos (starEach es X.env)).any (·.1) = false := by rfl) : PE X (.Call (.Name x p) (e :: es) [] pos) (tCB r t) := by
  intro pins s σ H Q I h
  refine wpAny_Call_Name_kw (ld_blt I hg hm hv ?_ hn hdb)
  exact PyProof.Rows.callWith_type1 (thn (ha pos pins s σ H _ I h) fun us s1 ⟨vs, H1, I1, r1, q1⟩ => hc pins s1 σ H1 vs us Q I1 r1 q1) he hpl
end
end L2
namespace HT
open PySem PyProof.Rows
section
open PySem.SeqAt
open PySem.AutoSeq1 (wpAny_loadPart')
open PySem.MeetsSeq PySem.MeetsSeq2 PySem.MeetsSeq3
end
section
variable {prog : Program} {w : World} {A : Around} {E : Value → Shared → Prop} {s : Shared}
theorem cat_tup {t b : Addr} {vs ws : List Value} {Q : Value → Shared → Prop} (ht : IsTup s.heap t vs.toArray) (hb : IsTup s.heap b ws.toArray) (hv : vs ≠ [])
    (h1 : ws = [] → Q (.ref t) s) (h2 : ws ≠ [] → Q (.ref s.heap.objs.size) { s with heap := s.heap.push { cls := .type "tuple", data := .seq (vs ++ ws).toArray } })
    (hsz : vs.length + ws.length ≤ sizeLine) : wpAny (model prog w) A (binaryOp .Add (.ref t) (.ref b)) Q E s := by
  obtain ⟨⟨cls, dd, data, sl⟩, ho, hc, n, hd⟩ := id ht
  obtain ⟨⟨cls2, dd2, data2, sl2⟩, ho2, hc2, n2, hd2⟩ := id hb
  simp only at hc hd hc2 hd2
  subst hc hd hc2 hd2
  have e : vs.toArray ++ ws.toArray = (vs ++ ws).toArray := by simp
  by_cases hw : ws = []
  · exact concat_meets ⟨_, ho, rfl⟩ ⟨_, ho2, rfl⟩ noFill_tuple_add seq_tuple_add PySem.F.slot_tuple_add PySem.F.entry_tuple_add (PySem.F.args_tuple_add_2 _ _)
      (tuple_addW1 t b vs.toArray ws.toArray n n2 dd dd2 sl sl2 (by simpa using hv) (by simp [hw])) ⟨ho, ho2, h1 hw⟩
  · refine concat_meets ⟨_, ho, rfl⟩ ⟨_, ho2, rfl⟩ noFill_tuple_add seq_tuple_add PySem.F.slot_tuple_add PySem.F.entry_tuple_add (PySem.F.args_tuple_add_2 _ _)
      (tuple_addW2 t b vs.toArray ws.toArray n n2 dd dd2 sl sl2 (by simpa using hv) (by simpa using hw) (by rw [List.size_toArray, List.size_toArray]; exact hsz)) ⟨ho, ho2, ?_⟩
    rw [e]
    exact h2 hw
def sIx (n d : Nat) : Option Int → Nat
  | none => d
  | some v => if v < 0 then (v + (n : Int)).toNat else min v.toNat n
theorem sIx_none (n d : Nat) : sIx n d none = d := rfl
theorem sIx_nat (n d k : Nat) : sIx n d (some (k : Int)) = min k n := by
  show (if (k : Int) < 0 then ((k : Int) + (n : Int)).toNat else min (k : Int).toNat n) = min k n
  rw [if_neg (by omega), Int.toNat_natCast]
theorem sIx_le (n d : Nat) (hd : d ≤ n) (o : Option Int) : sIx n d o ≤ n := by
  cases o with
  | none => exact hd
  | some v =>
    show (if v < 0 then (v + (n : Int)).toNat else min v.toNat n) ≤ n
    by_cases hv : v < 0
    · rw [if_pos hv]; omega
    · rw [if_neg hv]; exact Nat.min_le_right _ _
theorem clip_eq (v : Int) (n d : Nat) : (if v < 0 then max (v + (n : Int)) 0 else min v (n : Int)) = ((sIx n d (some v) : Nat) : Int) := by
  show (if v < 0 then max (v + (n : Int)) 0 else min v (n : Int)) = (((if v < 0 then (v + (n : Int)).toNat else min v.toNat n) : Nat) : Int)
  by_cases hv : v < 0
  · simp only [if_pos hv]; omega
  · simp only [if_neg hv]; omega
theorem adjust_gen (lo hi : Option Int) (n : Nat) : Builtin.Slice.sliceAdjust lo hi 1 (n : Int) = (((sIx n 0 lo : Nat) : Int), ((sIx n n hi : Nat) : Int)) := by
  have h1 : ¬ ((1 : Int) < 0) := by omega
  unfold Builtin.Slice.sliceAdjust
  simp only [h1, if_false]
  refine Prod.ext ?_ ?_
  · cases lo with
    | none => rfl
    | some v => exact clip_eq v n 0
  · cases hi with
    | none => rfl
    | some v => exact clip_eq v n n
theorem places_gen (i j : Nat) : Builtin.Slice.slicePlaces (i : Int) (j : Int) 1 = j - i := by
  unfold Builtin.Slice.slicePlaces
  have h1 : (1 : Int) > 0 := by omega
  simp only [h1, if_true, Int.ediv_one]
  split <;> omega
theorem slicePart_ {v : Value} {o : Option Int} {Q : Option Int → Shared → Prop} (p : IsPart v o) (h : Q o s) : wpAny (model prog w) A (Builtin.Slice.slicePartIndex v) Q E s := by
  cases p with
  | none => exact slicePart_none h
  | int i t => exact slicePart_int h
theorem sliceApplied_gen {sl : Addr} {vl vu : Value} {lo hi : Option Int} {n : Nat} {Q : Int × Int × Nat → Shared → Prop} (hs : s.heap.IsSliceOf sl vl vu .none) (pl : IsPart vl lo) (pu : IsPart vu hi)
    (h : Q (((sIx n 0 lo : Nat) : Int), 1, sIx n n hi - sIx n 0 lo) s) : wpAny (model prog w) A (Builtin.Slice.sliceApplied (.ref sl) (pure (n : Int))) Q E s := by
  obtain ⟨os, hos, hcs, hds⟩ := id hs
  unfold Builtin.Slice.sliceApplied Builtin.Slice.sliceFields
  refine wpAny_bind (wpAny_bind (wpAny_field hos hds (x := vl) rfl (wpAny_bind (wpAny_field hos hds (x := vu) rfl (wpAny_bind (wpAny_field hos hds (x := .none) rfl (wpAny_pure ?_)))))))
  refine wpAny_bind (slicePart_none ?_)
  show wpAny _ _ (if ((1 : Int) == 0) = true then _ else _) _ _ s
  rw [if_neg (by decide)]
  refine wpAny_bind (slicePart_ pl (wpAny_bind (slicePart_ pu (wpAny_bind (wpAny_pure ?_)))))
  show wpAny _ _ (match Builtin.Slice.sliceAdjust lo hi 1 (n : Int) with | (lo, hi) => pure (lo, (1 : Int), Builtin.Slice.slicePlaces lo hi 1)) _ _ s
  rw [adjust_gen lo hi n]
  show wpAny _ _ (pure (((sIx n 0 lo : Nat) : Int), (1 : Int), Builtin.Slice.slicePlaces ((sIx n 0 lo : Nat) : Int) ((sIx n n hi : Nat) : Int) 1)) _ _ s
  rw [places_gen]
  exact wpAny_pure h
theorem pick_gen (xs : Array Value) (i k : Nat) : ((List.range k).filterMap fun (m : Nat) => xs[((i : Int) + (m : Int) * 1).toNat]?).toArray = ((xs.toList.drop i).take k).toArray := by
  have e : (fun (m : Nat) => xs[((i : Int) + (m : Int) * 1).toNat]?) = fun m => xs[i + m]? := by
    funext m
    have : ((i : Int) + (m : Int) * 1).toNat = i + m := by omega
    rw [this]
  rw [e]
  have := pick_run xs i k
  rw [List.filterMap_map] at this
  have e2 : ((fun x => xs[x]?) ∘ fun x => i + x) = fun m => xs[i + m]? := rfl
  rw [e2] at this
  rw [this]
theorem getItem_tuple_cut {t sl : Addr} {items : Array Value} {vl vu : Value} {lo hi : Option Int} {Q : Value → Shared → Prop} (ht : IsTup s.heap t items) (hs : s.heap.IsSliceOf sl vl vu .none) (pl : IsPart vl lo) (pu : IsPart vu hi)
    (hw : ¬ (sIx items.size 0 lo = 0 ∧ sIx items.size items.size hi = items.size))
    (h : Q (.ref s.heap.objs.size) { s with heap := s.heap.push { cls := .type "tuple", data := .seq ((items.toList.drop (sIx items.size 0 lo)).take (sIx items.size items.size hi - sIx items.size 0 lo)).toArray } })
    (hsz : items.size ≤ sizeLine) : wpAny (model prog w) A (getItem (.ref t) (.ref sl)) Q E s := by
  have htake : sizeOk (.seq ((items.toList.drop (sIx items.size 0 lo)).take (sIx items.size items.size hi - sIx items.size 0 lo)).toArray) := by
    show ((items.toList.drop (sIx items.size 0 lo)).take (sIx items.size items.size hi - sIx items.size 0 lo)).toArray.size ≤ sizeLine
    rw [List.size_toArray, List.length_take, List.length_drop, Array.length_toList]
    omega
  have hj : sIx items.size items.size hi ≤ items.size := sIx_le _ _ (Nat.le_refl _) hi
  obtain ⟨os, hos, hcs, hds⟩ := id hs
  have hTs : s.TypeIs (.ref sl) "slice" := ⟨os, hos, hcs⟩
  unfold getItem
  try with_reducible refine wpAny_holding ?_
  first | refine wpAny_bind (wpAny_pure ?_) | skip
  refine wpAny_bind (wpAny_sequenceKey ht.typeIs (by decide) ?_)
  refine wpAny_bind (wpAny_callSpecial?_slot (name := Str.ofString "__getitem__") ht.typeIs PyProof.Rows.slot_tuple_getitem
    (wpAny_call_entry PyProof.Rows.slot_tuple_getitem ht.typeIs entry_tuple_getitem ?_ (args_tuple_getitem _ _)))
  show wpAny _ _ (Builtin.Tuple.tupleItemsOf (.ref t) >>= _) _ _ s
  refine wpAny_bind (tupleItemsOf_ ht ?_)
  refine wpAny_bind (wpAny_typeOf hTs ?_)
  rw [if_pos (by decide)]
  refine wpAny_bind (sliceApplied_gen hs pl pu ?_)
  have hno : ¬ ((((sIx items.size 0 lo : Nat) : Int) == 0 && (1 : Int) == 1 && (sIx items.size items.size hi - sIx items.size 0 lo) == items.size) = true) := by
    intro q
    rw [Bool.and_eq_true, Bool.and_eq_true] at q
    have q1 : ((sIx items.size 0 lo : Nat) : Int) = 0 := eq_of_beq q.1.1
    have q2 : sIx items.size items.size hi - sIx items.size 0 lo = items.size := eq_of_beq q.2
    exact hw ⟨by omega, by omega⟩
  show wpAny _ _ (if (((sIx items.size 0 lo : Nat) : Int) == 0 && (1 : Int) == 1 && (sIx items.size items.size hi - sIx items.size 0 lo) == items.size) = true then _ else _) _ _ s
  rw [if_neg hno, pick_gen]
  first
    | exact wpAny_bind (m := Builtin.Tuple.tupleExact _) (wpAny_newObj_type (wpAny_pure ⟨_, rfl, wpAny_pure h⟩) htake)
    | exact wpAny_bind (m := Builtin.Tuple.tupleExact _) (wpAny_newObj_type (wpAny_bind (wpAny_pure (wpAny_pure ⟨_, rfl, wpAny_pure h⟩))) htake)
    | exact wpAny_bind (wpAny_bind (m := Builtin.Tuple.tupleExact _) (wpAny_newObj_type (wpAny_pure (wpAny_pure ⟨_, rfl, wpAny_pure h⟩)) htake))
    | exact wpAny_bind (wpAny_bind (m := Builtin.Tuple.tupleExact _) (wpAny_newObj_type (wpAny_pure ⟨_, rfl, wpAny_pure h⟩) htake))
end
end HT
namespace L2
open PySem PySem.Spec PyProof.Rows
abbrev TO := St → Hp → (Option Int → Hp → Prop) → Prop
def PO (X : Cx) (e : Option Expr) (t : TO) : Prop :=
  ∀ (pins : List (Addr × Obj)) (s : Shared) (σ : St) (H : Hp) (Q : Option Int → Hp → Prop), Inv X pins σ H s → t σ H Q →
    wpAny (model X.prog X.w) X.A (evalPart e X.env) (fun u s' => ∃ o H', Inv X pins σ H' s' ∧ IsPart u o ∧ Q o H') X.xe s
def tNoPart : TO := fun _ H Q => Q none H
def tPart (t : TE) : TO := fun σ H Q => t σ H fun x H1 => ∃ i, x = .int i ∧ Q (some i) H1
section
variable {X : Cx} {e : Expr} {te : TE} {lo hi : Option Expr} {tl th : TO} {pos p2 : Pos}
theorem po_none : PO X none tNoPart := by
  intro pins s σ H Q I h
  rw [evalPart_none]
  exact wpAny_pure ⟨none, H, I, .none, h⟩
theorem po_some (h : PE X e te) : PO X (some e) (tPart te) := by
  intro pins s σ H Q I hw
  rw [evalPart_some]
  refine thn (h pins s σ H _ I hw) fun u s1 ⟨x, H1, I1, r1, q1⟩ => ?_
  obtain ⟨i, rfl, q⟩ := q1
  obtain ⟨t, rfl⟩ := r1
  exact ⟨some i, H1, I1, .int i t, q⟩
def SlR (X : Cx) (r : V → Option Int → Option Int → Hp → VK → Prop) : Prop :=
  ∀ (pins : List (Addr × Obj)) (s : Shared) (σ : St) (H : Hp) (x : V) (v vl vu : Value) (lo hi : Option Int) (sl : Addr) (Q : VK), Inv X pins σ H s → RelV x v → s.heap.IsSliceOf sl vl vu .none → IsPart vl lo → IsPart vu hi → r x lo hi H Q →
    ∃ T id, typeLookup (.type T) "__getitem__" = pure (some (.builtin id)) ∧ s.TypeIs v T ∧ wpAny (model X.prog X.w) X.A (getItem v (.ref sl)) (EP X pins σ Q) X.xe s
theorem SlR.or {r r' : V → Option Int → Option Int → Hp → VK → Prop} (h : SlR X r) (h' : SlR X r') : SlR X (fun x lo hi H Q => r x lo hi H Q ∨ r' x lo hi H Q) := by
  intro pins s σ H x v vl vu lo hi sl Q I rx hs pl pu q
  rcases q with q | q
  · exact h pins s σ H x v vl vu lo hi sl Q I rx hs pl pu q
  · exact h' pins s σ H x v vl vu lo hi sl Q I rx hs pl pu q
def tSl (r : V → Option Int → Option Int → Hp → VK → Prop) (te : TE) (tl th : TO) : TE := fun σ H Q => te σ H fun x H1 => tl σ H1 fun l H2 => th σ H2 fun u H3 => r x l u H3 Q
theorem pe_slice {r : V → Option Int → Option Int → Hp → VK → Prop} (hr : SlR X r) (he : PE X e te) (hl : PO X lo tl) (hu : PO X hi th) : PE X (.Subscript e (.Slice lo hi none p2) pos) (tSl r te tl th) := by
  intro pins s σ H Q I h
  refine Subscript_ (thn (he pins s σ H _ I h) fun v s1 ⟨x, H1, I1, r1, q1⟩ => ?_)
  refine wpAny_Slice (thn (hl pins s1 σ H1 _ I1 q1) fun vl s2 ⟨l, H2, I2, pl, q2⟩ => thn (hu pins s2 σ H2 _ I2 q2) fun vu s3 ⟨u, H3, I3, pu, q3⟩ => ?_)
  rw [evalPart_none]
  refine wpAny_pure ?_
  have I4 : Inv X pins σ H3 { s3 with heap := s3.heap.push { cls := .type "slice", data := .fields #[vl, vu, .none] } } := I3.kept (t' := s3.toks) fun b ob q => Heap.get?_push_of_some _ q
  obtain ⟨T, id, hT, ht, hg⟩ := hr pins { s3 with heap := s3.heap.push { cls := .type "slice", data := .fields #[vl, vu, .none] } } σ H3 x v vl vu l u s3.heap.objs.size Q I4 r1 (Heap.IsSliceOf.new ..) pl pu q3
  show wpAny (model X.prog X.w) X.A (subscriptTail e (.Slice lo hi none p2) v (.ref s3.heap.objs.size)) (EP X pins σ Q) X.xe { s3 with heap := s3.heap.push { cls := .type "slice", data := .fields #[vl, vu, .none] } }
  exact tail_any (ops := [.ref s3.heap.objs.size, v]) ht hT hg (by with_unfolding_all rfl)
def cutV (xs : List V) (lo hi : Option Int) : List V := (xs.drop (HT.sIx xs.length 0 lo)).take (HT.sIx xs.length xs.length hi - HT.sIx xs.length 0 lo)
theorem cutV_length (xs : List V) (lo hi : Option Int) : (cutV xs lo hi).length ≤ xs.length := by
  unfold cutV
  rw [List.length_take, List.length_drop]
  omega
def rSlT (K : PySem.W.Frag) : V → Option Int → Option Int → Hp → VK → Prop := fun x lo hi H Q => ∃ a xs, x = .ref a ∧ SqT K H a xs ∧
  ¬ (HT.sIx xs.length 0 lo = 0 ∧ HT.sIx xs.length xs.length hi = xs.length) ∧ ∀ p, H p = none → Q (.ref p) (upd H p (.tup (cutV xs lo hi)))
theorem sl_tup : SlR X (rSlT X.K) := by
  intro pins s σ H x v vl vu lo hi sl Q I rx hs pl pu h
  obtain ⟨a, xs, rfl, hx, hw, q⟩ := h
  cases rx
  obtain ⟨its, r, ht, hz⟩ := I.tuple hx
  have hlen : its.toArray.size = xs.length := by rw [List.size_toArray]; exact r.length.symm
  refine ⟨"tuple", _, PyProof.Rows.slot_tuple_getitem.lookup, ht.typeIs, ?_⟩
  refine HT.getItem_tuple_cut ht hs pl pu (by rw [hlen]; exact hw) ?_ (by rw [hlen]; exact hz)
  rw [hlen]
  refine ⟨.ref s.heap.objs.size, _, I.laid (t' := s.toks) (o := .tup (cutV xs lo hi)) (fun b ob q => Heap.get?_push_of_some _ q) (Nat.le_refl _) ?_, rfl, q _ (I.hok.fresh (Nat.le_refl _))⟩
  exact ⟨Nat.le_trans (cutV_length xs lo hi) hz, _, (r.drop (HT.sIx xs.length 0 lo)).take (HT.sIx xs.length xs.length hi - HT.sIx xs.length 0 lo), IsTup.new _ _⟩
def rCatT (K : PySem.W.Frag) : R2 := fun x y H Q => ∃ a b xs ys, x = .ref a ∧ y = .ref b ∧ SqT K H a xs ∧ SqT K H b ys ∧ xs ≠ [] ∧ xs.length + ys.length ≤ sizeLine ∧
  (ys = [] → Q (.ref a) H) ∧ (ys ≠ [] → ∀ p, H p = none → Q (.ref p) (upd H p (.tup (xs ++ ys))))
theorem Vals.nil_iff {xs : List V} {us : List Value} (r : Vals xs us) : us = [] ↔ xs = [] := by
  cases r with
  | nil => simp
  | cons _ _ => simp
theorem op_catT : OpR X (binaryOp .Add) (rCatT X.K) := by
  intro pins s σ H x y v u Q I rx ry h
  obtain ⟨a, b, xs, ys, rfl, rfl, ha, hb, hx, hz, q1, q2⟩ := h
  cases rx
  cases ry
  obtain ⟨its, r1, p1, _⟩ := I.tuple ha
  obtain ⟨its2, r2, p2, _⟩ := I.tuple hb
  refine HT.cat_tup p1 p2 (fun z => hx (r1.nil_iff.mp z)) (fun z => ⟨.ref a, H, I, rfl, q1 (r2.nil_iff.mp z)⟩) (fun z => ?_) (by rw [← r1.length, ← r2.length]; exact hz)
  refine ⟨.ref s.heap.objs.size, _, I.laid (t' := s.toks) (o := .tup (xs ++ ys)) (fun b ob q => Heap.get?_push_of_some _ q) (Nat.le_refl _) ?_, rfl, q2 (fun w => z (r2.nil_iff.mpr w)) _ (I.hok.fresh (Nat.le_refl _))⟩
  exact ⟨by rw [List.length_append]; exact hz, _, r1.append r2, IsTup.new _ _⟩
end
end L2
namespace L2
open PySem PySem.Spec PyProof.Rows
def ixN (n : Nat) (i : Int) : Option Nat := if 0 ≤ i then (if i < n then some i.toNat else none) else if -(n : Int) ≤ i then some (i + n).toNat else none
def atI {α : Type} (xs : List α) (i : Int) : Option α := (ixN xs.length i).bind fun j => xs[j]?
theorem ixN_seq {n : Nat} {i : Int} {j : Nat} (h : ixN n i = some j) : seqIndex? i n = some j ∧ j < n ∧ -(n : Int) ≤ i ∧ i < n := by
  unfold ixN at h
  by_cases h0 : 0 ≤ i
  · rw [if_pos h0] at h
    by_cases h1 : i < n
    · rw [if_pos h1] at h
      have e : i.toNat = j := Option.some.inj h
      exact ⟨by rw [seqIndex_of h0 h1, e], by omega, by omega, h1⟩
    · rw [if_neg h1] at h; cases h
  · rw [if_neg h0] at h
    by_cases h1 : -(n : Int) ≤ i
    · rw [if_pos h1] at h
      have e : (i + n).toNat = j := Option.some.inj h
      exact ⟨by rw [seqIndex_neg (by omega) h1, e], by omega, h1, by omega⟩
    · rw [if_neg h1] at h; cases h
theorem atI_get {α : Type} {xs : List α} {i : Int} {v : α} (h : atI xs i = some v) : ∃ j, seqIndex? i xs.length = some j ∧ xs[j]? = some v ∧ j < xs.length ∧ -(xs.length : Int) ≤ i ∧ i < xs.length := by
  unfold atI at h
  cases e : ixN xs.length i with
  | none => rw [e] at h; cases h
  | some j =>
    rw [e] at h
    obtain ⟨h1, h2, h3, h4⟩ := ixN_seq e
    exact ⟨j, h1, h, h2, h3, h4⟩
theorem atI_nat {α : Type} {xs : List α} {j : Nat} {v : α} (h : xs[j]? = some v) : atI xs (j : Int) = some v := by
  have hj : j < xs.length := (List.getElem?_eq_some_iff.mp h).1
  have e : ixN xs.length (j : Int) = some j := by
    unfold ixN
    rw [if_pos (by omega), if_pos (by omega)]; simp
  unfold atI; rw [e]; exact h
theorem atI_last {α : Type} (xs : List α) (v : α) : atI (xs ++ [v]) (-1) = some v := by
  have hl : (xs ++ [v]).length = xs.length + 1 := by simp
  have e : ixN (xs ++ [v]).length (-1) = some xs.length := by
    unfold ixN
    rw [hl, if_neg (by decide), if_pos (by omega)]
    congr 1
    omega
  unfold atI
  rw [e]
  show (xs ++ [v])[xs.length]? = some v
  simp
def PlainIx (b : Expr) : Prop := ∀ o i, subscripted b false o i = operate [o, i] (getItem o i)
def IxR (X : Cx) (r : R2) : Prop :=
  ∀ (value slice : Expr) (pins : List (Addr × Obj)) (s : Shared) (σ : St) (H : Hp) (x y : V) (v u : Value) (Q : VK), Inv X pins σ H s → RelV x v → RelV y u → r x y H Q →
    subscripted slice false v u = operate [v, u] (getItem v u) → wpAny (model X.prog X.w) X.A (subscriptTail value slice v u) (EP X pins σ Q) X.xe s
def MtR (X : Cx) (id : String) (r : V → List V → Hp → VK → Prop) : Prop :=
  ∀ (pins : List (Addr × Obj)) (s : Shared) (σ : St) (H : Hp) (x : V) (xs : List V) (v : Value) (us : List Value) (Q : VK), Inv X pins σ H s → RelV x v → Vals xs us → r x xs H Q →
    wpAny (model X.prog X.w) X.A (call (.builtin id) (v :: us)) (EP X pins σ Q) X.xe s
section
variable {X : Cx} {a b : Expr} {ta tb : TE} {pos : Pos}
theorem IxR.or {r r' : R2} (h : IxR X r) (h' : IxR X r') : IxR X (fun x y H Q => r x y H Q ∨ r' x y H Q) := by
  intro value slice pins s σ H x y v u Q I rx ry q hs
  rcases q with q | q
  · exact h value slice pins s σ H x y v u Q I rx ry q hs
  · exact h' value slice pins s σ H x y v u Q I rx ry q hs
theorem MtR.or {id : String} {r r' : V → List V → Hp → VK → Prop} (h : MtR X id r) (h' : MtR X id r') : MtR X id (fun x xs H Q => r x xs H Q ∨ r' x xs H Q) := by
  intro pins s σ H x xs v us Q I rx rs q
  rcases q with q | q
  · exact h pins s σ H x xs v us Q I rx rs q
  · exact h' pins s σ H x xs v us Q I rx rs q
theorem pe_ix {r : R2} (hr : IxR X r) (ha : PE X a ta) (hb : PE X b tb) (hs : PlainIx b) : PE X (.Subscript a b pos) (tOp r ta tb) := by
  intro pins s σ H Q I h
  exact Subscript_ (binT ha hb I h fun v u s2 x y H2 I2 rx ry q => hr a b pins s2 σ H2 x y v u Q I2 rx ry q (hs _ _))
def rIxL (K : PySem.W.Frag) : R2 := fun x y H Q => ∃ p xs i v, x = .ref p ∧ y = .int i ∧ SqL K H p xs ∧ atI xs i = some v ∧ Q v H
def rIxT (K : PySem.W.Frag) : R2 := fun x y H Q => ∃ p xs i v, x = .ref p ∧ y = .int i ∧ SqT K H p xs ∧ atI xs i = some v ∧ Q v H
def rIxS : R2 := fun x y H Q => ∃ z i c, x = .str z ∧ y = .int i ∧ z.length ≤ sizeLine ∧ atI z.cps.toList i = some c ∧ Q (.str ⟨#[c]⟩) H
theorem ix_list : IxR X (rIxL X.K) := by
  intro value slice pins s σ H x y v u Q I rx ry h hs
  obtain ⟨p, xs, i, z, rfl, rfl, hq, he, q⟩ := h
  cases rx
  obtain ⟨t, rfl⟩ := ry
  obtain ⟨its, r, pl, hz⟩ := I.list hq
  obtain ⟨j, h1, h2, h3, h4, h5⟩ := atI_get he
  obtain ⟨w, ew, rw'⟩ := r.get h2
  have hl := r.length
  have hn := line63
  have fin : EP X pins σ Q w s := ⟨z, H, I, rw', q⟩
  by_cases h0 : 0 ≤ i
  · have hj : i.toNat = j := by
      rw [seqIndex_of h0 h5] at h1
      exact Option.some.inj h1
    exact item_listR pl.isList h0 (by omega) (by rw [hj]; simpa using ew) fin hs
  · have hj : (i + (its.toArray.size : Int)).toNat = j := by
      rw [seqIndex_neg (by omega) h4] at h1
      rw [List.size_toArray, ← hl]
      exact Option.some.inj h1
    exact subscriptTail_builtinR (x := w) pl.isList.typeIs slot_list_getitem.lookup
      (wpAny_getItem_list_neg (Q := fun r s' => r = w ∧ EP X pins σ Q r s') pl.isList (by omega) (by rw [List.size_toArray] <;> omega) (by omega) (by rw [hj]; simpa using ew) ⟨rfl, fin⟩) hs
theorem ix_tup : IxR X (rIxT X.K) := by
  intro value slice pins s σ H x y v u Q I rx ry h hs
  obtain ⟨p, xs, i, z, rfl, rfl, hq, he, q⟩ := h
  cases rx
  obtain ⟨t, rfl⟩ := ry
  obtain ⟨its, r, pl, hz⟩ := I.tuple hq
  obtain ⟨j, h1, h2, h3, h4, h5⟩ := atI_get he
  obtain ⟨w, ew, rw'⟩ := r.get h2
  have hl := r.length
  have hn := line63
  have fin : EP X pins σ Q w s := ⟨z, H, I, rw', q⟩
  exact subscriptTail_builtinR (x := w) pl.typeIs slot_tuple_getitem.lookup
    (getItem_tuple (j := j) (Q := fun r s' => r = w ∧ EP X pins σ Q r s') pl (by omega) (by omega) (by rw [List.size_toArray, ← hl]; exact h1) (by simpa using ew) ⟨rfl, fin⟩) hs
theorem ix_str : IxR X rIxS := by
  intro value slice pins s σ H x y v u Q I rx ry h hs
  obtain ⟨z, i, c, rfl, rfl, hz, he, q⟩ := h
  obtain ⟨t, rfl⟩ := rx
  obtain ⟨t', rfl⟩ := ry
  obtain ⟨j, h1, h2, h3, h4, h5⟩ := atI_get he
  have hl : z.cps.toList.length = z.length := by simp [Str.length]
  rw [hl] at h1 h4 h5
  have hn := line63
  exact tail_any (typeIs_str s z t) slot_str_getitem.lookup (getItem_str (c := c) (by
    have e1 : decide (i < -(2 ^ 63 : Int)) = false := decide_eq_false (by omega)
    have e2 : decide (i ≥ 2 ^ 63) = false := decide_eq_false (by omega)
    rw [e1, e2, Bool.or_false]) (by rw [h1]; simpa using h2) ⟨.str ⟨#[c]⟩, H, I.tok _, ⟨_, rfl⟩, q⟩) hs
def rIx (K : PySem.W.Frag) : R2 := fun x y H Q => rIxL K x y H Q ∨ rIxT K x y H Q ∨ rIxS x y H Q
theorem ix_seq : IxR X (rIx X.K) := ix_list.or (ix_tup.or ix_str)
theorem Inv.lst {pins : List (Addr × Obj)} {σ : St} {H : Hp} {s : Shared} {p : Addr} {xs : List V} (I : Inv X pins σ H s) (h : H p = some (.lst xs)) :
    ∃ (its : List Value) (n : Nat), Vals xs its ∧ s.heap.get? p = some { cls := .type "list", data := .seq its.toArray n } ∧ xs.length ≤ sizeLine := by
  obtain ⟨z, its, n, r, e⟩ := I.hok p _ h
  exact ⟨its, n, r, e, z⟩
theorem slice_bounds (lo hi : Option Int) (n : Nat) : (sliceBounds lo hi none n).1 = ((HT.sIx n 0 lo : Nat) : Int) ∧ (sliceBounds lo hi none n).2.1 = ((HT.sIx n n hi : Nat) : Int) ∧ (sliceBounds lo hi none n).2.2 = 1 := by
  refine ⟨?_, ?_, rfl⟩
  · cases lo with
    | none => simp [sliceBounds, HT.sIx]
    | some i =>
      simp only [sliceBounds, HT.sIx, Option.getD_none, show (1 : Int) > 0 by decide, if_true]
      by_cases h : i < 0
      · simp only [h, if_true] <;> omega
      · simp only [h, if_false] <;> omega
  · cases hi with
    | none => simp [sliceBounds, HT.sIx]
    | some i =>
      simp only [sliceBounds, HT.sIx, Option.getD_none, show (1 : Int) > 0 by decide, if_true]
      by_cases h : i < 0
      · simp only [h, if_true] <;> omega
      · simp only [h, if_false] <;> omega
theorem slicePick_cut (its : List Value) (lo hi : Option Int) : slicePick its.toArray lo hi none = ((its.drop (HT.sIx its.length 0 lo)).take (HT.sIx its.length its.length hi - HT.sIx its.length 0 lo)).toArray := by
  obtain ⟨h1, h2, h3⟩ := slice_bounds lo hi its.toArray.size
  unfold slicePick
  rw [h1, h2, h3]
  simp only [sliceRange_one, pick_run, List.size_toArray] <;> rfl
def rSlL (K : PySem.W.Frag) : V → Option Int → Option Int → Hp → VK → Prop := fun x lo hi H Q => ∃ a xs, x = .ref a ∧ SqL K H a xs ∧ ∀ p, H p = none → Q (.ref p) (upd H p (.lst (cutV xs lo hi)))
theorem sl_list : SlR X (rSlL X.K) := by
  intro pins s σ H x v vl vu lo hi sl Q I rx hs pl pu h
  obtain ⟨a, xs, rfl, hx, q⟩ := h
  cases rx
  obtain ⟨its, r, ht, hz⟩ := I.list hx
  have hlen := r.length
  refine ⟨"list", _, slot_list_getitem.lookup, ht.isList.typeIs, ?_⟩
  refine wpAny_getItem_list_slice ht.isList hs pl pu .none (by simp) ?_ (by rw [List.size_toArray] <;> omega)
  rw [slicePick_cut, ← hlen]
  refine ⟨.ref s.heap.objs.size, _, I.laid (t' := s.toks) (o := .lst (cutV xs lo hi)) (fun b ob q => Heap.get?_push_of_some _ q) (Nat.le_refl _) ?_, rfl, q _ (I.hok.fresh (Nat.le_refl _))⟩
  exact ⟨Nat.le_trans (cutV_length xs lo hi) hz, _, 0, (r.drop (HT.sIx xs.length 0 lo)).take (HT.sIx xs.length xs.length hi - HT.sIx xs.length 0 lo), Heap.get?_push_size _ rfl⟩
theorem CallR.or {f : Value} {r r' : List V → Hp → VK → Prop} (h : CallR X f r) (h' : CallR X f r') : CallR X f (fun xs H Q => r xs H Q ∨ r' xs H Q) := by
  intro pins s σ H xs us Q I rs q
  rcases q with q | q
  · exact h pins s σ H xs us Q I rs q
  · exact h' pins s σ H xs us Q I rs q
theorem call_list_of : CallR X (.type "list") (fun xs H Q => ∃ p ys, xs = [.ref p] ∧ (SqL X.K H p ys ∨ SqT X.K H p ys) ∧ ∀ l, H l = none → Q (.ref l) (upd H l (.lst ys))) := by
  intro pins s σ H xs us Q I r h
  obtain ⟨p, ys, rfl, hq, q⟩ := h
  obtain ⟨u, rfl, rx⟩ := vals1 r
  cases rx
  have fin : ∀ (its : List Value), Vals ys its → ys.length ≤ sizeLine → ∀ (h' : Heap) (c' : Nat), (∀ b o', s.heap.get? b = some o' → h'.get? b = some o') →
      h'.get? s.heap.objs.size = some { cls := .type "list", dict := none, data := .seq its.toArray c', slots := #[] } → EP X pins σ Q (.ref s.heap.objs.size) { s with heap := h' } := fun its r' hz h' c' kp e =>
    ⟨.ref s.heap.objs.size, _, I.laid (t' := s.toks) kp (Nat.le_refl _) (show ObjOk X.prog X.w _ h' _ (.lst ys) from ⟨hz, its, c', r', e⟩), rfl, q _ (I.hok.fresh (Nat.le_refl _))⟩
  rcases hq with hq | hq
  · obtain ⟨its, r', pl, hz⟩ := I.list hq
    have hlen := r'.length
    obtain ⟨o, ho, hc, n, hd⟩ := pl.isList
    exact call_list_seq p (.inl rfl) ho hc hd (fun h' c' kp e => fin its r' hz h' c' kp e) (by simp only [List.size_toArray] <;> omega)
  · obtain ⟨its, r', pl, hz⟩ := I.tuple hq
    have hlen := r'.length
    obtain ⟨o, ho, hc, n, hd⟩ := pl
    exact call_list_seq p (.inr rfl) ho hc hd (fun h' c' kp e => fin its r' hz h' c' kp e) (by simp only [List.size_toArray] <;> omega)
theorem call_tuple_of : CallR X (.type "tuple") (fun xs H Q => ∃ p ys, xs = [.ref p] ∧ ((SqL X.K H p ys ∧ ∀ l, H l = none → Q (.ref l) (upd H l (.tup ys))) ∨ (SqT X.K H p ys ∧ Q (.ref p) H))) := by
  intro pins s σ H xs us Q I r h
  obtain ⟨p, ys, rfl, h⟩ := h
  obtain ⟨u, rfl, rx⟩ := vals1 r
  cases rx
  rcases h with ⟨hq, q⟩ | ⟨hq, q⟩
  · obtain ⟨its, r', pl, hz⟩ := I.list hq
    have hlen := r'.length
    refine call_tuple_list pl.isList (fun h' kp => ?_) (by simp only [List.size_toArray] <;> omega)
    have I1 : Inv X pins σ H { s with heap := h' } := I.kept (t' := s.toks) kp
    have I2 : Inv X pins σ (upd H h'.objs.size (.tup ys)) { s with heap := h'.push { cls := .type "tuple", data := .seq its.toArray } } :=
      I1.laid (t' := s.toks) (fun b o e => Heap.get?_push_of_some _ e) (Nat.le_refl _) (show ObjOk X.prog X.w _ _ _ (.tup ys) from ⟨hz, its, r', IsTup.new _ _⟩)
    exact ⟨.ref h'.objs.size, _, I2, rfl, q _ (I1.hok.fresh (Nat.le_refl _))⟩
  · obtain ⟨its, r', pl, hz⟩ := I.tuple hq
    exact call_tuple_same pl ⟨.ref p, H, I, rfl, q⟩
def tyV (K : PySem.W.Frag) (T : String) (x : V) (H : Hp) : Prop := match x with
  | .str _ => T = "str"
  | .int _ => T = "int"
  | .ref p => (T = "list" ∧ ∃ xs, SqL K H p xs) ∨ (T = "tuple" ∧ ∃ o, K.lookup p = some o ∧ o.cls = .type "tuple" ∧ o.dict = none) ∨
      (T = "dict" ∧ ((∃ kvs, H p = some (.dK kvs)) ∨ ∃ kvs, H p = some (.dT kvs))) ∨ (T = "set" ∧ ∃ S n, H p = some (.set S n))
  | _ => False
theorem tyV_is {pins : List (Addr × Obj)} {σ : St} {H : Hp} {s : Shared} {T : String} {x : V} {v : Value} (I : Inv X pins σ H s) (r : RelV x v) (ty : tyV X.K T x H) :
    s.TypeIs v T ∧ ∀ a, v = .ref a → ∃ ob, s.heap.get? a = some ob ∧ ob.dict = none := by
  cases x with
  | str z =>
    obtain ⟨t, rfl⟩ := r
    cases (show T = "str" from ty)
    exact ⟨typeIs_str s z t, fun _ e => nomatch e⟩
  | int i =>
    obtain ⟨t, rfl⟩ := r
    cases (show T = "int" from ty)
    exact ⟨typeIs_int s i t, fun _ e => nomatch e⟩
  | ref p =>
    cases r
    rcases ty with ⟨rfl, xs, hq⟩ | ⟨rfl, o, hk, hc, hd⟩ | ⟨rfl, hk⟩ | ⟨rfl, S, n, hk⟩
    · obtain ⟨its, _, pl, _⟩ := I.list hq
      refine ⟨pl.isList.typeIs, fun a e => ?_⟩
      cases e
      obtain ⟨o, n, e, c, hd, _⟩ := pl
      exact ⟨o, e, hd⟩
    · refine ⟨⟨o, I.kIn p o hk, hc⟩, fun a e => ?_⟩
      cases e
      exact ⟨o, I.kIn _ o hk, hd⟩
    · have z : ∃ o, s.heap.get? p = some o ∧ o.ExactDict := by
        rcases hk with ⟨kvs, hk⟩ | ⟨kvs, hk⟩
        · obtain ⟨_, _, _, _, o, _, _, e, ex, _⟩ := I.hok p _ hk
          exact ⟨o, e, ex⟩
        · obtain ⟨_, _, _, _, o, _, _, e, ex, _⟩ := I.hok p _ hk
          exact ⟨o, e, ex⟩
      obtain ⟨o, e, ex⟩ := z
      refine ⟨⟨o, e, ex.1⟩, fun a e2 => ?_⟩
      cases e2
      exact ⟨o, e, ex.2.1⟩
    · obtain ⟨o, _, _, _, e, ex, _⟩ := I.hok p _ hk
      refine ⟨⟨o, e, ex.1⟩, fun a e2 => ?_⟩
      cases e2
      exact ⟨o, e, ex.2.1⟩
  | _ => exact False.elim ty
def tBM0 (K : PySem.W.Frag) (T : String) (r : V → List V → Hp → VK → Prop) (to : TE) : TE := fun σ H Q => to σ H fun x H1 => tyV K T x H1 ∧ r x [] H1 Q
def tBM (K : PySem.W.Frag) (T : String) (r : V → List V → Hp → VK → Prop) (to : TE) (t : TA) : TE := fun σ H Q => to σ H fun x H1 => tyV K T x H1 ∧ t σ H1 fun xs H2 => r x xs H2 Q
variable {o e : Expr} {es : List Expr} {to : TE} {t : TA} {name : Str} {apos cpos : Pos} {T id : String} {r : V → List V → Hp → VK → Prop}
theorem pe_bm (pa : PlainAttrs T) (slot : Slot T name id) (hty : typeOf (.builtin id) = pure (.type "method_descriptor")) (hm : MtR X id r) (ho : PE X o to) (ha : PA X (e :: es) t)
    (hbase : attributeBase o name X.env (eval o X.env) = eval o X.env := by rfl)
    (hfew : ((backTo cpos (starEach (e :: es) X.env)).all (fun x => !x.1) && (backToKw cpos (keywordEach [] X.env)).all (fun x => x.1.isSome)
      && decide ((e :: es).length + ([] : List Keyword).length + (if ([] : List Keyword).isEmpty then 0 else 1) < 30)) = true := by rfl)
    (hline : (apos.endLine == cpos.line) = true := by rfl) (hs : starEach (e :: es) X.env = (false, eval e X.env) :: starEach es X.env := by rfl) (hplain : (backTo cpos (starEach es X.env)).any (·.1) = false := by rfl) :
    PE X (.Call (.Attribute o name apos) (e :: es) [] cpos) (tBM X.K T r to t) := by
  intro pins s σ H Q I h
  refine wpAny_Call_method_late hbase hfew hline rfl (thn (ho pins s σ H _ I h) fun v s1 ⟨x, H1, I1, r1, ty, q1⟩ => ?_)
  obtain ⟨h1, h2⟩ := tyV_is I1 r1 ty
  refine ⟨T, id, pa, slot, hty, h1, h2, ?_⟩
  have hA := ha cpos pins s1 σ H1 _ I1 q1
  rw [hs] at hA ⊢
  refine Calls.callWith_builtin (by show (false || (backTo cpos (starEach es X.env)).any (·.1)) = false; rw [hplain] <;> rfl) (Calls.evalArgs_plain ?_)
  exact thn hA fun us s2 ⟨vs, H2, I2, r2, q2⟩ => hm pins s2 σ H2 x vs v us Q I2 r1 r2 q2
end
end L2
namespace L2
open PySem PySem.Spec PyProof.Rows
def MtM (X : Cx) (id : String) (r : V → List V → Hp → VK → Prop) : Prop :=
  ∀ (pins : List (Addr × Obj)) (s : Shared) (σ : St) (H : Hp) (x : V) (xs : List V) (v : Value) (us : List Value) (Q : VK), Inv X pins σ H s → RelV x v → Vals xs us → r x xs H Q →
    wpAny (model X.prog X.w) X.A (call (.builtin id) (v :: us)) (EP X pins σ Q) X.xe s
theorem Vals.one : ∀ {x : V} {us : List Value}, Vals [x] us → ∃ u, us = [u] ∧ RelV x u
  | _, _, .cons r .nil => ⟨_, rfl, r⟩
theorem Vals.two : ∀ {x y : V} {us : List Value}, Vals [x, y] us → ∃ u v, us = [u, v] ∧ RelV x u ∧ RelV y v
  | _, _, _, .cons r (.cons q .nil) => ⟨_, _, rfl, r, q⟩
theorem Vals.zero : ∀ {us : List Value}, Vals [] us → us = []
  | _, .nil => rfl
theorem Vals.dropLast {xs : List V} {us : List Value} (h : Vals xs us) : Vals xs.dropLast us.dropLast := by
  induction h with
  | nil => exact .nil
  | cons r t ih =>
    cases t with
    | nil => exact .nil
    | cons q t' => exact .cons r ih
section
variable {X : Cx} {pins : List (Addr × Obj)} {σ : St} {H : Hp} {s : Shared} {l b : Addr} {xs ys zs : List V}
theorem Inv.lset {its its' : List Value} {n : Nat} {f : Array Value → Array Value} {t' : Nat} (I : Inv X pins σ H s) (hH : H l = some (.lst xs))
    (e : s.heap.get? l = some { cls := .type "list", data := .seq its.toArray n }) (hf : f its.toArray = its'.toArray) (hv : Vals ys its') (hz : ys.length ≤ sizeLine) :
    Inv X pins σ (upd H l (.lst ys)) { s with heap := s.heap.update l (Obj.mapSeq f), toks := t' } := by
  have q := PySem.IsL.update e f
  rw [hf] at q
  refine I.write (x := l) (e := l) (by rw [hH]; exact trivial) (.inl rfl) (fun b' u hb hu => (Heap.get?_update_other s.heap (Obj.mapSeq f) (Ne.symm hb)).trans hu) ⟨_, q⟩ ?_
  exact ⟨hz, its', _, hv, q⟩
theorem Inv.fresh (I : Inv X pins σ H s) : H s.heap.objs.size = none := I.hok.fresh (Nat.le_refl _)
theorem Inv.lstM (I : Inv X pins σ H s) (hH : H l = some (.lst xs)) : xs.length ≤ sizeLine ∧ ∃ (its : List Value) (n : Nat), Vals xs its ∧ xs.length = its.length ∧ s.heap.get? l = some { cls := .type "list", data := .seq its.toArray n } := by
  obtain ⟨z, its, n, r, e⟩ := I.hok l _ hH
  exact ⟨z, its, n, r, r.length, e⟩
end
section
variable {X : Cx}
def rAppend : V → List V → Hp → VK → Prop := fun x vs H Q => ∃ l xs y, x = .ref l ∧ vs = [y] ∧ H l = some (.lst xs) ∧ xs.length < sizeLine ∧ Q .non (upd H l (.lst (xs ++ [y])))
theorem mt_append : MtM X "list.append" rAppend := by
  intro pins s σ H x vs v us Q I rx rv h
  obtain ⟨l, xs, y, rfl, rfl, hH, hz, q⟩ := h
  cases rx
  obtain ⟨u, rfl, ru⟩ := rv.one
  obtain ⟨z, its, n, r, hl, e⟩ := I.lstM hH
  refine call_meets F.slot_list_append ⟨_, e, rfl⟩ F.entry_list_append (F.args_list_append_2 _ _) (PySem.list_append l its.toArray n u (by rw [List.size_toArray]; omega)) ⟨e, ?_⟩
  refine ⟨.non, _, I.lset (its' := its ++ [u]) hH e (by simp) (r.append (.cons ru .nil)) ?_, rfl, q⟩
  rw [List.length_append, List.length_singleton]
  omega
def rPop : V → List V → Hp → VK → Prop := fun x vs H Q => ∃ l xs y, x = .ref l ∧ vs = [] ∧ H l = some (.lst xs) ∧ xs[xs.length - 1]? = some y ∧ Q y (upd H l (.lst xs.dropLast))
def rCat : R2 := fun x y H Q => ∃ l b xs zs, x = .ref l ∧ y = .ref b ∧ H l = some (.lst xs) ∧ H b = some (.lst zs) ∧ xs.length + zs.length ≤ sizeLine ∧ ∀ p, H p = none → Q (.ref p) (upd H p (.lst (xs ++ zs)))
end
section
variable {prog : Program} {w : World} {A : Around} {E : Value → Shared → Prop} {s : Shared}
end
section
variable {X : Cx}
end
end L2
namespace L2
open PySem PySem.Spec PyProof.Rows
section
variable {κ : Type} [DecidableEq κ]
def valV (kvs : List (κ × V)) (k : κ) : Option V := (kvs.find? fun kv => decide (kv.1 = k)).map (·.2)
def putK (kvs : List (κ × V)) (k : κ) (v : V) : List (κ × V) :=
  if (kvs.any fun kv => decide (kv.1 = k)) = true then kvs.map (fun kv => if kv.1 = k then (kv.1, v) else kv) else kvs ++ [(k, v)]
def dropK (kvs : List (κ × V)) (k : κ) : List (κ × V) := kvs.filter fun kv => decide (kv.1 ≠ k)
theorem valV_pos {p : κ × V} {r : List (κ × V)} {k : κ} (e : p.1 = k) : valV (p :: r) k = some p.2 := by simp [valV, List.find?_cons, e]
theorem valV_neg {p : κ × V} {r : List (κ × V)} {k : κ} (e : ¬ p.1 = k) : valV (p :: r) k = valV r k := by simp [valV, List.find?_cons, e]
theorem valV_any (k : κ) : ∀ kvs : List (κ × V), (kvs.any fun kv => decide (kv.1 = k)) = (valV kvs k).isSome
  | [] => rfl
  | p :: r => by
    rw [List.any_cons]
    by_cases e : p.1 = k
    · simp only [valV_pos e, decide_eq_true e, Bool.true_or, Option.isSome_some]
    · rw [valV_neg e, decide_eq_false e, Bool.false_or]; exact valV_any k r
theorem length_putK (kvs : List (κ × V)) (k : κ) (v : V) : (putK kvs k v).length ≤ kvs.length + 1 := by
  unfold putK
  split
  · rw [List.length_map]; omega
  · rw [List.length_append, List.length_cons, List.length_nil]; omega
theorem RelO.isSome_eq {o : Option V} {u : Option Value} (r : RelO o u) : o.isSome = u.isSome := by
  cases o with
  | none => cases u with
    | none => rfl
    | some _ => exact (show False from r).elim
  | some _ => cases u with
    | none => exact (show False from r).elim
    | some _ => rfl
theorem RelO.getD {o : Option V} {u : Option Value} {d : V} {d' : Value} (r : RelO o u) (rd : RelV d d') : RelV (o.getD d) (u.getD d') := by
  cases o with
  | none => cases u with
    | none => exact rd
    | some _ => exact (show False from r).elim
  | some _ => cases u with
    | none => exact (show False from r).elim
    | some _ => exact r
theorem KV.val {kvs : List (κ × V)} {vs : List (κ × Value)} (r : KV kvs vs) (k : κ) : RelO (valV kvs k) (valueAt vs k) := by
  unfold KV at r
  induction r with
  | nil => exact True.intro
  | @cons p q ps qs h t ih =>
    obtain ⟨h1, h2⟩ := h
    by_cases e : p.1 = k
    · have e' : q.1 = k := h1.symm.trans e
      have b : valueAt (q :: qs) k = some q.2 := by simp [valueAt, List.find?_cons, e']
      rw [valV_pos e, b]; exact h2
    · have e' : ¬ q.1 = k := fun z => e (h1.trans z)
      have b : valueAt (q :: qs) k = valueAt qs k := by simp [valueAt, List.find?_cons, e']
      rw [valV_neg e, b]; exact ih
theorem KV.any {kvs : List (κ × V)} {vs : List (κ × Value)} (r : KV kvs vs) (k : κ) : (kvs.any fun kv => decide (kv.1 = k)) = vs.any fun kv => decide (kv.1 = k) := by
  unfold KV at r
  induction r with
  | nil => rfl
  | cons h t ih => rw [List.any_cons, List.any_cons, ih, h.1]
theorem KV.repl {kvs : List (κ × V)} {vs : List (κ × Value)} (r : KV kvs vs) (k : κ) {y : V} {u : Value} (ry : RelV y u) :
    KV (kvs.map fun kv => if kv.1 = k then (kv.1, y) else kv) (vs.map fun kv => if kv.1 = k then (kv.1, u) else kv) := by
  unfold KV at r ⊢
  induction r with
  | nil => exact .nil
  | @cons p q ps qs h t ih =>
    rw [List.map_cons, List.map_cons]
    refine .cons ?_ ih
    obtain ⟨h1, h2⟩ := h
    by_cases e : p.1 = k
    · rw [if_pos e, if_pos (h1.symm.trans e)]; exact ⟨h1, ry⟩
    · rw [if_neg e, if_neg (fun z => e (h1.trans z))]; exact ⟨h1, h2⟩
theorem KV.put {kvs : List (κ × V)} {vs : List (κ × Value)} (r : KV kvs vs) (k : κ) {y : V} {u : Value} (ry : RelV y u) : KV (putK kvs k y) (stored vs k u) := by
  unfold putK stored
  rw [r.any k]
  by_cases e : (vs.any fun kv => decide (kv.1 = k)) = true
  · rw [if_pos e, if_pos e]; exact r.repl k ry
  · rw [if_neg e, if_neg e]; exact Paired.snoc r ⟨rfl, ry⟩
theorem KV.drop {kvs : List (κ × V)} {vs : List (κ × Value)} (r : KV kvs vs) (k : κ) : KV (dropK kvs k) (without vs k) := by
  unfold KV at r ⊢
  unfold dropK without
  induction r with
  | nil => exact .nil
  | @cons p q ps qs h t ih =>
    obtain ⟨h1, h2⟩ := h
    rw [List.filter_cons, List.filter_cons]
    by_cases e : p.1 = k
    · have a : ¬ decide (p.1 ≠ k) = true := by simp [e]
      have b : ¬ decide (q.1 ≠ k) = true := by simp [h1.symm.trans e]
      rw [if_neg a, if_neg b]; exact ih
    · have e' : ¬ q.1 = k := fun z => e (h1.trans z)
      have a : decide (p.1 ≠ k) = true := by simp [e]
      have b : decide (q.1 ≠ k) = true := by simp [e']
      rw [if_pos a, if_pos b]; exact .cons ⟨h1, h2⟩ ih
theorem KV.keys {kvs : List (κ × V)} {vs : List (κ × Value)} (r : KV kvs vs) : kvs.map (·.1) = vs.map (·.1) := by
  unfold KV at r
  induction r with
  | nil => rfl
  | cons h t ih => rw [List.map_cons, List.map_cons, ih, h.1]
theorem KV.length {kvs : List (κ × V)} {vs : List (κ × Value)} (r : KV kvs vs) : kvs.length = vs.length := Paired.length r
end
theorem kV_is {P : Program} {w : World} {k : Key} {u : Value} (r : RelV (kV k) u) : (mixKind P w).is k u = true := by
  cases k with
  | inl i => obtain ⟨t, e⟩ := (show ∃ t, u = Value.int i t from r); subst e; exact mixKind_int P w i t
  | inr x => obtain ⟨t, e⟩ := (show ∃ t, u = Value.str x t from r); subst e; exact mixKind_str P w x t
theorem items_are {P : Program} {w : World} : ∀ {ks : List Key} {us : List Value}, Vals (ks.map kV) us → ItemsAre (mixKind P w) ks us
  | [], _, r => by rw [List.map_nil] at r; cases r; exact .nil
  | k :: ks, _, r => by
    rw [List.map_cons] at r
    cases r with
    | cons h t => exact .cons (kV_is h) (items_are t)
abbrev KT (H : Hp) : List (List Key × V) → List (List Key × Addr × Value) → Prop := Paired fun p q => p.1 = q.1 ∧ H q.2.1 = some (.tup (p.1.map kV)) ∧ RelV p.2 q.2.2
theorem KT.val {H : Hp} {kvs : List (List Key × V)} {xs : List (List Key × Addr × Value)} (r : KT H kvs xs) (k : List Key) : RelO (valV kvs k) ((atKey xs k).map (·.2)) := by
  induction r with
  | nil => exact True.intro
  | @cons p q ps qs h t ih =>
    obtain ⟨h1, _, h2⟩ := h
    by_cases e : p.1 = k
    · have e' : q.1 = k := h1.symm.trans e
      have b : atKey (q :: qs) k = some q.2 := by simp [atKey, List.find?_cons, e']
      rw [valV_pos e, b]; exact h2
    · have e' : ¬ q.1 = k := fun z => e (h1.trans z)
      have b : atKey (q :: qs) k = atKey qs k := by simp [atKey, List.find?_cons, e']
      rw [valV_neg e, b]; exact ih
theorem KT.repl {H : Hp} {kvs : List (List Key × V)} {xs : List (List Key × Addr × Value)} (r : KT H kvs xs) (k : List Key) {y : V} {u : Value} (ry : RelV y u) :
    KT H (kvs.map fun kv => if kv.1 = k then (kv.1, y) else kv) (xs.map (putAt k u)) := by
  induction r with
  | nil => exact .nil
  | @cons p q ps qs h t ih =>
    rw [List.map_cons, List.map_cons]
    refine .cons ?_ ih
    obtain ⟨h1, h2, h3⟩ := h
    unfold putAt
    by_cases e : p.1 = k
    · rw [if_pos e, if_pos (h1.symm.trans e)]; exact ⟨h1, h2, ry⟩
    · rw [if_neg e, if_neg (fun z => e (h1.trans z))]; exact ⟨h1, h2, h3⟩
theorem KT.put {H : Hp} {kvs : List (List Key × V)} {xs : List (List Key × Addr × Value)} (r : KT H kvs xs) (k : List Key) {b : Addr} {y : V} {u : Value} (hb : H b = some (.tup (k.map kV))) (ry : RelV y u) :
    KT H (putK kvs k y) (storedH xs k b u) := by
  have e : (kvs.any fun kv => decide (kv.1 = k)) = (atKey xs k).isSome := by
    rw [valV_any, (r.val k).isSome_eq, Option.isSome_map]
  unfold putK storedH
  rw [e]
  by_cases q : (atKey xs k).isSome = true
  · rw [if_pos q, if_pos q]; exact r.repl k ry
  · rw [if_neg q, if_neg q]; exact Paired.snoc r ⟨rfl, hb, ry⟩
theorem KT.keeps {H H' : Hp} {kvs : List (List Key × V)} {xs : List (List Key × Addr × Value)} (r : KT H kvs xs) (ht : ∀ b ys, H b = some (.tup ys) → H' b = some (.tup ys)) : KT H' kvs xs :=
  Paired.mapP r fun _ _ z => ⟨z.1, ht _ _ z.2.1, z.2.2⟩
section
variable {P : Program} {w : World} {H : Hp} {h : Heap} {a : Addr}
theorem rd_of {u : HO} (ok : HOk P w H h) (e : Rd H a u) : ObjOk P w H h a u := e.ok ok
theorem dk_rd {kvs : List (Key × V)} (ok : HOk P w H h) (e : Rd H a (.dK kvs)) : kvs.length ≤ sizeLine ∧ (a == sysModules) = false ∧ ∃ vs, KV kvs vs ∧ h.DictOf (mixKind P w) a vs :=
  show ObjOk P w H h a (.dK kvs) from rd_of ok e
theorem dk_of {kvs : List (Key × V)} (ok : HOk P w H h) (e : H a = some (.dK kvs)) : kvs.length ≤ sizeLine ∧ (a == sysModules) = false ∧ ∃ vs, KV kvs vs ∧ h.DictOf (mixKind P w) a vs := dk_rd ok (.inl e)
theorem key_of {ks : List Key} (ok : HOk P w H h) (e : H a = some (.tup (ks.map kV))) : (tupleKind (mixKind P w)).is h ks a := by
  obtain ⟨_, its, r, o, h1, h2, n, h3⟩ := (show ObjOk P w H h a (.tup (ks.map kV)) from ok a _ e)
  exact ⟨o, its.toArray, n, h1, h2, h3, by simpa using items_are r⟩
theorem dt_rd {kvs : List (List Key × V)} (ok : HOk P w H h) (e : Rd H a (.dT kvs)) : kvs.length ≤ sizeLine ∧ (a == sysModules) = false ∧
    ∃ xs, KT H kvs xs ∧ h.DictOfH (tupleKind (mixKind P w)) a xs := by
  obtain ⟨z, y, xs, r, o, es, ep, h1, h2, h3, h4, h5⟩ := (show ObjOk P w H h a (.dT kvs) from rd_of ok e)
  refine ⟨z, y, xs, r, o, es, ep, h1, h2, h3, h4, fun x hx => ?_, h5⟩
  have all : ∀ {l : List (List Key × V)} {m : List (List Key × Addr × Value)}, KT H l m → ∀ x ∈ m, (tupleKind (mixKind P w)).is h x.1 x.2.1 := by
    intro l m q
    induction q with
    | nil => intro x hx; exact nomatch hx
    | @cons p q ps qs hq t ih =>
      intro x hx
      rcases List.mem_cons.mp hx with e | hx
      · subst e
        exact key_of ok (by rw [← hq.1]; exact hq.2.1)
      · exact ih x hx
  exact all r x hx
theorem dt_of {kvs : List (List Key × V)} (ok : HOk P w H h) (e : H a = some (.dT kvs)) : kvs.length ≤ sizeLine ∧ (a == sysModules) = false ∧
    ∃ xs, KT H kvs xs ∧ h.DictOfH (tupleKind (mixKind P w)) a xs := dt_rd ok (.inl e)
end
def DGet (H : Hp) (a : Addr) (y : V) (r : Option V) : Prop :=
  (∃ kvs k, Rd H a (.dK kvs) ∧ y = kV k ∧ r = valV kvs k) ∨ ∃ kvs k b, Rd H a (.dT kvs) ∧ y = .ref b ∧ H b = some (.tup (k.map kV)) ∧ r = valV kvs k
def DPut (H : Hp) (a : Addr) (y v : V) (H' : Hp) : Prop :=
  (∃ kvs k, H a = some (.dK kvs) ∧ y = kV k ∧ kvs.length < sizeLine ∧ H' = upd H a (.dK (putK kvs k v))) ∨
  ∃ kvs k b, H a = some (.dT kvs) ∧ y = .ref b ∧ H b = some (.tup (k.map kV)) ∧ kvs.length < sizeLine ∧ H' = upd H a (.dT (putK kvs k v))
theorem DGet.k {H : Hp} {a : Addr} {kvs : List (Key × V)} {k : Key} (e : H a = some (.dK kvs)) : DGet H a (kV k) (valV kvs k) := .inl ⟨kvs, k, .inl e, rfl, rfl⟩
theorem DGet.t {H : Hp} {a b : Addr} {kvs : List (List Key × V)} {k : List Key} (e : H a = some (.dT kvs)) (eb : H b = some (.tup (k.map kV))) : DGet H a (.ref b) (valV kvs k) := .inr ⟨kvs, k, b, .inl e, rfl, eb, rfl⟩
theorem DPut.k {H : Hp} {a : Addr} {kvs : List (Key × V)} {k : Key} {v : V} (e : H a = some (.dK kvs)) (hl : kvs.length < sizeLine) : DPut H a (kV k) v (upd H a (.dK (putK kvs k v))) := .inl ⟨kvs, k, e, rfl, hl, rfl⟩
theorem DPut.t {H : Hp} {a b : Addr} {kvs : List (List Key × V)} {k : List Key} {v : V} (e : H a = some (.dT kvs)) (eb : H b = some (.tup (k.map kV))) (hl : kvs.length < sizeLine) :
    DPut H a (.ref b) v (upd H a (.dT (putK kvs k v))) := .inr ⟨kvs, k, b, e, rfl, eb, hl, rfl⟩
section
variable {X : Cx} {pins : List (Addr × Obj)} {σ : St} {H : Hp} {s : Shared} {a : Addr} {y v : V} {u r : Value} {o : Option V} {A : Around} {E : Value → Shared → Prop}
theorem Inv.big (I : Inv X pins σ H s) : sysModules < s.heap.objs.size := by
  have h : mainGlobals < s.heap.objs.size := (I.mod.glob.keeps I.bk).lt
  exact Nat.lt_trans (by decide) h
theorem d_getItem {Q : Value → Shared → Prop} (hu : A.units + 1 < cLine) (I : Inv X pins σ H s) (g : DGet H a y (some v)) (ry : RelV y u) (h : ∀ w' s', Inv X pins σ H s' → RelV v w' → Q w' s') :
    wpAny (model X.prog X.w) A (getItem (.ref a) u) Q E s := by
  rcases g with ⟨kvs, k, e, ey, l⟩ | ⟨kvs, k, b, e, ey, eb, l⟩
  · subst ey
    obtain ⟨z, hd, vs, rel, dd⟩ := dk_rd I.hok e
    obtain ⟨w', hw, rw'⟩ := RelO.some_of (v := v) (o := valueAt vs k) (by rw [l]; exact rel.val k)
    exact wpAny_getItem_of (kV_is ry) dd.mapOf hw (h w' _ (I.tok _) rw')
  · subst ey
    cases (show u = Value.ref b from ry)
    obtain ⟨z, hd, xs, rel, dd⟩ := dt_rd I.hok e
    obtain ⟨w', hw, rw'⟩ := RelO.some_of (v := v) (o := (atKey xs k).map (·.2)) (by rw [l]; exact rel.val k)
    obtain ⟨p, hp, hp2⟩ := Option.map_eq_some_iff.mp hw
    refine wpAny_getItem_heap (tupleKind_room_in1 hu) (key_of I.hok eb) dd hp ?_
    rw [hp2]
    exact h w' _ (I.tok _) rw'
theorem d_in {Q : Value → Shared → Prop} (hu : A.units + 1 < cLine) (I : Inv X pins σ H s) (g : DGet H a y o) (ry : RelV y u) (h : ∀ s', Inv X pins σ H s' → Q (.bool o.isSome) s') :
    wpAny (model X.prog X.w) A (compareOp .In u (.ref a)) Q E s := by
  rcases g with ⟨kvs, k, e, ey, l⟩ | ⟨kvs, k, b, e, ey, eb, l⟩
  · subst ey
    obtain ⟨z, hd, vs, rel, dd⟩ := dk_rd I.hok e
    refine wpAny_in_of (kV_is ry) hd dd.mapOf ?_
    rw [← (rel.val k).isSome_eq, ← l]
    exact h _ (I.tok _)
  · subst ey
    cases (show u = Value.ref b from ry)
    obtain ⟨z, hd, xs, rel, dd⟩ := dt_rd I.hok e
    refine wpAny_in_heap (tupleKind_room_in1 hu) (key_of I.hok eb) hd dd ?_
    have q := (rel.val k).isSome_eq
    rw [Option.isSome_map] at q
    rw [← q, ← l]
    exact h _ (I.tok _)
theorem d_write {h' : Heap} {t' : Nat} {ob : HO} (I : Inv X pins σ H s) (mu : Mut (H a)) (hs : Heap.SameBut a s.heap h') (he : ∃ q, h'.get? a = some q) (new : ObjOk X.prog X.w (upd H a ob) h' a ob) :
    Inv X pins σ (upd H a ob) { s with heap := h', toks := t' } :=
  I.write (x := a) (e := a) mu (.inl rfl) (fun b q hb z => (hs.2 b hb).trans z) he new
theorem dk_new {P : Program} {w : World} {H' : Hp} {h' : Heap} {kvs : List (Key × V)} {vs : List (Key × Value)} (z : kvs.length ≤ sizeLine) (hd : (a == sysModules) = false) (rel : KV kvs vs) (dd : h'.DictOf (mixKind P w) a vs) :
    ObjOk P w H' h' a (.dK kvs) := ⟨z, hd, vs, rel, dd⟩
theorem d_setItem {H' : Hp} {Q : Unit → Shared → Prop} (hu : A.units + 1 < cLine) (I : Inv X pins σ H s) (g : DPut H a y v H') (ry : RelV y u) (rv : RelV v r) (h : ∀ s', Inv X pins σ H' s' → Q () s') :
    wpAny (model X.prog X.w) A (setItem (.ref a) u r) Q E s := by
  rcases g with ⟨kvs, k, e, ey, l, eH⟩ | ⟨kvs, k, b, e, ey, eb, l, eH⟩
  · subst ey eH
    obtain ⟨z, hd, vs, rel, dd⟩ := dk_of I.hok e
    have hz : vs.length ≤ sizeLine := by rw [← rel.length]; exact z
    have hl : (putK kvs k v).length ≤ sizeLine := by have := length_putK kvs k v; omega
    refine wpAny_setItem_pairs (hsz := hz) (kV_is ry) dd fun h' dd' hs => h _ ?_
    have he : ∃ q, h'.get? a = some q := let ⟨q, _, _, hq, _⟩ := dd'; ⟨q, hq⟩
    exact d_write I (by rw [e]; exact True.intro) hs he (dk_new hl hd (rel.put k rv) dd')
  · subst ey eH
    cases (show u = Value.ref b from ry)
    obtain ⟨z, hd, xs, rel, dd⟩ := dt_of I.hok e
    have hz : xs.length ≤ sizeLine := by rw [← Paired.length rel]; exact z
    have hl : (putK kvs k v).length ≤ sizeLine := by have := length_putK kvs k v; omega
    refine wpAny_setItem_heap (hsz := hz) (tupleKind_room_in1 hu) (key_of I.hok eb) dd fun h' dd' hs => h _ ?_
    obtain ⟨q, es, ep, hq, h2, h3, h4, _, h5⟩ := dd'
    refine d_write I (by rw [e]; exact True.intro) hs ⟨q, hq⟩ ⟨hl, hd, _, (rel.put k eb rv).keeps fun c ys ec => ?_, q, es, ep, hq, h2, h3, h4, h5⟩
    rw [upd_ne (ne_of ec e (fun z => nomatch z))]
    exact ec
end
section
variable {X : Cx} {pins : List (Addr × Obj)} {σ : St} {H : Hp} {s : Shared} {a : Addr} {kvs : List (Key × V)} {k : Key} {u : Value} {A : Around} {E : Value → Shared → Prop}
end
def NoSl (i : Expr) : Prop := ∀ ov iv, subscripted i false ov iv = operate [ov, iv] (getItem ov iv)
theorem subD_of {prog : Program} {w : World} {A : Around} {E : Value → Shared → Prop} {s : Shared} {env : Env} {value slice : Expr} {pos : Pos} {T id : String} {Q : Value → Shared → Prop}
    (hl : typeLookup (.type T) "__getitem__" = pure (some (.builtin id))) (hs : NoSl slice)
    (h : wpAny (model prog w) A (eval value env) (fun o s₁ => wpAny (model prog w) A (eval slice env) (fun i s₂ => s₂.TypeIs o T ∧ wpAny (model prog w) A (getItem o i) Q E s₂) E s₁) E s) :
    wpAny (model prog w) A (eval (.Subscript value slice pos) env) Q E s := by
  refine Subscript_ (wpAny_mono h (fun o s₁ h₁ => wpAny_mono h₁ (fun i s₂ h₂ => ?_) fun _ _ x => x) fun _ _ x => x)
  obtain ⟨hT, h₂⟩ := h₂
  unfold subscriptTail
  refine wpAny_bind ?_
  rw [getitemInPython_of_ne hT.not_modules]
  refine wpAny_bind (wpAny_specialOf hT hl ?_)
  have fin : wpAny (model prog w) A (subscripted slice false o i) (fun r s₃ => wpAny (model prog w) A (letTemporaryGo value o r >>= fun _ => pure r) Q E s₃) E s₂ := by
    rw [hs o i]
    exact wpAny_operating (wpAny_mono h₂ (fun r s₃ h₃ => wpAny_bind (wpAny_letTemporaryGo (wpAny_pure h₃))) fun _ _ x => x)
  first
    | exact wpAny_pure (wpAny_bind fin)
    | exact wpAny_bind (wpAny_pure (wpAny_bind fin))
    | exact wpAny_bind fin
theorem dict_typeIs {X : Cx} {pins : List (Addr × Obj)} {σ : St} {H : Hp} {s : Shared} {a : Addr} {y : V} {o : Option V} (I : Inv X pins σ H s) (g : DGet H a y o) : s.TypeIs (.ref a) "dict" := by
  rcases g with ⟨kvs, k, e, _, _⟩ | ⟨kvs, k, b, e, _, _, _⟩
  · obtain ⟨_, _, vs, _, dd⟩ := dk_rd I.hok e
    exact dd.typeIs
  · obtain ⟨_, _, xs, _, dd⟩ := dt_rd I.hok e
    exact dd.typeIs
def tDGet (td ty : TE) : TE := fun σ H Q => td σ H fun x H1 => ty σ H1 fun y H2 => ∃ a v, x = .ref a ∧ DGet H2 a y (some v) ∧ Q v H2
def tDIn (ty td : TE) : TE := fun σ H Q => ty σ H fun y H1 => td σ H1 fun x H2 => ∃ a o, x = .ref a ∧ DGet H2 a y o ∧ Q (.bl o.isSome) H2
def sDPut (td ty tv : TE) : TS := fun D σ H => tv σ H fun v H1 => td σ H1 fun x H2 => ty σ H2 fun y H3 => ∃ a H4, x = .ref a ∧ DPut H3 a y v H4 ∧ D.nx σ H4
section
variable {X : Cx} {o i e value : Expr} {pos pos' tpos : Pos} {td ty tv : TE}
theorem pe_dget (hu : X.A.units + 1 < cLine) (ho : PE X o td) (hi : PE X i ty) (hs : NoSl i) : PE X (.Subscript o i pos) (tDGet td ty) := by
  intro pins s σ H Q I h
  refine subD_of PySem.F.slot_dict_getitem.lookup hs (thn (ho pins s σ H _ I h) fun u s1 ⟨x, H1, I1, rx, q1⟩ => thn (hi pins s1 σ H1 _ I1 q1) fun iv s2 ⟨y, H2, I2, ry, a, v, ex, g, q2⟩ => ?_)
  subst ex
  obtain rfl : u = Value.ref a := rx
  exact ⟨dict_typeIs I2 g, d_getItem hu I2 g ry fun w' s3 I3 rw' => ⟨v, H2, I3, rw', q2⟩⟩
theorem pc_din (hu : X.A.units + 1 < cLine) (hi : PE X i ty) (ho : PE X o td) : PC X .In i o (tDIn ty td) := by
  intro pins s σ H Q I h
  refine thn (hi pins s σ H _ I h) fun iv s1 ⟨y, H1, I1, ry, q1⟩ => thn (ho pins s1 σ H1 _ I1 q1) fun u s2 ⟨x, H2, I2, rx, a, ov, ex, g, q2⟩ => ?_
  subst ex
  obtain rfl : u = Value.ref a := rx
  exact d_in hu I2 g ry fun s3 I3 => ⟨.bl ov.isSome, H2, I3, rfl, q2⟩
theorem ps_dput (hu : X.A.units + 1 < cLine) (ho : PE X o td) (hi : PE X i ty) (hv : PE X value tv) (hs : swapsWith value (some (.Subscript o i pos')) pos.line X.env = pure false) :
    PS X (.Assign [.Subscript o i pos'] value pos) (sDPut td ty tv) := by
  intro pins s σ H D I h
  refine wpAny_Assign_Subscript (thn (hv pins s σ H _ I h) fun r s1 ⟨v, H1, I1, rv, q1⟩ => thn (ho pins s1 σ H1 _ I1 q1) fun u s2 ⟨x, H2, I2, rx, q2⟩ => thn (hi pins s2 σ H2 _ I2 q2) fun iv s3 ⟨y, H3, I3, ry, a, H4, ex, g, q3⟩ => ?_) hs
  subst ex
  obtain rfl : u = Value.ref a := rx
  exact d_setItem hu I3 g ry rv fun s4 I4 => ⟨σ, H4, I4, q3⟩
end
theorem dk_empty {P : Program} {w : World} {H : Hp} (h : Heap) (hb : sysModules < h.objs.size) : ObjOk P w H (h.push { cls := .type "dict", data := .dict #[] }) h.objs.size (.dK []) :=
  ⟨Nat.zero_le _, beq_eq_false_iff_ne.mpr (Ne.symm (Nat.ne_of_lt hb)), [], .nil, Heap.DictOf.new h⟩
def tDNewK : TE := fun _ H Q => ∀ p, H p = none → Q (.ref p) (upd H p (.dK []))
section
variable {X : Cx} {pos : Pos}
end
def tPairs : List (TE × TE) → St → Hp → (List (V × V) → Hp → Prop) → Prop
  | [], _, H, Q => Q [] H
  | (tk, tv) :: r, σ, H, Q => tk σ H fun x H1 => tv σ H1 fun y H2 => tPairs r σ H2 fun ps H3 => Q ((x, y) :: ps) H3
abbrev VV : List (V × V) → List (Value × Value) → Prop := Paired fun p q => RelV p.1 q.1 ∧ RelV p.2 q.2
def PPs (X : Cx) (pos : Pos) (keys : List (Option Expr)) (values : List Expr) (trs : List (TE × TE)) : Prop :=
  ∀ (pins : List (Addr × Obj)) (s : Shared) (σ : St) (H : Hp) (Q : List (V × V) → Hp → Prop), Inv X pins σ H s → tPairs trs σ H Q →
    wpAny (model X.prog X.w) X.A (evalPairs (pairTrees keys values X.env pos)) (fun vs s' => ∃ ps H', Inv X pins σ H' s' ∧ VV ps vs ∧ Q ps H') X.xe s
theorem pps_nil {X : Cx} {pos : Pos} : PPs X pos [] [] [] := fun pins s σ H Q I h => pairTrees_nil_walk ⟨[], H, I, .nil, h⟩
theorem pps_cons {X : Cx} {pos : Pos} {k v : Expr} {ks : List (Option Expr)} {vs : List Expr} {tk tv : TE} {trs : List (TE × TE)} (hk : PE X k tk) (hv : PE X v tv) (hr : PPs X pos ks vs trs) :
    PPs X pos (some k :: ks) (v :: vs) ((tk, tv) :: trs) := fun pins s σ H Q I h =>
  pairTrees_cons_walk (thn (hk pins s σ H _ I h) fun u s1 ⟨x, H1, I1, rx, q1⟩ => thn (hv pins s1 σ H1 _ I1 q1) fun w2 s2 ⟨y, H2, I2, ry, q2⟩ =>
    thn (hr pins s2 σ H2 _ I2 q2) fun ws s3 ⟨ps, H3, I3, rel, q3⟩ => ⟨(x, y) :: ps, H3, I3, .cons ⟨rx, ry⟩ rel, q3⟩)
def mergeK (kvs more : List (Key × V)) : List (Key × V) := more.foldl (fun acc kv => putK acc kv.1 kv.2) kvs
theorem KV.merge : ∀ {more : List (Key × V)} {rs : List (Key × Value)} {kvs : List (Key × V)} {vs : List (Key × Value)}, KV more rs → KV kvs vs → KV (mergeK kvs more) (merged vs rs) := by
  intro more rs kvs vs r
  unfold KV at r
  induction r generalizing kvs vs with
  | nil => intro q; exact q
  | @cons p q ps qs h t ih =>
    intro r0
    have e : KV (putK kvs p.1 p.2) (stored vs q.1 q.2) := by
      have := r0.put p.1 h.2
      rw [← h.1]; exact this
    exact ih e
theorem length_mergeK : ∀ (more kvs : List (Key × V)), (mergeK kvs more).length ≤ kvs.length + more.length
  | [], kvs => by show kvs.length ≤ kvs.length + 0; omega
  | p :: r, kvs => by
    have h1 := length_mergeK r (putK kvs p.1 p.2)
    have h2 := length_putK kvs p.1 p.2
    show (mergeK (putK kvs p.1 p.2) r).length ≤ _
    rw [List.length_cons]; omega
theorem carries_of {P : Program} {w : World} : ∀ {kvs : List (Key × V)} {ws : List (Value × Value)}, VV (kvs.map fun kv => (kV kv.1, kv.2)) ws → ∃ rs, Carries (mixKind P w) ws rs ∧ KV kvs rs
  | [], _, r => by rw [List.map_nil] at r; cases r; exact ⟨[], True.intro, .nil⟩
  | p :: kvs, _, r => by
    rw [List.map_cons] at r
    cases r with
    | @cons a b as bs h t =>
      obtain ⟨rs, c, q⟩ := carries_of (P := P) (w := w) t
      obtain ⟨b1, b2⟩ := b
      exact ⟨(p.1, b2) :: rs, ⟨kV_is h.1, rfl, c⟩, .cons ⟨rfl, h.2⟩ q⟩
def tDisp (trs : List (TE × TE)) : TE := fun σ H Q => ∀ p, H p = none → tPairs trs σ (upd H p (.dK [])) fun ps H2 => H2 p = some (.dK []) ∧ ∃ kvs : List (Key × V), ps = kvs.map (fun kv => (kV kv.1, kv.2)) ∧ kvs.length ≤ 15 ∧ Q (.ref p) (upd H2 p (.dK (mergeK [] kvs)))
theorem pe_disp {X : Cx} {pos : Pos} {keys : List (Option Expr)} {values : List Expr} {trs : List (TE × TE)} (h : PPs X pos keys values trs) (hall : keys.all (·.isSome) = true) (hl : keys.length = values.length) (h0 : keys ≠ [])
    (h15 : keys.length ≤ 15) : PE X (.Dict keys values pos) (tDisp trs) := by
  intro pins s σ H Q I q
  have hn := I.hok.fresh (Nat.le_refl s.heap.objs.size)
  have I1 := I.laid (a := s.heap.objs.size) (o := .dK []) (h' := s.heap.push { cls := .type "dict", data := .dict #[] }) (t' := s.toks) (fun _ _ q => Heap.get?_push_of_some _ q) (Nat.le_refl _) (dk_empty s.heap I.big)
  refine wpAny_Dict_walk (knd := mixKind X.prog X.w) hall hl h0 h15 (thn (h pins _ σ _ _ I1 (q _ hn)) fun ws s2 ⟨ps, H2, I2, rel, e, kvs, ep, lk, q2⟩ => ?_)
  subst ep
  obtain ⟨rs, c, rk⟩ := carries_of (P := X.prog) (w := X.w) rel
  obtain ⟨z, hd, vs0, r0, dd⟩ := dk_of I2.hok e
  cases r0
  refine ⟨rs, c, dd, fun h' dd' hs => ⟨.ref s.heap.objs.size, _, ?_, rfl, q2⟩⟩
  have hz : (mergeK [] kvs).length ≤ sizeLine := by
    have h1 := length_mergeK kvs []
    rw [List.length_nil] at h1
    rw [sizeLine_eq]; omega
  have he : ∃ q, h'.get? s.heap.objs.size = some q := let ⟨q, _, _, hq, _⟩ := dd'; ⟨q, hq⟩
  exact d_write I2 (by rw [e]; exact True.intro) hs he (dk_new hz hd (rk.merge .nil) dd')
structure M1 (X : Cx) (o : Expr) (m : Str) (apos : Pos) (e : Expr) (cpos : Pos) : Prop where
  base : attributeBase o m X.env (eval o X.env) = eval o X.env
  few : ((backTo cpos (starEach [e] X.env)).all (fun x => !x.1) && (backToKw cpos (keywordEach [] X.env)).all (fun x => x.1.isSome)
    && decide (([e] : List Expr).length + ([] : List Keyword).length + (if ([] : List Keyword).isEmpty then 0 else 1) < 30)) = true
  line : (apos.endLine == cpos.line) = true
  trees : backTo cpos (starEach [e] X.env) = [(false, eval e X.env)]
structure M2 (X : Cx) (o : Expr) (m : Str) (apos : Pos) (e f : Expr) (cpos : Pos) : Prop where
  base : attributeBase o m X.env (eval o X.env) = eval o X.env
  few : ((backTo cpos (starEach [e, f] X.env)).all (fun x => !x.1) && (backToKw cpos (keywordEach [] X.env)).all (fun x => x.1.isSome)
    && decide (([e, f] : List Expr).length + ([] : List Keyword).length + (if ([] : List Keyword).isEmpty then 0 else 1) < 30)) = true
  line : (apos.endLine == cpos.line) = true
  trees : backTo cpos (starEach [e, f] X.env) = [(false, eval e X.env), (false, eval f X.env)]
section
variable {X : Cx} {pins : List (Addr × Obj)} {σ : St} {H : Hp} {s : Shared} {a : Addr} {y d : V} {u r : Value} {o : Option V} {A : Around} {E : Value → Shared → Prop}
end
section
variable {X : Cx} {o e f : Expr} {apos cpos : Pos} {td ty tx : TE}
end
section
variable {X : Cx} {pins : List (Addr × Obj)} {σ : St} {H : Hp} {s : Shared} {a : Addr} {kvs : List (Key × V)} {A : Around} {E : Value → Shared → Prop}
end
section
variable {X : Cx} {pins : List (Addr × Obj)} {σ : St} {H : Hp} {s : Shared} {a : Addr} {y : V} {u : Value} {A : Around} {E : Value → Shared → Prop}
end
end L2
namespace Att
open PySem PySem.W PySem.Calls PyProof.Rows
theorem ints_of_wellAll {P : Params} {h : Heap} : ∀ (ns : List Int) (vs : List Value), WellAll P h vs (ns.map WData.int) → IntsAre vs ns := by
  intro ns
  induction ns with
  | nil =>
    intro vs w
    rw [List.map_nil] at w
    cases w
    exact .nil
  | cons n ns ih =>
    intro vs w
    rw [List.map_cons] at w
    cases w with
    | cons a b =>
      cases a
      exact .cons _ _ (ih _ b)
theorem script_of {l : OpenLaw} {n : Nat} (hn : l.most = some n) {P : Params} {h : Heap} {args : List WData} {vals : List Value}
    (hpre : l.row.toRowW.claim.pre args = true) (hwl : WellAll P h vals args) :
    ∃ a vs ns, vals = [Value.ref a] ∧ args = [WData.list (ns.map WData.int)] ∧ h.get? a = some { cls := .type "list", data := .seq vs.toArray } ∧ IntsAre vs ns ∧ ns.length ≤ n := by
  have hsh : WShape.hasAll [] args [.list .int] = true := (pre_splitW hpre).1
  have hc : l.pre.holds [] { args := args } = true := (pre_splitW hpre).2
  obtain ⟨d, r, rfl, h1, h2⟩ := hasAllW_cons hsh
  obtain rfl := hasAllW_nil h2
  obtain ⟨xs, rfl, h3⟩ := hasW_list h1
  obtain ⟨ns, rfl⟩ := items_int h3
  have hlen : ns.length ≤ n := by
    unfold OpenLaw.pre at hc
    have h4 : (WTm.not (.lt (.lit (.int (n : Int))) (.len (.arg 0)))).holds [] { args := [.list (ns.map .int)] } = true := by
      have h4 := (holds_andW hc).1
      rw [hn] at h4
      exact h4
    have h5 := condW_of h4 (w_not (w_lt w_lit (w_len_list (w_arg rfl))))
    rw [List.length_map] at h5
    refine Nat.le_of_not_lt fun q => ?_
    have q' : (n : Int) < ((ns.length : Nat) : Int) := by omega
    first
      | (rw [decide_eq_true q'] at h5; exact absurd h5 (by decide))
      | (simp at h5; omega)
  cases hwl with
  | cons w1 w2 =>
    cases w2
    cases w1 with
    | list ho hall => exact ⟨_, _, ns, rfl, rfl, ho, ints_of_wellAll ns _ hall, hlen⟩
theorem post_true (l : OpenLaw) (args : List WData) : l.row.toRowW.claim.post args (.bool true) args = true :=
  postW_of (r := l.row.toRowW) (X := (true == true))
    (show WShape.has [] (.bool true) .bool = true by first | rfl | decide | simp [WShape.has, WShape.arms, WShape.armsAll])
    (show (WTm.eq .res (.lit (.bool true))).value [] { args := args, res := some (.bool true), after := args } = some (.bool (true == true)) from w_eq_bool (w_res rfl) w_lit) rfl
theorem attach_call {l : OpenLaw} {n : Nat} {q : Program} {loose : List Str} {XP : (Str → Option Value) → Heap → Prop} {YP : World → Heap → Prop} {d : DefRec}
    (hn : l.most = some n) (hdf : d.params.defaults = [])
    (call : ∀ (w : World) (s₀ s₁ : Shared) (mg mb : Str → Option Value) (fa : Addr) (o : Obj) (pm cd doc : Value) (a : Addr) (vs : List Value) (ns : List Int),
      Ground q loose [] XP w s₀ mg mb s₁.heap → YP w s₁.heap →
      s₁.heap.get? fa = some o → o.data = .func (docDef d.name d.params d.body d.scope pm cd doc) → s₁.heap.CodeRec cd d.name → mg d.name = some (.ref fa) →
      s₁.heap.get? a = some { cls := .type "list", data := .seq vs.toArray } → IntsAre vs ns → ns.length ≤ n → s₁.gens = #[] →
      codeAny (model l.prog w) callerA (.call (.ref fa) ⟨[.ref a], []⟩) (fun r s' => r = .ok (.ret (.bool true)) ∧ OldK s₁.heap s'.heap ∧ s'.os = s₁.os ∧ AllBare s'.gens) s₁) :
    WalkO q loose XP YP l.row.toRowW d [] (fun f vs => PySem.call f vs) := by
  intro w s₀ s₁ mg mb G Y fa o pm cd doc dV kV ho hd hcd hD hmg hg args vals as hpre hlay hrd hwl hlo
  obtain rfl : dV = .none := Dflts.none hD hdf
  obtain rfl : kV = .none := Dflts.noKw hD
  obtain ⟨a, vs, ns, rfl, rfl, hobj, hints, hlen⟩ := script_of hn hpre hwl
  refine enter_call (codeAny_mono (call w s₀ s₁ mg mb fa o pm cd doc a vs ns G Y ho (fd_plain hd) hcd hmg hobj hints hlen hg) fun r s' hq => ?_)
  obtain ⟨rfl, h2, h3, h4⟩ := hq
  exact ⟨.inl ⟨.bool true, .bool true, [], rfl, fun _ => rfl, .bool true, post_true l _, fun _ => ⟨List.Pairwise.nil, fun _ hm => (nomatch hm)⟩⟩, h2, h3, h4⟩
section
variable {prog : Program} {w : World} {A : Around} {E : Value → Shared → Prop} {s : Shared} {K : Frag}
end
end Att
namespace L2
open PySem PySem.Spec PyProof.Rows
theorem vals_ints : ∀ {vs : List Value} {ns : List Int}, IntsAre vs ns → Vals (ns.map V.int) vs
  | _, _, .nil => .nil
  | _, _, .cons n t h => .cons ⟨t, rfl⟩ (vals_ints h)
def Only (H : Hp) : Prop := ∀ b, H b = none ∨ ∃ o xs, H b = some (.frz o (.lst xs))
theorem law_call {P : Program} {w : World} {K : PySem.W.Frag} {mg mb : Str → Option Value} {CX : CXT} {k : Nat} {fa a : Addr} {fd : FuncData} {x : Str} {sp : Sp} {s₁ : Shared} {vs : List Value} {ns : List Int}
    (KX : K.In s₁.heap) (hns : s₁.heap.Ns mainGlobals mg) (hb : s₁.heap.Ns builtinsNs mb) (hbb : ∀ x : Str, x ≠ "__name__" → mb x = bootBuiltins x) (hlim : s₁.heap.NoLimit) (hg : s₁.gens = #[])
    (ha : s₁.heap.get? a = some { cls := .type "list", data := .seq vs.toArray }) (hi : IntsAre vs ns) (hl : ns.length ≤ sizeLine) (hr : Room k callerA)
    (F : ∀ base : Heap, K.In base → base.Ns mainGlobals mg → FnOk P w K mg base CX k fa fd [x] sp) (hbind : ∀ (s : Shared) (u : Value), BindsTo s fd ⟨[u], []⟩ [(x, u)])
    (hsp : ∀ H : Hp, Only H → SqL K H a (ns.map V.int) → sp [.ref a] H (fun v _ => v = .bl true) fun _ _ _ => False)
    (hCX : ∀ H e s', CX [] H s₁ (fun _ _ _ => False) e s' → False) :
    codeAny (model P w) callerA (.call (.ref fa) ⟨[.ref a], []⟩) (fun r s' => r = .ok (.ret (.bool true)) ∧ OldK s₁.heap s'.heap ∧ s'.os = s₁.os ∧ AllBare s'.gens) s₁ := by
  have rv := vals_ints hi
  have lenV := hi.length
  -- from an abstract heap in which nothing but the script may be tracked
  have core : ∀ H : Hp, Only H → SqL K H a (ns.map V.int) → HOk P w H s₁.heap → (∀ b, H b ≠ none → b = a) → (H a ≠ none → K.lookup a = none) →
      codeAny (model P w) callerA (.call (.ref fa) ⟨[.ref a], []⟩) (fun r s' => r = .ok (.ret (.bool true)) ∧ OldK s₁.heap s'.heap ∧ s'.os = s₁.os ∧ AllBare s'.gens) s₁ := by
    intro H hO hS hok hA hK
    have base_of : ∀ {b : Addr} {o : Obj}, s₁.heap.get? b = some o → H b = none → (hidT s₁.heap H).get? b = some o := fun e n => hidT_get e n
    have noA : ∀ {b : Addr} {o : Obj} {es : Array DictEntry} {ep : Nat}, s₁.heap.get? b = some o → o.data = .dict es ep → H b = none := fun {b o es ep} e d => by
      cases q : H b with
      | none => rfl
      | some u =>
        have e' : b = a := hA b (by rw [q]; simp)
        subst e'
        rw [ha] at e; cases e
        have d' : Data.seq vs.toArray _ = Data.dict es ep := d
        cases d'
    have nsK : ∀ {b : Addr} {m : Str → Option Value}, s₁.heap.Ns b m → (hidT s₁.heap H).Ns b m := fun {b m} ⟨o, es, ep, e, d, r⟩ => ⟨o, es, ep, base_of e (noA e d), d, r⟩
    have hKb : K.In (hidT s₁.heap H) := fun b o e => base_of (KX b o e) (by
      cases q : H b with
      | none => rfl
      | some u =>
        have e' : b = a := hA b (by rw [q]; simp)
        subst e'
        rw [hK (by rw [q]; simp)] at e; cases e)
    have hM : Mod K mg (hidT s₁.heap H) := ⟨hKb, nsK hns, ⟨mb, nsK hb, hbb⟩, let ⟨mc, h1, h2⟩ := hlim; ⟨mc, nsK h1, h2⟩⟩
    have e0 : Env0 P w K mg (hidT s₁.heap H) callerA [] s₁ H := ⟨rfl, hM, fun b o e => of_hidT e, Nat.le_of_eq (hidT_size _ _), trivial, fun b hb => absurd (show b ∈ ([] : List Addr) from hb) (by simp), hok, .of_eq hg⟩
    refine codeAny_mono ((F _ hKb (nsK hns)).run callerA [] s₁ H ⟨[.ref a], []⟩ [.ref a] [.ref a] _ _ hr e0 (hbind s₁ (.ref a)) (.cons rfl .nil) (hsp H hO hS)) fun r s' h => ?_
    cases r with
    | error e => exact (hCX H e s' h).elim
    | ok fl =>
      cases fl with
      | next => exact False.elim h
      | brk => exact False.elim h
      | cont => exact False.elim h
      | ret u =>
        obtain ⟨v, H', os, bare, un, hok', r', q⟩ := h
        have q' : v = .bl true := q
        subst q'
        obtain rfl : u = Value.bool true := r'
        refine ⟨rfl, OldK.of_keep fun b o e => ?_, os, bare⟩
        cases q : H b with
        | none => exact un.keep b o e q (by intro z; exact absurd (show b ∈ ([] : List Addr) from z) (by simp)) (by simp)
        | some u =>
          rcases hO b with z | ⟨ob, xs, z⟩
          · rw [q] at z; cases z
          · have z2 := un.frzs b ob _ z
            obtain ⟨e1, _⟩ := hok b _ z
            obtain ⟨e2, _⟩ := hok' b _ z2
            rw [e] at e1; cases e1
            exact e2
  cases hk : K.lookup a with
  | some o =>
    -- the script is one of the module's own objects
    have e := KX a o hk
    rw [ha] at e
    cases e
    refine core (fun _ => none) (fun _ => .inl rfl) (.inr ⟨_, vs.toArray, _, hk, rfl, rfl, rfl, by rw [List.size_toArray, lenV]; exact hl, by simpa using rv⟩) (fun b u z => by have z' : (none : Option HO) = some u := z; cases z') (fun b z => absurd rfl z) fun z => absurd rfl z
  | none =>
    refine core (fun b => if b = a then some (.frz { cls := .type "list", data := .seq vs.toArray } (.lst (ns.map V.int))) else none) (fun b => ?_) (.inl (.inr ⟨{ cls := .type "list", data := .seq vs.toArray }, if_pos rfl⟩)) (fun b u z => ?_) (fun b z => ?_) fun _ => hk
    · by_cases hb : b = a
      · exact .inr ⟨_, _, if_pos hb⟩
      · exact .inl (if_neg hb)
    · by_cases hb : b = a
      · have z' := (if_pos hb).symm.trans z
        cases z'
        subst hb
        exact ⟨ha, by rw [List.length_map]; exact hl, vs, _, rv, ha⟩
      · have z' := (if_neg hb).symm.trans z
        cases z'
    · by_cases hb : b = a
      · exact hb
      · exact absurd (if_neg hb) z
end L2
namespace L2
open PySem PySem.Spec PyProof.Rows
theorem walk_of {l : PySem.W.OpenLaw} {n k : Nat} {q : Program} {loose : List Str} {XP : (Str → Option Value) → Heap → Prop} {YP : World → Heap → Prop} {d : DefRec} {K : Params → PySem.W.Frag} {CX : World → CXT} {sp : World → Sp} {x : Str}
    (hn : l.most = some n) (hn2 : n ≤ sizeLine) (hdf : d.params.defaults = []) (hr : Room k callerA)
    (hY : ∀ (w : World) (h : Heap), YP w h → (K w.params).In h)
    (F : ∀ (w : World) (mg : Str → Option Value) (fa : Addr) (h : Heap), (K w.params).In h → h.Ns mainGlobals mg → mg d.name = some (.ref fa) →
      ∃ fd : FuncData, (∀ (s : Shared) (u : Value), BindsTo s fd ⟨[u], []⟩ [(x, u)]) ∧
        ∀ base : Heap, (K w.params).In base → base.Ns mainGlobals mg → FnOk l.prog w (K w.params) mg base (CX w) k fa fd [x] (sp w))
    (hsp : ∀ (w : World) (H : Hp) (a : Addr) (ns : List Int), ns.length ≤ n → Only H → SqL (K w.params) H a (ns.map V.int) → sp w [.ref a] H (fun v _ => v = .bl true) fun _ _ _ => False)
    (hCX : ∀ (w : World) (H : Hp) (s : Shared) (e : Value) (s' : Shared), CX w [] H s (fun _ _ _ => False) e s' → False) :
    PySem.W.WalkO q loose XP YP l.row.toRowW d [] (fun f vs => PySem.call f vs) := by
  refine Att.attach_call hn hdf fun w s₀ s₁ mg mb fa o pm cd doc a vs ns G Y ho hd hcd hmg hobj hints hlen hg => ?_
  have KX := hY w _ Y
  obtain ⟨fd, hb, hF⟩ := F w mg fa _ KX G.T.g hmg
  exact law_call KX G.T.g G.T.b G.T.builtins G.T.nolimit hg hobj hints (Nat.le_trans hlen hn2) hr hF hb (fun H hO hS => hsp w H a ns hlen hO hS) fun H e s' => hCX w H s₁ e s'
end L2
namespace L2
open PySem PySem.Spec PyProof.Rows
def defArgs (s : Stmt) : Arguments := match s with
  | .FunctionDef _ a _ _ _ _ _ _ _ _ => a
  | _ => { posonlyargs := [], args := [], vararg := none, kwonlyargs := [], kw_defaults := [], kwarg := none, defaults := [] }
def defBody (s : Stmt) : List Stmt := match s with
  | .FunctionDef _ _ b _ _ _ _ _ _ _ => b
  | _ => []
def defScope (s : Stmt) : Scope := match s with
  | .FunctionDef _ _ _ _ _ _ sc _ _ _ => sc
  | _ => { kind := .function, names := [], isGenerator := false, isCoroutine := false }
abbrev CX0 : CXT := fun _ _ _ _ _ _ => False
abbrev E0 : XK := fun _ _ _ => False
theorem pass0 {X : Cx} : Passes CX0 X E0 := fun _ _ _ _ _ _ _ h => h.elim
structure Fun (K : PySem.W.Frag) (x qual : Str) (st : Stmt) (f : Addr) (fd : FuncData) : Prop where
  ex : ∃ (oc : Value) (od : Option Addr) (kV doc pm : Value) (an : Option Addr) (cdv ct : Value) (osl : Array (Option Value)),
    fd = PySem.W.fnOf x qual (defArgs st) (defBody st) (defScope st) .none kV doc pm an cdv ct ∧ K.lookup f = some ⟨oc, od, .func fd, osl⟩ ∧ PySem.W.codeIn K cdv qual = true
  kp : PySem.W.keepIn K (.ref f) = true
section
variable {P : Program} {w : World} {K : PySem.W.Frag} {mg : Str → Option Value} {base : Heap}
theorem Fun.ok {x qual : Str} {st : Stmt} {f : Addr} {fd : FuncData} {N ps : List Str} {k : Nat} {sp : Sp} (F : Fun K x qual st f fd) (S : FnScope N ps (defScope st)) (len : ∀ vs H Q E, sp vs H Q E → vs.length = ps.length)
    (hbody : ∀ (cdv : Value) (A : Around) (outer : List Env) (s : Shared) (H : Hp) (vs : List V) (Q : VK) (E : XK), Room k (A.deeper (envOfC qual (defScope st) s.heap.objs.size f cdv)) → sp vs H Q E →
      ∃ t, PSs (cxOf CX0 P w K mg base N qual (defScope st) f cdv A outer s H E).nox (defBody st) t ∧ t { nx := fun _ H' => Q .non H', rt := Q } (start N vs) H) : FnOk P w K mg base CX0 (k + 1) f fd ps sp := by
  obtain ⟨oc, od, kV, doc, pm, an, cdv, ct, osl, rfl, lk, hcd⟩ := F.ex
  refine fn_of lk hcd S len fun A outer s H vs Q E hr hsp => ?_
  obtain ⟨t, h, q⟩ := hbody cdv A outer s H vs Q E hr hsp
  exact ⟨t, h.nox, q⟩
theorem Fun.binds {x qual : Str} {st : Stmt} {f : Addr} {fd : FuncData} {ps : List Str} (F : Fun K x qual st f fd)
    (h : ∀ (kV doc pm : Value) (an : Option Addr) (cdv ct : Value) (us : List Value), us.length = ps.length → bindArgs (PySem.W.fnOf x qual (defArgs st) (defBody st) (defScope st) .none kV doc pm an cdv ct) ⟨us, []⟩ = pure (ps.zip us)) : Binds K fd ps [] := by
  obtain ⟨oc, od, kV, doc, pm, an, cdv, ct, osl, rfl, lk, hcd⟩ := F.ex
  exact .all (h kV doc pm an cdv ct)
theorem fun_mk {x qual : Str} {st : Stmt} {f : Addr} {oc : Value} {od an : Option Addr} {osl : Array (Option Value)} {kV doc pm cdv ct : Value} (l : K.lookup f = some ⟨oc, od, .func (PySem.W.fnOf x qual (defArgs st) (defBody st) (defScope st) .none kV doc pm an cdv ct), osl⟩)
    (c : PySem.W.codeIn K cdv qual = true) (k : PySem.W.keepIn K (.ref f) = true) : Fun K x qual st f (PySem.W.fnOf x qual (defArgs st) (defBody st) (defScope st) .none kV doc pm an cdv ct) := ⟨⟨oc, od, kV, doc, pm, an, cdv, ct, osl, rfl, l, c⟩, k⟩
end
theorem hu_of {A : Around} {k : Nat} (hr : Room k A) : A.units + 1 < cLine := Nat.lt_of_le_of_lt (Nat.add_le_add_left (by decide : 1 ≤ 64) _) hr.units
theorem small1000 {n : Nat} (h : n ≤ 1000) : n < sizeLine := Nat.lt_of_le_of_lt h (by decide)
section
variable {X : Cx}
theorem pv (i : Nat) {x : Str} {pos : Pos} (hN : X.N[i]? = some x := by rfl) (hv : Vis X.env.scope x := by first | exact Or.inl rfl | exact Or.inr (Or.inl rfl) | exact Or.inr (Or.inr rfl)) (hd : (x == ("__debug__" : Str)) = false := by decide)
    (hcd : (x == ("__classdict__" : Str)) = false := by decide) : PE X (.Name x pos) (tVar i) := pe_var hN hv hd hcd
end
theorem iteF {A B : Prop} (h : B) : if false = true then A else B := by
  rw [if_neg Bool.false_ne_true]
  exact h
theorem iteT {A B : Prop} (h : A) : if true = true then A else B := by
  rw [if_pos rfl]
  exact h
def Same (H H' : Hp) : Prop := ∀ b o, H b = some o → H' b = some o
theorem Same.refl (H : Hp) : Same H H := fun _ _ h => h
theorem Same.trans {H H1 H2 : Hp} (a : Same H H1) (b : Same H1 H2) : Same H H2 := fun c o h => b c o (a c o h)
theorem Same.free {H H' : Hp} (e : Same H H') {l : Addr} (h : H' l = Option.none) : H l = Option.none := by
  cases q : H l with
  | none => rfl
  | some o =>
    rw [e l o q] at h
    cases h
theorem Same.seq {K : PySem.W.Frag} {H H' : Hp} {a : Addr} {xs : List V} (e : Same H H') (h : SqL K H a xs) : SqL K H' a xs := by
  rcases h with (h | ⟨o, h⟩) | h
  · exact .inl (.inl (e _ _ h))
  · exact .inl (.inr ⟨o, e _ _ h⟩)
  · exact .inr h
end L2
namespace L2
open PySem PySem.Spec PyProof.Rows
section
variable {X : Cx}
end
section
variable {κ : Type} [DecidableEq κ]
end
end L2
set_option Elab.async false
set_option linter.all false
set_option maxRecDepth 100000
namespace L2
open PySem PySem.Spec PyProof.Rows
def closL (env : Env) : List (Str × NameKind) → List (Str × Addr) → List (Str × Addr)
  | [], cs => cs
  | (n, k) :: r, cs => if (k == NameKind.free) = true then closL env r ((n, (env.cells.lookup n).getD 0) :: cs) else closL env r cs
theorem closureFor_is {scope : Scope} {env : Env} (h : ∀ x ∈ scope.names, x.2 = .free → ∃ c, env.cells.lookup x.1 = some c) : closureFor scope env = pure (closL env scope.names []) := by
  unfold closureFor
  have go : ∀ (l : List (Str × NameKind)) (cs : List (Str × Addr)), (∀ x ∈ l, x.2 = .free → ∃ c, env.cells.lookup x.1 = some c) →
      (forIn l cs fun (x : Str × NameKind) (r : List (Str × Addr)) => (match x with
        | (name, kind) => if (kind == NameKind.free) = true then do let a ← cellOf env name; pure (ForInStep.yield ((name, a) :: r)) else pure (ForInStep.yield r) : Sem (ForInStep (List (Str × Addr))))) = (pure (closL env l cs) : Sem (List (Str × Addr))) := by
    intro l
    induction l with
    | nil => intro cs _; rfl
    | cons x r ih =>
      intro cs hl
      obtain ⟨n, k⟩ := x
      rw [List.forIn_cons]
      by_cases hk : (k == NameKind.free) = true
      · obtain ⟨c, hc⟩ := hl (n, k) List.mem_cons_self (by simpa using hk)
        have e : cellOf env n = pure c := by unfold cellOf; rw [hc]
        simp only [hk, if_true, e, pure_bind]
        rw [ih _ fun y hy => hl y (List.mem_cons_of_mem _ hy)]
        rw [closL, if_pos hk, hc]
        rfl
      · simp only [hk, if_false, Bool.false_eq_true, pure_bind]
        rw [ih _ fun y hy => hl y (List.mem_cons_of_mem _ hy)]
        rw [closL, if_neg hk]
  have q := go scope.names [] h
  simp only [pure_bind, bind_pure] at q ⊢
  exact q
theorem closL_lookup {env : Env} {y : Str} {c : Addr} : ∀ (l : List (Str × NameKind)) (cs : List (Str × Addr)), (∀ x ∈ l, x.2 = .free → ∃ c, env.cells.lookup x.1 = some c) →
    (∀ z d, cs.lookup z = some d → env.cells.lookup z = some d) → (closL env l cs).lookup y = some c → env.cells.lookup y = some c
  | [], cs, _, hc, e => hc _ _ e
  | (n, k) :: r, cs, h, hc, e => by
    have hr : ∀ x ∈ r, x.2 = .free → ∃ c, env.cells.lookup x.1 = some c := fun x hx => h x (List.mem_cons_of_mem _ hx)
    by_cases hk : (k == NameKind.free) = true
    · rw [closL, if_pos hk] at e
      refine closL_lookup r _ hr (fun z d ez => ?_) e
      obtain ⟨c', hc'⟩ := h (n, k) List.mem_cons_self (by simpa using hk)
      rw [List.lookup_cons] at ez
      cases hz : z == n with
      | true =>
        rw [hz] at ez
        have hz' : z = n := eq_of_beq hz
        subst hz'
        have e2 : (env.cells.lookup z).getD 0 = d := Option.some.inj ez
        have hc'' : env.cells.lookup z = some c' := hc'
        rw [hc''] at e2 ⊢
        exact congrArg some e2
      | false => rw [hz] at ez; exact hc z d ez
    · rw [closL, if_neg hk] at e
      exact closL_lookup r cs hr hc e
theorem closL_has {env : Env} {y : Str} : ∀ (l : List (Str × NameKind)) (cs : List (Str × Addr)), ((y, NameKind.free) ∈ l ∨ ∃ c, cs.lookup y = some c) → ∃ c, (closL env l cs).lookup y = some c
  | [], cs, h => h.elim (fun z => nomatch z) fun z => z
  | (n, k) :: r, cs, h => by
    by_cases hk : (k == NameKind.free) = true
    · rw [closL, if_pos hk]
      refine closL_has r _ ?_
      rcases h with h | ⟨c, h⟩
      · rcases List.mem_cons.mp h with h | h
        · cases h
          exact .inr ⟨_, by rw [List.lookup_cons, beq_self_eq_true]⟩
        · exact .inl h
      · cases hz : y == n with
        | true => exact .inr ⟨_, by rw [List.lookup_cons, hz]⟩
        | false => exact .inr ⟨c, by rw [List.lookup_cons, hz]; exact h⟩
    · rw [closL, if_neg hk]
      refine closL_has r _ ?_
      rcases h with h | h
      · rcases List.mem_cons.mp h with h | h
        · cases h
          exact absurd rfl hk
        · exact .inl h
      · exact .inr h
theorem lookup_relabel {env : Env} : ∀ {names : List (Str × NameKind)} {x : Str} {k' : NameKind},
    (names.map fun (n, k) => if (k == NameKind.free && env.scope.kind == .function && env.kindOf n == some .cell) then (n, NameKind.cell) else (n, k)).lookup x = some k' →
    names.lookup x = some k' ∨ (names.lookup x = some .free ∧ k' = .cell)
  | [], _, _, h => by simp at h
  | (n, k) :: r, x, k', h => by
    have ih := @lookup_relabel env r x k'
    have h : List.lookup x ((if (k == NameKind.free && env.scope.kind == .function && env.kindOf n == some .cell) = true then (n, NameKind.cell) else (n, k)) :: _) = some k' := h
    rw [List.lookup_cons]
    by_cases hc : (k == NameKind.free && env.scope.kind == .function && env.kindOf n == some .cell) = true
    · rw [if_pos hc, List.lookup_cons] at h
      cases hx : x == n with
      | true =>
        rw [hx] at h
        have e1 : NameKind.cell = k' := Option.some.inj h
        simp only [Bool.and_eq_true] at hc
        exact .inr ⟨congrArg some (eq_of_beq hc.1.1), e1.symm⟩
      | false => rw [hx] at h; exact ih h
    · rw [if_neg hc, List.lookup_cons] at h
      cases hx : x == n with
      | true => rw [hx] at h; exact .inl h
      | false => rw [hx] at h; exact ih h
theorem relabel_free {env : Env} : ∀ {names : List (Str × NameKind)} {x : Str}, names.lookup x = some .free →
    (names.map fun (n, k) => if (k == NameKind.free && env.scope.kind == .function && env.kindOf n == some .cell) then (n, NameKind.cell) else (n, k)).lookup x = some .cell ∨
    (names.map fun (n, k) => if (k == NameKind.free && env.scope.kind == .function && env.kindOf n == some .cell) then (n, NameKind.cell) else (n, k)).lookup x = some .free
  | [], _, h => by simp at h
  | (n, k) :: r, x, h => by
    have ih := @relabel_free env r x
    show List.lookup x ((if (k == NameKind.free && env.scope.kind == .function && env.kindOf n == some .cell) = true then (n, NameKind.cell) else (n, k)) :: _) = _ ∨ List.lookup x ((if (k == NameKind.free && env.scope.kind == .function && env.kindOf n == some .cell) = true then (n, NameKind.cell) else (n, k)) :: _) = _
    rw [List.lookup_cons] at h
    by_cases hc : (k == NameKind.free && env.scope.kind == .function && env.kindOf n == some .cell) = true
    · rw [if_pos hc, List.lookup_cons]
      cases hx : x == n with
      | true => exact .inl rfl
      | false => rw [hx] at h; exact ih h
    · rw [if_neg hc, List.lookup_cons]
      cases hx : x == n with
      | true => rw [hx] at h; exact .inr h
      | false => rw [hx] at h; exact ih h
structure LcScope (xs ys : List Str) (scope around : Scope) : Prop where
  kind : scope.kind = .function
  nd : (xs ++ ys).Nodup
  own : ∀ x ∈ xs, scope.names.lookup x = some .local
  cap : ∀ y ∈ ys, scope.names.lookup y = some .free ∧ (around.names.lookup y = some .cell ∨ around.names.lookup y = some .free)
  nocell : ∀ y ∈ scope.names, y.2 ≠ .cell
  names : ∀ y ∈ scope.names, y.2 = .local → scope.names.lookup y.1 = some .local
  free : ∀ y ∈ scope.names, y.2 = .free → y.1 ∈ ys
def blockCx (X : Cx) (xs ys : List Str) (scope : Scope) (C : Addr) (s₀ : Shared) (H₀ : Hp) (fp : List Addr) : Cx where
  prog := X.prog
  w := X.w
  K := X.K
  mg := X.mg
  base := X.base
  A := X.A
  N := xs ++ ys
  s₀ := s₀
  H₀ := H₀
  env := compEnvC scope (closL X.env scope.names []) C X.env
  outer := X.stack
  stack := X.stack
  ex := fp
  fn := fun _ => false
  calm := X.calm
  pn := []
  xe := fun _ _ => False
def lcSt (xs : List Str) (js : List Nat) (σ : St) : St := xs.map (fun _ => none) ++ js.map fun j => (σ[j]?).join
def LcW (J : It) (n : List Str) (js : List Nat) (g : TG) (tc : Option TT) (te : TE) (σ : St) (H1 : Hp) (Q : VK) : Prop := ∃ W : Nat → Nat → List V → St → Hp → Prop, (∃ m, W 0 m [] (lcSt n js σ) H1) ∧ ∀ i m ys σ1 H, W i m ys σ1 H →
  (J.stop i H ∧ ∀ p, H p = none → Q (.ref p) (upd H p (.lst ys))) ∨
  (J.go i H ∧ ys.length < sizeLine ∧ ∀ x H', J.yld i H x H' → g x σ1 H' fun σ2 H2 => match tc with
    | none => te σ2 H2 fun y H3 => ∃ m', m' < m ∧ W (i + 1) m' (ys ++ [y]) σ2 H3
    | some c => c σ2 H2 fun b H3 => if b = true then te σ2 H3 fun y H4 => ∃ m', m' < m ∧ W (i + 1) m' (ys ++ [y]) σ2 H4 else ∃ m', m' < m ∧ W (i + 1) m' ys σ2 H3)
def tLC (n : List Str) (js : List Nat) (wi : TI) (g : TG) (tc : Option TT) (te : TE) : TE := fun σ H Q => wi σ H fun J H1 => LcW J n js g tc te σ H1 Q
def PIf (X : Cx) (ifs : List Expr) (tc : Option TT) : Prop := match ifs, tc with
  | [], none => True
  | [c], some t => PT X c t
  | _, _ => False
section
variable {X : Cx} {pins : List (Addr × Obj)} {σ : St} {H : Hp} {s : Shared} {xs ys : List Str} {scope : Scope} {fp : List Addr} {C D : Addr} {js : List Nat}
def Caps (X : Cx) (ys : List Str) (js : List Nat) : Prop := js.length = ys.length ∧ ∀ (i : Nat) (y : Str) (j : Nat), ys[i]? = some y → js[i]? = some j → X.N[j]? = some y
theorem clos_ok (I : Inv X pins σ H s) (S : LcScope xs ys scope X.env.scope) : ∀ x ∈ scope.names, x.2 = .free → ∃ c, X.env.cells.lookup x.1 = some c := fun x hx hf =>
  I.ok.has x.1 ((S.cap x.1 (S.free x hx hf)).2.elim .inl .inr)
theorem clos_look (I : Inv X pins σ H s) (S : LcScope xs ys scope X.env.scope) {y : Str} {c : Addr} (e : (closL X.env scope.names []).lookup y = some c) : X.env.cells.lookup y = some c :=
  closL_lookup scope.names [] (clos_ok I S) (fun _ _ z => nomatch z) e
theorem block_start (I : Inv X pins σ H s) (S : LcScope xs ys scope X.env.scope) (hj : Caps X ys js) (f2 : ∀ b ∈ fp, FpOk X pins H b) (fo : ∀ b ∈ fp, b < s.heap.objs.size)
    {h₁ : Heap} {m : Str → Option Value} {tk : Nat} {oD : Obj} (hC : s.heap.objs.size ≤ C) (hD : s.heap.objs.size ≤ D) (hDC : D ≠ C) (hn : h₁.Ns C m) (hd : h₁.get? D = some oD) (hdd : ∀ v, oD.data ≠ .cell v)
    (old : ∀ b o, s.heap.get? b = some o → h₁.get? b = some o) :
    Inv (blockCx X xs ys scope C s H fp) [(D, oD)] (lcSt xs js σ) H { s with heap := h₁, toks := tk } := by
  have cl := fun y c => clos_look (y := y) (c := c) I S
  have nC : H C = none := I.hok.fresh hC
  have nD : H D = none := I.hok.fresh hD
  have lt_of : ∀ {b : Addr}, b < s.heap.objs.size → b ≠ C := fun hb => Nat.ne_of_lt (Nat.lt_of_lt_of_le hb hC)
  have fsub : ∀ b, b ∈ frs X.stack → b ∈ X.env.locals :: X.fs := I.stkSub
  refine ⟨⟨I.ok.mod, ?_, I.ok.glob, I.ok.blt, hC, fun x y c h1 h2 => I.ok.inj x y c (cl x c h1) (cl y c h2), fun x hx => ?_, (fun x c h => nomatch h), I.ok.hd, I.ok.frames, .inl rfl, fun b hb => ⟨lt_of (fo b hb), fun x c h => (f2 b hb).2.2.2.2.1 x c (cl x c h)⟩, I.bs,
    Nat.le_trans I.ok.bsz I.sz, fun b o e hb => ?_, fun b hb hf => ?_, I.stack, I.stkFree⟩,
    rfl, I.bare, Un.kept old, ⟨m, hn, fun i x v e1 e2 e3 => ?_⟩, fun x c h => ?_, nC, fun x c h => I.freeC x c (cl x c h), fun p hp => ?_, I.hok.kept old, ?_⟩
  · show scope.kind = _
    exact S.kind
  · have hx : (relabel scope X.env).names.lookup x = some .cell ∨ (relabel scope X.env).names.lookup x = some .free := hx
    have hm : (x, NameKind.free) ∈ scope.names := by
      rcases hx with hx | hx
      · rcases lookup_relabel hx with z | z
        · exact absurd rfl (S.nocell _ (PySem.mem_of_lookup z))
        · exact PySem.mem_of_lookup z.1
      · rcases lookup_relabel hx with z | z
        · exact PySem.mem_of_lookup z
        · exact nomatch z.2
    exact closL_has scope.names [] (.inl hm)
  · rcases (f2 b hb).2.2.2.1 with z | z
    · exact I.ok.noex b o e z
    · exact absurd (Nat.lt_of_lt_of_le (Heap.lt_size e) (Nat.le_trans I.ok.bsz z)) (Nat.lt_irrefl _)
  · rcases List.mem_cons.mp (fsub b hf) with z | z
    · exact (f2 b hb).2.1 z
    · exact (f2 b hb).2.2.1 z
  · have e1 : (xs ++ ys)[i]? = some x := e1
    have e2 : (xs.map (fun _ => (none : Option V)) ++ js.map fun j => (σ[j]?).join)[i]? = some (some v) := e2
    by_cases hi : i < xs.length
    · rw [List.getElem?_append_left (by simpa using hi), List.getElem?_map] at e2
      cases q : xs[i]? with
      | none => rw [q] at e2; cases e2
      | some z => rw [q] at e2; cases e2
    · rw [List.getElem?_append_right (by simpa using hi), List.length_map, List.getElem?_map] at e2
      rw [List.getElem?_append_right (by simpa using hi)] at e1
      cases q : js[i - xs.length]? with
      | none => rw [q] at e2; cases e2
      | some j =>
        rw [q] at e2
        have e2' : (σ[j]?).join = some v := Option.some.inj e2
        have hy := hj.2 _ _ _ e1 q
        have hσ : σ[j]? = some (some v) := by
          cases z : σ[j]? with
          | none => rw [z] at e2'; cases e2'
          | some t => rw [z] at e2'; exact congrArg some e2'
        have ym : x ∈ ys := List.mem_of_getElem? e1
        obtain ⟨cf, ca⟩ := S.cap x ym
        obtain ⟨m0, _, hl⟩ := I.loc
        obtain ⟨u, ru, lk⟩ := hl j x v hy hσ (ca.elim (fun z => .inr (.inl z)) fun z => .inr (.inr z))
        refine ⟨u, ru, .inr ⟨?_, ?_⟩⟩
        · exact relabel_free (env := X.env) cf
        · rcases lk with ⟨k, _⟩ | ⟨_, c, ec, zc⟩
          · have k : X.env.scope.names.lookup x = some .local := k
            rcases ca with z | z <;> · rw [k] at z; cases z
          · obtain ⟨c', ec'⟩ := closL_has (env := X.env) (y := x) scope.names [] (.inl (PySem.mem_of_lookup cf))
            have e3 := cl x c' ec'
            rw [ec] at e3
            cases e3
            obtain ⟨o, ho, hod⟩ := zc
            exact ⟨_, ec', o, old _ _ ho, hod⟩
  · obtain ⟨v, o, ho, hod⟩ := I.cell x c (cl x c h)
    exact ⟨v, o, old _ _ ho, hod⟩
  · have hp : p ∈ [(D, oD)] := by simpa [blockCx] using hp
    have e := List.mem_singleton.mp hp
    subst e
    refine ⟨hd, nD, hDC, fun hf => ?_, hdd⟩
    have hf : D ∈ frs X.stack := hf
    obtain ⟨o, ho⟩ : ∃ o, s.heap.get? D = some o := by
      rcases List.mem_cons.mp (fsub D hf) with z | z
      · obtain ⟨m0, ⟨o, _, _, ho, _⟩, _⟩ := I.loc
        have z : D = X.env.locals := z
        exact ⟨o, z ▸ ho⟩
      · exact absurd z (I.nofs hD)
    exact absurd (Heap.lt_size ho) (Nat.not_lt.mpr hD)
  · show (xs.map (fun _ => (none : Option V)) ++ js.map fun j => (σ[j]?).join).length = (xs ++ ys).length
    rw [List.length_append, List.length_append, List.length_map, List.length_map, hj.1]
end
section
variable {X : Cx} {pins : List (Addr × Obj)} {σ : St} {H : Hp} {s : Shared} {xs ys : List Str} {scope : Scope} {js : List Nat} {tg iter elt : Expr} {ifs : List Expr} {pos : Pos} {wi : TI} {g : TG} {tc : Option TT} {te : TE}
theorem wp_no {α : Type} {M : Model} {A : Around} {t : Sem α} {Q : α → Shared → Prop} {E : Value → Shared → Prop} {s : Shared} (h : wpAny M A t Q (fun _ _ => False) s) : wpAny M A t Q E s := wpAny_mono h (fun _ _ x => x) fun _ _ z => z.elim
theorem compLoop_any {prog : Program} {w : World} {A : Around} {R : Result → Shared → Prop} {it acc : Value} {env : Env} (J : Nat → Shared → Prop)
    (turn : ∀ n s, J n s → wpAny (model prog w) A (pyNext it) (fun r s₁ => match r with
      | none => R (.ok .next) s₁
      | some v => wpAny (model prog w) A (letOwnedTupleGo tg it v) (fun _ s₁' => wpAny (model prog w) A (assign tg env v) (fun _ s₂ =>
          wpAny (model prog w) A (forIn ifs true fun c r => if r = true then do let ok ← isTrue c env (eval c env); pure (ForInStep.yield ok) else pure (ForInStep.yield r)) (fun ok s₃ =>
            if ok = true then wpAny (model prog w) A (eval elt env) (fun x s₄ =>
              wpAny (model prog w) A (call (.builtin "list.append") [acc, x]) (fun _ s₅ => ∃ m, m < n ∧ J m s₅) (fun _ _ => False) s₄) (fun _ _ => False) s₃
            else ∃ m, m < n ∧ J m s₃) (fun _ _ => False) s₂) (fun _ _ => False) s₁') (fun _ _ => False) s₁) (fun _ _ => False) s)
    (n : Nat) (h : J n s) : codeAny (model prog w) A (.compLoop (.ListComp elt [⟨tg, iter, ifs, 0⟩] scope pos) 0 it acc env) R s := by
  refine codeAny_loop rfl J (fun n s hI => ?_) n h
  show wpAny _ A ((compTurn (.ListComp elt [⟨tg, iter, ifs, 0⟩] scope pos) 0 it acc env).onRaise (fun x => do noteFrame x env; theTreesLotGoes x)) _ _ s
  refine wpAny_noted ?_
  rw [compTurn_list]
  refine wpAny_bind (wpAny_standAt (wpAny_bind (wp_no (thn (turn n s hI) fun r s₁ h₁ => ?_))))
  cases r with
  | none => exact wpAny_pure h₁
  | some v =>
    refine wpAny_bind (wp_no (thn h₁ fun _ s₁' h₁' => wpAny_bind (wp_no (thn h₁' fun _ s₂ h₂ => wpAny_bind (wp_no (thn h₂ fun ok s₃ h₃ => ?_))))))
    cases ok with
    | false => exact wpAny_pure ⟨rfl, h₃⟩
    | true => exact wpAny_bind (wpAny_bind (wp_no (thn h₃ fun x s₄ h₄ => wpAny_bind (wp_no (thn h₄ fun _ s₅ h₅ => wpAny_pure (wpAny_pure ⟨rfl, h₅⟩))))))
structure LcEnd (X : Cx) (pins : List (Addr × Obj)) (σ : St) (C : Addr) (H' : Hp) (s' : Shared) : Prop where
  inv : Inv X pins σ H' s'
  ns : ∃ m, s'.heap.Ns C m
  free : H' C = none
  ne : C ≠ X.env.locals
  up : X.s₀.heap.objs.size ≤ C
  cells : ∀ x c, X.env.cells.lookup x = some c → c ≠ C
  pin : ∀ p ∈ X.pn ++ pins, p.1 ≠ C
theorem LcEnd.gone {C : Addr} {H' : Hp} {s' : Shared} (L : LcEnd X pins σ C H' s') {h' : Heap} (hs : Heap.SameBut C s'.heap h') : Inv X pins σ H' { s' with heap := h' } :=
  L.inv.turned (t' := s'.toks) (fun b o hb e => hs.extBut b o hb e) L.free L.ne (.inr L.up) L.cells L.pin
theorem lc_core (hc : X.calm = true) (S : LcScope xs ys scope X.env.scope) (hj : Caps X ys js) (hi : PI X tg iter wi)
    (hg : ∀ C s₀ H₀ fp, PG (blockCx X xs ys scope C s₀ H₀ fp) tg g) (hif : ∀ C s₀ H₀ fp, PIf (blockCx X xs ys scope C s₀ H₀ fp) ifs tc) (he : ∀ C s₀ H₀ fp, PE (blockCx X xs ys scope C s₀ H₀ fp) elt te)
    {RR : Value → Addr → Result → Shared → Prop} {Q : VK} (I : Inv X pins σ H s) (h : tLC xs js wi g tc te σ H Q)
    (fin : ∀ D C H' s', LcEnd X pins σ C H' s' → Q (.ref D) H' → RR (.ref D) C (.ok .next) s') :
    wpAny (model X.prog X.w) X.A (eval iter X.env) (fun x s₁ => wpAny (model X.prog X.w) X.A (pyIter x) (fun it s₂ => wpAny (model X.prog X.w) X.A (newList []) (fun acc s₃ =>
      wpAny (model X.prog X.w) X.A (newFunctionEnv scope X.env.globals (closL X.env scope.names []) [] X.env.qual none .none (some X.env)) (fun cenv s₄ =>
        codeAny (model X.prog X.w) X.A (.compStart (.ListComp elt [⟨tg, iter, ifs, 0⟩] scope pos) 0 it acc { cenv with scope := relabel scope X.env }) (RR acc cenv.locals) s₄) X.xe s₃) X.xe s₂) X.xe s₁) X.xe s := by
  refine thn (hi pins s σ H _ I h) fun v s1 h1 => thn h1 fun itv s2 h2 => ?_
  obtain ⟨it, fp, tn, J, H2, e, I2, T, st2, f2, W, ⟨m0, w0⟩, turn⟩ := h2
  subst e
  have fo : ∀ b ∈ fp, b < s2.heap.objs.size := fun b hb => let ⟨o, e, _⟩ := T.obj _ _ st2 b hb; Heap.lt_size e
  refine wpAny_newObj_type (wpAny_newFunctionEnv S.nocell (by intro y hy; simp at hy) (fun h₁ hns₁ hsb₁ => ?_) S.kind)
  dsimp only at hns₁ hsb₁ ⊢
  generalize hH2 : s2.heap.push { cls := .type "list", dict := none, data := .seq ([] : List Value).toArray } = G at hns₁ hsb₁ ⊢
  have hC : G.objs.size = s2.heap.objs.size + 1 := by rw [← hH2, Heap.size_push]
  have hDC : s2.heap.objs.size ≠ G.objs.size := by rw [hC]; exact Nat.ne_of_lt (Nat.lt_succ_self _)
  have hCle : s2.heap.objs.size ≤ G.objs.size := by rw [hC]; exact Nat.le_succ _
  have below : ∀ b, b < s2.heap.objs.size → b ≠ G.objs.size ∧ b ≠ s2.heap.objs.size := fun b hb => ⟨by rw [hC]; exact Nat.ne_of_lt (Nat.lt_succ_of_lt hb), Nat.ne_of_lt hb⟩
  have old : ∀ b o, s2.heap.get? b = some o → h₁.get? b = some o := fun b o e => hsb₁.extBut b o (below b (Heap.lt_size e)).1 (Heap.get?_push_of_some _ (hH2 ▸ Heap.get?_push_of_some _ e))
  have hacc : h₁.get? s2.heap.objs.size = some (LCg.lst []) := hsb₁.extBut _ _ hDC (Heap.get?_push_of_some _ (hH2 ▸ Heap.get?_push_size _ rfl))
  have st₁ : tn 0 h₁ := T.keep _ _ _ st2 fun b _ o e => old b o e
  have I3 := block_start (C := G.objs.size) (D := s2.heap.objs.size) (tk := s2.toks + ([] : List (Str × Value)).length) I2 S hj f2 fo hCle (Nat.le_refl _) hDC hns₁ hacc (by intro v hv; cases hv) old
  generalize hX : blockCx X xs ys scope G.objs.size s2 H2 fp = B at I3
  have pB : B.prog = X.prog := by rw [← hX]; rfl
  have wB : B.w = X.w := by rw [← hX]; rfl
  have kB : B.K = X.K := by rw [← hX]; rfl
  have aB : B.A = X.A := by rw [← hX]; rfl
  have eB : B.env = compEnvC scope (closL X.env scope.names []) G.objs.size X.env := by rw [← hX]; rfl
  have cB : B.calm = true := by rw [← hX]; exact hc
  have xB : B.xe = fun _ _ => False := by rw [← hX]; rfl
  have gB : PG B tg g := by rw [← hX]; exact hg _ _ _ _
  have iB : PIf B ifs tc := by rw [← hX]; exact hif _ _ _ _
  have elB : PE B elt te := by rw [← hX]; exact he _ _ _ _
  have sB : B.s₀ = s2 := by rw [← hX]; rfl
  have hB : B.H₀ = H2 := by rw [← hX]; rfl
  have fB : B.fs = frs X.stack := by rw [← hX]; rfl
  have exB : B.ex = fp := by rw [← hX]; rfl
  have pnB : B.pn = [] := by rw [← hX]; rfl
  have statB : ∀ {H' : Hp} {oD : Obj} {σ' : St} {s' : Shared}, Inv B [(s2.heap.objs.size, oD)] σ' H' s' → (∀ b ∈ fp, H' b = none) → ∀ b ∈ fp, FpOk B [(s2.heap.objs.size, oD)] H' b := fun {H' oD σ' s'} I' hn b hb =>
    ⟨hn b hb, (I'.ok.exf b (exB ▸ hb)).1, I'.ok.exfs b (exB ▸ hb), .inl (exB ▸ hb), (I'.ok.exf b (exB ▸ hb)).2, fun p hp => by
      rw [pnB] at hp
      have e := List.mem_singleton.mp (show p ∈ [(s2.heap.objs.size, oD)] from hp)
      subst e
      exact Nat.ne_of_gt (fo b hb)⟩
  have loop : ∀ s₃ : Shared, s₃ = { s2 with heap := h₁, toks := s2.toks + ([] : List (Str × Value)).length } →
      codeAny (model X.prog X.w) X.A (.compLoop (.ListComp elt [⟨tg, iter, ifs, 0⟩] scope pos) 0 (.ref it) (.ref s2.heap.objs.size) (compEnvC scope (closL X.env scope.names []) G.objs.size X.env)) (RR (.ref s2.heap.objs.size) G.objs.size) s₃ := by
    rintro s₃ rfl
    refine compLoop_any (fun n s' => ∃ i ys its σ1 H', Inv B [(s2.heap.objs.size, LCg.lst its)] σ1 H' s' ∧ Vals ys its ∧ tn i s'.heap ∧ (∀ b ∈ fp, H' b = none) ∧ ys.length ≤ sizeLine ∧ W i n ys σ1 H') ?_ m0
      ⟨0, [], [], _, H2, I3, .nil, st₁, fun b hb => (f2 b hb).1, Nat.zero_le _, w0⟩
    rintro n s' ⟨i, ys', its, σ1, H', I', rv, st', fr', hz, w'⟩
    have rl := rv.length
    rcases turn i n ys' σ1 H' w' with ⟨stop, qn⟩ | ⟨go, hz', step⟩
    · have q := T.done B pB wB kB cB i _ s' σ1 H' (fun _ _ => False) I' (statB I' fr') st' stop
      rw [aB] at q
      refine thn q fun r s4 ⟨hr, I4⟩ => ?_
      subst hr
      have pD := (I4.pin (s2.heap.objs.size, LCg.lst its) (List.mem_append_right _ List.mem_cons_self))
      have hDn : H' s2.heap.objs.size = none := pD.2.1
      have ub := I4.base
      rw [fB, exB, hB, sB] at ub
      have neD : ∀ {b : Addr} {o : HO}, H' b = some o → b ≠ s2.heap.objs.size := fun e z => by rw [z, hDn] at e; cases e
      have upk : ∀ {b : Addr} {o : HO}, H' b = some o → upd H' s2.heap.objs.size (.lst ys') b = some o := fun e => by rw [upd_ne (neD e)]; exact e
      have u : Un (frs X.stack) fp H2 (upd H' s2.heap.objs.size (.lst ys')) s2.heap s4.heap :=
        ⟨ub.keep, ub.slot, fun b o e n hx => by rw [upd_ne (below b (Heap.lt_size e)).2]; exact ub.free b o e n hx, ub.there, fun b zs e => upk (ub.tups b zs e), fun b o zs e => upk (ub.frzs b o zs e), fun b ps e => let ⟨more, q⟩ := ub.tbls b ps e; ⟨more, upk q⟩⟩
      have hok4 : HOk X.prog X.w H' s4.heap := by have := I4.hok; rw [pB, wB] at this; exact this
      have hok : HOk X.prog X.w (upd H' s2.heap.objs.size (.lst ys')) s4.heap := fun b o e => by
        by_cases hb : b = s2.heap.objs.size
        · subst hb
          rw [upd_same] at e
          cases e
          exact ⟨hz, its, its.length, rv, pD.1⟩
        · rw [upd_ne hb] at e
          exact (hok4 b o e).stay (fun _ _ _ q => q) (fun _ q => upk q) fun _ _ q => upk q
      have I5 : Inv X pins σ (upd H' s2.heap.objs.size (.lst ys')) s4 := I2.call' (ch := fp) (by rw [I4.os, sB]) u hok I4.bare fun b hb => let f := f2 b hb; ⟨f.2.2.2.1, f.2.1, f.2.2.2.2.1, f.2.2.2.2.2⟩
      refine fin s2.heap.objs.size G.objs.size _ s4 ⟨I5, ?_, ?_, ?_, Nat.le_trans I2.sz hCle, fun x c e z => ?_, fun p hp z => ?_⟩ (qn _ hDn)
      · obtain ⟨m, hn, _⟩ := I4.loc
        rw [eB] at hn
        exact ⟨m, hn⟩
      · have fr := I4.free
        rw [eB] at fr
        rw [upd_ne (Ne.symm hDC)]
        exact fr
      · exact Ne.symm (below _ I2.lt).1
      · obtain ⟨_, o, ho, _⟩ := I2.cell x c e
        exact (below c (Heap.lt_size ho)).1 z
      · exact (below p.1 (Heap.lt_size (I2.pin p hp).1)).1 z
    · have q := T.item B pB wB kB cB i _ s' σ1 H' (fun _ _ => False) I' (statB I' fr') st' go
      rw [aB] at q
      refine thn q fun r s4 ⟨u, hr, h4⟩ => ?_
      subst hr
      refine thn h4 fun _ s5 ⟨x, H5, I5, r5, y5, st5, fr5⟩ => ?_
      have I5' := I5.pinned (statB I5 fr5) (T.obj _ _ st5)
      have q5 := gB _ s5 σ1 H5 x u _ I5' r5 (step x H5 y5)
      rw [pB, wB, aB, eB, xB] at q5
      refine thn q5 fun _ s6 ⟨σ6, H6, I6, q6⟩ => ?_
      -- the element and the append
      have last : ∀ {s7 : Shared} {H7 : Hp}, Inv B ([(s2.heap.objs.size, LCg.lst its)] ++ pinsAt fp s5.heap) σ6 H7 s7 → (te σ6 H7 fun y H8 => ∃ m', m' < n ∧ W (i + 1) m' (ys' ++ [y]) σ6 H8) →
          wpAny (model X.prog X.w) X.A (eval elt (compEnvC scope (closL X.env scope.names []) G.objs.size X.env)) (fun x s₄ =>
              wpAny (model X.prog X.w) X.A (call (.builtin "list.append") [.ref s2.heap.objs.size, x]) (fun _ s₅ => ∃ m, m < n ∧
                ∃ i ys its σ1 H', Inv B [(s2.heap.objs.size, LCg.lst its)] σ1 H' s₅ ∧ Vals ys its ∧ tn i s₅.heap ∧ (∀ b ∈ fp, H' b = none) ∧ ys.length ≤ sizeLine ∧ W i m ys σ1 H') (fun _ _ => False) s₄) (fun _ _ => False) s7 := fun {s7 H7} I7 q7 => by
        have q8 := elB _ s7 σ6 H7 _ I7 q7
        rw [pB, wB, aB, eB, xB] at q8
        refine thn q8 fun uy s8 ⟨y, H8, I8, r8, m', hm', w8⟩ => ?_
        have pD := (I8.pin (s2.heap.objs.size, LCg.lst its) (List.mem_append_right _ (List.mem_append_left _ List.mem_cons_self)))
        refine append_at (its := its.toArray) (n := its.length) pD.1 (fun h9 hs9 hd9 => ?_) (by rw [List.size_toArray, ← rl]; exact hz)
        have dropped : Inv B (pinsAt fp s5.heap) σ6 H8 s8 := I8.pins_of fun p hp => I8.pin p (List.mem_append_right _ (List.mem_append_right _ hp))
        have apart : ∀ p ∈ B.pn ++ pinsAt fp s5.heap, p.1 ≠ s2.heap.objs.size := fun p hp => by
          rw [pnB] at hp
          exact Nat.ne_of_lt (fo _ (of_pinsAt (show p ∈ pinsAt fp s5.heap from hp)).1)
        have I9 : Inv B (pinsAt fp s5.heap) σ6 H8 { s8 with heap := h9 } := dropped.turned (t' := s8.toks) (fun b o hb e => hs9.extBut b o hb e) pD.2.1 pD.2.2.1 (.inr (by rw [sB]; exact Nat.le_refl _)) (fun x c e => by
          intro z
          obtain ⟨v, o, ho, hd⟩ := I8.cell x c e
          rw [z, pD.1] at ho
          cases ho
          cases hd) apart
        have I9' : Inv B [(s2.heap.objs.size, LCg.lst (its ++ [uy]))] σ6 H8 { s8 with heap := h9 } := I9.pins_of fun p hp => by
          have e := List.mem_singleton.mp hp
          subst e
          exact ⟨hd9.trans (congrArg some (LCg.lst_snoc its uy)), pD.2.1, pD.2.2.1, pD.2.2.2.1, by intro v hv; cases hv⟩
        refine ⟨m', hm', i + 1, ys' ++ [y], its ++ [uy], σ6, H8, I9', Vals.append rv (.cons r8 .nil), T.keep _ _ _ st5 fun b hb o e => ?_, fun b hb => ?_, by rw [List.length_append]; exact hz', w8⟩
        · exact (I9.pin (b, o) (List.mem_append_right _ (mem_pinsAt hb e))).1
        · obtain ⟨o, e, d⟩ := T.obj _ _ st5 b hb
          exact (I9.pin (b, o) (List.mem_append_right _ (mem_pinsAt hb e))).2.1
      have again : ∀ {s7 : Shared} {H7 : Hp}, Inv B ([(s2.heap.objs.size, LCg.lst its)] ++ pinsAt fp s5.heap) σ6 H7 s7 → (∃ m', m' < n ∧ W (i + 1) m' ys' σ6 H7) → ∃ m, m < n ∧
          ∃ i ys its σ1 H', Inv B [(s2.heap.objs.size, LCg.lst its)] σ1 H' s7 ∧ Vals ys its ∧ tn i s7.heap ∧ (∀ b ∈ fp, H' b = none) ∧ ys.length ≤ sizeLine ∧ W i m ys σ1 H' := fun {s7 H7} I7 ⟨m', hm', w7⟩ => by
        refine ⟨m', hm', i + 1, ys', its, σ6, H7, I7.unpinned, rv, T.keep _ _ _ st5 fun b hb o e => (I7.pin (b, o) (List.mem_append_right _ (List.mem_append_right _ (mem_pinsAt hb e)))).1, fun b hb => ?_, hz, w7⟩
        obtain ⟨o, e, d⟩ := T.obj _ _ st5 b hb
        exact (I7.pin (b, o) (List.mem_append_right _ (List.mem_append_right _ (mem_pinsAt hb e)))).2.1
      match ifs, tc, iB, q6 with
      | [], none, _, q6 =>
        refine wpAny_tests_nil ?_
        rw [if_pos rfl]
        exact last I6 q6
      | [c], some t, iB, q6 =>
        have iB : PT B c t := iB
        have q7 := iB _ s6 σ6 H6 _ I6 q6
        rw [pB, wB, aB, eB, xB] at q7
        refine wpAny_tests_one (thn q7 fun b s7 ⟨H7, I7, q7⟩ => ?_)
        cases b with
        | true => rw [if_pos rfl] at q7 ⊢; exact last I7 q7
        | false => rw [if_neg Bool.false_ne_true] at q7 ⊢; exact again I7 q7
  exact codeAny_compStart_list (loop _ rfl) (T.self _ 0 _ _ _ st₁ (loop _ rfl))
theorem pe_lc (hc : X.calm = true) (S : LcScope xs ys scope X.env.scope) (hj : Caps X ys js) (hi : PI X tg iter wi)
    (hg : ∀ C s₀ H₀ fp, PG (blockCx X xs ys scope C s₀ H₀ fp) tg g) (hif : ∀ C s₀ H₀ fp, PIf (blockCx X xs ys scope C s₀ H₀ fp) ifs tc) (he : ∀ C s₀ H₀ fp, PE (blockCx X xs ys scope C s₀ H₀ fp) elt te)
    (hs : ∀ x, foldedSetIterable iter X.env x = pure x := by intro _; rfl) : PE X (.ListComp elt [⟨tg, iter, ifs, 0⟩] scope pos) (tLC xs js wi g tc te) := by
  intro pins s σ H Q I h
  rw [eval_ListComp]
  refine wpAny_comprehension_free (use := none) rfl hs (closureFor_is (clos_ok I S)) S.kind S.names ?_
  refine lc_core (RR := fun acc C => compPost (model X.prog X.w) X.A X.xe none (EP X pins σ Q) acc C) hc S hj hi hg hif he I h fun D C H' s' L q => ?_
  obtain ⟨m, hn⟩ := L.ns
  exact ⟨m, hn, fun h'' hs'' => ⟨.ref D, H', L.gone hs'', rfl, q⟩⟩
theorem ps_setLC {i : Nat} {x : Str} {p' p : Pos} (hN : X.N.Nodup) (hx : X.N[i]? = some x) (hl : X.env.scope.names.lookup x = some .local) (hc : X.calm = true) (S : LcScope xs ys scope X.env.scope) (hj : Caps X ys js) (hi : PI X tg iter wi)
    (hg : ∀ C s₀ H₀ fp, PG (blockCx X xs ys scope C s₀ H₀ fp) tg g) (hif : ∀ C s₀ H₀ fp, PIf (blockCx X xs ys scope C s₀ H₀ fp) ifs tc) (he : ∀ C s₀ H₀ fp, PE (blockCx X xs ys scope C s₀ H₀ fp) elt te)
    (hsw : swapsWith (.ListComp elt [⟨tg, iter, ifs, 0⟩] scope pos) (some (.Name x p')) p.line X.env = pure true := by rfl)
    (hs : ∀ x, foldedSetIterable iter X.env x = pure x := by intro _; rfl) : PS X (.Assign [.Name x p'] (.ListComp elt [⟨tg, iter, ifs, 0⟩] scope pos) p) (tAsg (tLC xs js wi g tc te) (gName i)) := by
  intro pins s σ H D I h
  rw [exec_Assign_Name_used _ _ _ _ hsw]
  refine wpAny_bind (wpAny_standAt (wpAny_bind ?_))
  show wpAny _ X.A (do let _ ← comprehension (.ListComp elt [⟨tg, iter, ifs, 0⟩] scope pos) scope X.env _ (newList []) false (eval iter X.env) (some (assign (.Name x p') X.env))) _ _ s
  refine wpAny_bind (wpAny_mono (wpAny_comprehension_free (use := some (assign (.Name x p') X.env)) (Q := fun _ s' => SP X pins D .next s') rfl hs (closureFor_is (clos_ok I S)) S.kind S.names ?_) (fun _ s' hq => wpAny_pure (wpAny_pure hq)) fun _ _ e => e)
  refine lc_core (Q := fun v H' => gName i v σ H' D.nx) (RR := fun acc C => compPost (model X.prog X.w) X.A X.xe (some (assign (.Name x p') X.env)) (fun _ s' => SP X pins D .next s') acc C) hc S hj hi hg hif he I h fun A C H' s' L q => ?_
  show wpAny _ X.A (assign (.Name x p') X.env (.ref A)) _ _ _
  refine wpAny_assign_Name (store_ok2 (v := .ref A) L.inv hN hx (.inl hl) rfl (fun s'' I'' ⟨a, sb, ha⟩ => ?_) (.inr hl))
  have cne : ∀ {b : Addr}, (b = X.env.locals ∨ X.env.cells.lookup x = some b) → C ≠ b := fun z e => by
    rcases z with z | z
    · exact L.ne (e.trans z)
    · exact L.cells x _ z e.symm
  obtain ⟨m, hn⟩ := L.ns
  refine ⟨m, hn.sameBut sb (cne ha), fun h'' hs'' => ⟨_, _, ?_, q⟩⟩
  exact LcEnd.gone ⟨I'', ⟨m, hn.sameBut sb (cne ha)⟩, L.free, L.ne, L.up, L.cells, L.pin⟩ hs''
end
end L2
set_option Elab.async false
set_option linter.all false
set_option maxRecDepth 100000
namespace L2
open PySem PySem.Spec PyProof.Rows
def Its (x : Str) : It := ⟨fun i _ => i < x.cps.size, fun i H v H' => H' = H ∧ ∃ c, x.cps[i]? = some c ∧ v = .str ⟨#[c]⟩, fun i _ => x.cps.size ≤ i⟩
section
variable {X : Cx} {tg : Expr}
def iStr (tl : TE) : TI := fun σ H R => tl σ H fun x H1 => ∃ z, x = .str z ∧ R (Its z) H1
end
def rSlS : V → Option Int → Option Int → Hp → VK → Prop := fun x lo hi H Q => ∃ z, x = .str z ∧ z.length ≤ sizeLine ∧ Q (.str (Txt.slice z lo hi)) H
section
variable {X : Cx}
theorem call_isi {T : String} : CallR X (.builtin "isinstance") (fun xs H Q => ∃ x t b, xs = [x, .ty T] ∧ TyOf X.K H x t ∧ PySem.W.kitOne X.K t (.type T) = some b ∧ Q (.bl b) H) := by
  intro pins s σ H xs us Q I r h
  obtain ⟨x, t, b, rfl, ty, e, q⟩ := h
  obtain ⟨u, w', rfl, ru, rw'⟩ := vals2 r
  cases rw'
  exact isinst_ok I ru ty e fun tk => ⟨.bl b, H, I.tok tk, rfl, q⟩
end
end L2
set_option Elab.async false
set_option linter.all false
set_option maxRecDepth 100000
namespace L2
open PySem PySem.Spec PyProof.Rows
structure Has (P : Program) (w : World) (K : PySem.W.Frag) (mg : Str → Option Value) (base : Heap) (k : Nat) (x : Str) (ps : List Str) (sp : Sp) : Prop where
  ex : ∃ f fd, FnOk P w K mg base CX0 k f fd ps sp ∧ Binds K fd ps [] ∧ PySem.W.keepIn K (.ref f) = true ∧ mg x = some (.ref f)
section
variable {X : Cx} {k : Nat} {x : Str} {ps : List Str} {sp : Sp} {p pos : Pos} {e : Expr} {es : List Expr} {t : TA} {v : V}
theorem Has.mono {P : Program} {w : World} {K : PySem.W.Frag} {mg : Str → Option Value} {base : Heap} {j k : Nat} (h : Has P w K mg base j x ps sp) (hk : j ≤ k) : Has P w K mg base k x ps sp := by
  obtain ⟨f, fd, F, r⟩ := h.ex
  exact ⟨f, fd, F.mono hk, r⟩
theorem Has.imp {P : Program} {w : World} {K : PySem.W.Frag} {mg : Str → Option Value} {base : Heap} {k : Nat} {sp' : Sp} (h : Has P w K mg base k x ps sp) (hs : ∀ vs H Q E, sp' vs H Q E → sp vs H Q E) : Has P w K mg base k x ps sp' := by
  obtain ⟨f, fd, F, r⟩ := h.ex
  exact ⟨f, fd, F.imp hs, r⟩
theorem pe_callH (h : Has X.prog X.w X.K X.mg X.base k x ps sp) (hr : Room k X.A) (hg : Gl X x) (ha : PA X (e :: es) t) (hdb : (x == ("__debug__" : Str)) = false := by decide)
    (he : starEach (e :: es) X.env = (false, eval e X.env) :: starEach es X.env := by rfl) (hpl : (backTo pos (starEach es X.env)).any (·.1) = false := by rfl) : PE X (.Call (.Name x p) (e :: es) [] pos) (tCall sp [] E0 t) := by
  obtain ⟨f, fd, F, b, kp, m⟩ := h.ex
  exact pe_call F hr hg m kp b .nil pass0 ha hdb he hpl
theorem pe_ty {T : String} (hm : X.mg x = none) (hv : bootBuiltins x = some (.type T)) (hg : Gl X x) (hn : x ≠ "__name__" := by decide) (hd : (x == ("__debug__" : Str)) = false := by decide) : PE X (.Name x pos) (tC (.ty T)) :=
  pe_bltn hg hm hv rfl hn hd
end
theorem pif_nil {X : Cx} : PIf X [] none := trivial
theorem pif_one {X : Cx} {c : Expr} {t : TT} (h : PT X c t) : PIf X [c] (some t) := h
def lcOk (xs ys : List Str) (scope around : Scope) : Bool :=
  (scope.kind == .function) && decide (xs ++ ys).Nodup && xs.all (fun x => scope.names.lookup x == some .local) &&
  ys.all (fun y => (scope.names.lookup y == some .free) && ((around.names.lookup y == some .cell) || (around.names.lookup y == some .free))) &&
  scope.names.all (fun y => (y.2 != .cell) && ((y.2 != .local) || (scope.names.lookup y.1 == some .local)) && ((y.2 != .free) || ys.contains y.1))
theorem lcOk.scope {xs ys : List Str} {scope around : Scope} (h : lcOk xs ys scope around = true) : LcScope xs ys scope around := by
  unfold lcOk at h
  simp only [Bool.and_eq_true, beq_iff_eq, decide_eq_true_eq, List.all_eq_true, Bool.or_eq_true, bne_iff_ne, List.contains_iff_mem] at h
  obtain ⟨⟨⟨⟨h1, h2⟩, h3⟩, h4⟩, h5⟩ := h
  exact ⟨h1, h2, h3, h4, fun y hy => (h5 y hy).1.1, fun y hy hl => (h5 y hy).1.2.resolve_left (fun z => z hl), fun y hy hf => (h5 y hy).2.resolve_left (fun z => z hf)⟩
def capOk (N ys : List Str) (js : List Nat) : Bool := (js.length == ys.length) && (ys.zip js).all fun p => N[p.2]? == some p.1
theorem capOk.caps {X : Cx} {ys : List Str} {js : List Nat} (h : capOk X.N ys js = true) : Caps X ys js := by
  unfold capOk at h
  simp only [Bool.and_eq_true, beq_iff_eq, List.all_eq_true] at h
  refine ⟨h.1, fun i y j hy hj => ?_⟩
  refine h.2 (y, j) (List.mem_of_getElem? (i := i) ?_)
  rw [List.getElem?_zip_eq_some]
  exact ⟨hy, hj⟩
section
variable {X : Cx} {xs ys : List Str} {scope : Scope} {js : List Nat} {tg iter elt : Expr} {ifs : List Expr} {pos : Pos} {wi : TI} {g : TG} {tc : Option TT} {te : TE}
theorem pe_comp (xs ys : List Str) (js : List Nat) (hi : PI X tg iter wi)
    (hg : ∀ C s₀ H₀ fp, (xs ++ ys).Nodup → PG (blockCx X xs ys scope C s₀ H₀ fp) tg g) (hif : ∀ C s₀ H₀ fp, PIf (blockCx X xs ys scope C s₀ H₀ fp) ifs tc) (he : ∀ C s₀ H₀ fp, PE (blockCx X xs ys scope C s₀ H₀ fp) elt te)
    (hc : X.calm = true := by rfl) (S : lcOk xs ys scope X.env.scope = true := by rfl) (hj : capOk X.N ys js = true := by rfl)
    (hs : ∀ x, foldedSetIterable iter X.env x = pure x := by intro _; rfl) : PE X (.ListComp elt [⟨tg, iter, ifs, 0⟩] scope pos) (tLC xs js wi g tc te) :=
  pe_lc hc (lcOk.scope S) (capOk.caps hj) hi (fun C s₀ H₀ fp => hg C s₀ H₀ fp (lcOk.scope S).nd) hif he hs
theorem ps_comp {i : Nat} {x : Str} {p' p : Pos} (xs ys : List Str) (js : List Nat) (hN : X.N.Nodup) (hx : X.N[i]? = some x) (hi : PI X tg iter wi)
    (hg : ∀ C s₀ H₀ fp, (xs ++ ys).Nodup → PG (blockCx X xs ys scope C s₀ H₀ fp) tg g) (hif : ∀ C s₀ H₀ fp, PIf (blockCx X xs ys scope C s₀ H₀ fp) ifs tc) (he : ∀ C s₀ H₀ fp, PE (blockCx X xs ys scope C s₀ H₀ fp) elt te)
    (hl : X.env.scope.names.lookup x = some .local := by rfl) (hc : X.calm = true := by rfl) (S : lcOk xs ys scope X.env.scope = true := by rfl) (hj : capOk X.N ys js = true := by rfl)
    (hsw : swapsWith (.ListComp elt [⟨tg, iter, ifs, 0⟩] scope pos) (some (.Name x p')) p.line X.env = pure true := by rfl)
    (hs : ∀ x, foldedSetIterable iter X.env x = pure x := by intro _; rfl) : PS X (.Assign [.Name x p'] (.ListComp elt [⟨tg, iter, ifs, 0⟩] scope pos) p) (tAsg (tLC xs js wi g tc te) (gName i)) :=
  ps_setLC hN hx hl hc (lcOk.scope S) (capOk.caps hj) hi (fun C s₀ H₀ fp => hg C s₀ H₀ fp (lcOk.scope S).nd) hif he hsw hs
end
theorem bt_len : bootBuiltins "len" = some (.builtin "len") := by decide +kernel
theorem bt_isinstance : bootBuiltins "isinstance" = some (.builtin "isinstance") := by decide +kernel
theorem bt_sorted : bootBuiltins "sorted" = some (.builtin "sorted") := by decide +kernel
theorem bt_tuple : bootBuiltins "tuple" = some (.type "tuple") := by decide +kernel
theorem bt_list : bootBuiltins "list" = some (.type "list") := by decide +kernel
theorem bt_int : bootBuiltins "int" = some (.type "int") := by decide +kernel
theorem bt_bool : bootBuiltins "bool" = some (.type "bool") := by decide +kernel
theorem bt_str : bootBuiltins "str" = some (.type "str") := by decide +kernel
theorem bt_dict : bootBuiltins "dict" = some (.type "dict") := by decide +kernel
theorem cx_K {CX : CXT} {P : Program} {w : World} {K : PySem.W.Frag} {mg : Str → Option Value} {base : Heap} {N : List Str} {qual : Str} {scope : Scope} {f : Addr} {cd : Value} {A : Around} {outer : List Env} {s : Shared} {H : Hp} {E : XK} : (cxOf CX P w K mg base N qual scope f cd A outer s H E).K = K := rfl
theorem cx_calm {CX : CXT} {P : Program} {w : World} {K : PySem.W.Frag} {mg : Str → Option Value} {base : Heap} {N : List Str} {qual : Str} {scope : Scope} {f : Addr} {cd : Value} {A : Around} {outer : List Env} {s : Shared} {H : Hp} {E : XK} : (cxOf CX P w K mg base N qual scope f cd A outer s H E).calm = true := rfl
theorem bk_calm {X : Cx} {xs ys : List Str} {scope : Scope} {C : Addr} {s₀ : Shared} {H₀ : Hp} {fp : List Addr} : (blockCx X xs ys scope C s₀ H₀ fp).calm = X.calm := rfl
theorem lenV_str {K : PySem.W.Frag} {y : Str} {H : Hp} {n : Nat} : LenV K (.str y) H n ↔ (y.length ≤ sizeLine ∧ n = y.length) := Iff.rfl
theorem bk_K {X : Cx} {xs ys : List Str} {scope : Scope} {C : Addr} {s₀ : Shared} {H₀ : Hp} {fp : List Addr} : (blockCx X xs ys scope C s₀ H₀ fp).K = X.K := rfl
theorem ix_nat {ns : List Int} {k : Nat} (h : (k : Int) < ns.length) : atI (ns.map V.int) (k : Int) = some (.int (ns.getD k 0)) := by
  refine atI_nat ?_
  have h' : k < ns.length := by omega
  rw [List.getElem?_map, List.getElem?_eq_getElem h', List.getD_eq_getElem?_getD, List.getElem?_eq_getElem h']
  rfl
theorem lc_by {J : It} {n : Nat} {ns : List Str} {js : List Nat} {g : TG} {te : TE} {σ : St} {H : Hp} {Q : VK} (Pv : Nat → List V → St → Hp → Prop) (h0 : Pv 0 [] (lcSt ns js σ) H) (hn : n ≤ sizeLine) (hl : ∀ i ys σ H, Pv i ys σ H → ys.length ≤ i)
    (hgo : ∀ i ys σ H, i < n → Pv i ys σ H → J.go i H) (hst : ∀ ys σ H, Pv n ys σ H → J.stop n H)
    (hs : ∀ i ys σ H x H' (C : V → St → Hp → Prop), i < n → Pv i ys σ H → J.yld i H x H' → (∀ y σ2 H3, Pv (i + 1) (ys ++ [y]) σ2 H3 → C y σ2 H3) → g x σ H' fun σ2 H2 => te σ2 H2 fun y H3 => C y σ2 H3)
    (hd : ∀ ys σ H, Pv n ys σ H → ∀ p, H p = none → Q (.ref p) (upd H p (.lst ys))) :
    LcW J ns js g none te σ H Q := by
  refine ⟨fun i m ys σ H => i + m = n ∧ Pv i ys σ H, ⟨n, by omega, h0⟩, fun i m ys σ H ⟨e, w⟩ => ?_⟩
  by_cases hi : i < n
  · refine .inr ⟨hgo i ys σ H hi w, Nat.lt_of_le_of_lt (hl _ _ _ _ w) (by omega), fun x H' hy => ?_⟩
    exact hs i ys σ H x H' (fun y σ2 H3 => ∃ m', m' < m ∧ i + 1 + m' = n ∧ Pv (i + 1) (ys ++ [y]) σ2 H3) hi w hy fun y σ2 H3 q => ⟨m - 1, by omega, by omega, q⟩
  · have : i = n := by omega
    subst this
    exact .inl ⟨hst ys σ H w, hd ys σ H w⟩
theorem lc_tup {K : PySem.W.Frag} {a : Addr} {xs : List V} {ns : List Str} {js : List Nat} {g : TG} {te : TE} {σ : St} {H : Hp} {Q : VK} (Pv : Nat → List V → St → Hp → Prop) (h0 : Pv 0 [] (lcSt ns js σ) H) (hz : xs.length ≤ sizeLine) (hl : ∀ i ys σ H, Pv i ys σ H → ys.length ≤ i)
    (hK : ∀ i ys σ H, Pv i ys σ H → SqT K H a xs)
    (hs : ∀ (i : Nat) x ys σ H (C : V → St → Hp → Prop), xs[i]? = some x → Pv i ys σ H → (∀ y σ2 H3, Pv (i + 1) (ys ++ [y]) σ2 H3 → C y σ2 H3) → g x σ H fun σ2 H2 => te σ2 H2 fun y H3 => C y σ2 H3)
    (hd : ∀ ys σ H, Pv xs.length ys σ H → ∀ p, H p = none → Q (.ref p) (upd H p (.lst ys))) :
    LcW (Itt K a) ns js g none te σ H Q :=
  lc_by (n := xs.length) Pv h0 hz hl (fun i ys σ H hi w => ⟨xs, xs[i], hK i ys σ H w, List.getElem?_eq_getElem hi⟩) (fun ys σ H w => ⟨xs, hK _ ys σ H w, Nat.le_refl _⟩)
    (fun i ys σ H x H' C hi w ⟨e, hx⟩ hC => by subst e; exact hs i x ys σ _ C (hx xs (hK i ys σ _ w)) w hC) hd
theorem lc_list {K : PySem.W.Frag} {a : Addr} {xs : List V} {ns : List Str} {js : List Nat} {g : TG} {te : TE} {σ : St} {H : Hp} {Q : VK} (Pv : Nat → List V → St → Hp → Prop) (h0 : Pv 0 [] (lcSt ns js σ) H) (hz : xs.length ≤ sizeLine) (hl : ∀ i ys σ H, Pv i ys σ H → ys.length ≤ i)
    (hK : ∀ i ys σ H, Pv i ys σ H → SqL K H a xs)
    (hs : ∀ (i : Nat) x ys σ H (C : V → St → Hp → Prop), xs[i]? = some x → Pv i ys σ H → (∀ y σ2 H3, Pv (i + 1) (ys ++ [y]) σ2 H3 → C y σ2 H3) → g x σ H fun σ2 H2 => te σ2 H2 fun y H3 => C y σ2 H3)
    (hd : ∀ ys σ H, Pv xs.length ys σ H → ∀ p, H p = none → Q (.ref p) (upd H p (.lst ys))) :
    LcW (Itl K a) ns js g none te σ H Q :=
  lc_by (n := xs.length) Pv h0 hz hl (fun i ys σ H hi w => ⟨xs, xs[i], hK i ys σ H w, List.getElem?_eq_getElem hi⟩) (fun ys σ H w => ⟨xs, hK _ ys σ H w, Nat.le_refl _⟩)
    (fun i ys σ H x H' C hi w ⟨e, hx⟩ hC => by subst e; exact hs i x ys σ _ C (hx xs (hK i ys σ _ w)) w hC) hd
def ForW (J : It) (g : TG) (tb : TS) (D : Ends) (σ : St) (H : Hp) : Prop := ∃ W : Nat → Nat → St → Hp → Prop, (∃ m, W 0 m σ H) ∧ ∀ i m σ H, W i m σ H →
  (J.stop i H ∧ D.nx σ H) ∨ (J.go i H ∧ ∃ N : St → Hp → Prop, (∀ σ' H', N σ' H' → ∃ m', m' < m ∧ W (i + 1) m' σ' H') ∧ ∀ x H', J.yld i H x H' → g x σ H' fun σ2 H2 => tb { D with nx := N, ct := N, bk := D.nx } σ2 H2)
theorem tFor_eq {wi : TI} {g : TG} {tb : TS} {D : Ends} {σ : St} {H : Hp} : tFor wi g tb D σ H = wi σ H fun J H1 => ForW J g tb D σ H1 := rfl
theorem tLC_eq {n : List Str} {js : List Nat} {wi : TI} {g : TG} {tc : Option TT} {te : TE} {σ : St} {H : Hp} {Q : VK} : tLC n js wi g tc te σ H Q = wi σ H fun J H1 => LcW J n js g tc te σ H1 Q := rfl
theorem fw_list {K : PySem.W.Frag} {a : Addr} {xs : List V} {g : TG} {tb : TS} {D : Ends} {σ : St} {H : Hp} (Pv : Nat → St → Hp → Prop) (h0 : Pv 0 σ H) (hl : ∀ i σ H, i ≤ xs.length → Pv i σ H → SqL K H a xs)
    (hs : ∀ i x σ H, xs[i]? = some x → Pv i σ H → g x σ H fun σ2 H2 => tb { D with nx := Pv (i + 1), ct := Pv (i + 1), bk := D.nx } σ2 H2) (hd : ∀ σ H, Pv xs.length σ H → D.nx σ H) : ForW (Itl K a) g tb D σ H := for_list Pv h0 hl hs hd
theorem fw_tup {K : PySem.W.Frag} {a : Addr} {xs : List V} {g : TG} {tb : TS} {D : Ends} {σ : St} {H : Hp} (Pv : Nat → St → Hp → Prop) (h0 : Pv 0 σ H) (hl : ∀ i σ H, i ≤ xs.length → Pv i σ H → SqT K H a xs)
    (hs : ∀ i x σ H, xs[i]? = some x → Pv i σ H → g x σ H fun σ2 H2 => tb { D with nx := Pv (i + 1), ct := Pv (i + 1), bk := D.nx } σ2 H2) (hd : ∀ σ H, Pv xs.length σ H → D.nx σ H) : ForW (Itt K a) g tb D σ H := for_tup Pv h0 hl hs hd
theorem fw_range {lo : Int} {n : Nat} {g : TG} {tb : TS} {D : Ends} {σ : St} {H : Hp} (Pv : Nat → St → Hp → Prop) (h0 : Pv 0 σ H)
    (hs : ∀ i σ H, i < n → Pv i σ H → g (.int (lo + i)) σ H fun σ2 H2 => tb { D with nx := Pv (i + 1), ct := Pv (i + 1), bk := D.nx } σ2 H2) (hd : ∀ σ H, Pv n σ H → D.nx σ H) : ForW (Itr lo n) g tb D σ H := for_range Pv h0 hs hd
theorem seq_abs {t u : TS} {D : Ends} {σ : St} {H : Hp} (h : ∀ N : St → Hp → Prop, (∀ σ H, u D σ H → N σ H) → t { D with nx := N } σ H) : tSeq t u D σ H := h (u D) fun _ _ z => z
theorem if_abs {c : TT} {t u : TS} {D : Ends} {σ : St} {H : Hp} (h : ∀ T U : Hp → Prop, (∀ H1, t D σ H1 → T H1) → (∀ H1, u D σ H1 → U H1) → c σ H fun b H1 => if b = true then T H1 else U H1) : tIfS c t u D σ H := h (t D σ) (u D σ) (fun _ z => z) fun _ z => z
theorem seq_join {t u : TS} {D : Ends} {σ : St} {H : Hp} (J : St → Hp → Prop) (h1 : ∀ N : St → Hp → Prop, (∀ σ H, J σ H → N σ H) → t { D with nx := N } σ H) (h2 : ∀ σ H, J σ H → u D σ H) : tSeq t u D σ H := h1 (u D) h2
structure Bi (mg : Str → Option Value) : Prop where
  len : mg "len" = none
  range : mg "range" = none
  isinstance : mg "isinstance" = none
  max : mg "max" = none
  sum : mg "sum" = none
  all : mg "all" = none
  tuple : mg "tuple" = none
  list : mg "list" = none
  sorted : mg "sorted" = none
  set : mg "set" = none
  int : mg "int" = none
  bool : mg "bool" = none
  str : mg "str" = none
  dict : mg "dict" = none
theorem has_of {P : Program} {w : World} {K : PySem.W.Frag} {mg : Str → Option Value} {base : Heap} {k : Nat} {x : Str} {ps : List Str} {sp : Sp} {st : Stmt} {f : Addr} {fd : FuncData} (F : Fun K x x st f fd) (ok : FnOk P w K mg base CX0 k f fd ps sp) (b : Binds K fd ps [])
    (m : mg x = some (.ref f)) : Has P w K mg base k x ps sp := ⟨f, fd, ok, b, F.kp, m⟩
end L2
set_option Elab.async false
set_option linter.all false
set_option maxRecDepth 100000
namespace L2
open PySem PySem.Spec PyProof.Rows
inductive Dt where
  | non | bl (b : Bool) | int (i : Int) | str (x : Str) | tup (ds : List Dt) | lst (ds : List Dt)
mutual
def DAt (H : Hp) : Dt → V → Prop
  | .non, v => v = .non
  | .bl b, v => v = .bl b
  | .int i, v => v = .int i
  | .str x, v => v = .str x
  | .tup ds, v => ∃ a vs, v = .ref a ∧ H a = some (.tup vs) ∧ DAts H ds vs
  | .lst ds, v => ∃ a vs, v = .ref a ∧ H a = some (.lst vs) ∧ DAts H ds vs
def DAts (H : Hp) : List Dt → List V → Prop
  | [], vs => vs = []
  | d :: ds, vs => ∃ v r, vs = v :: r ∧ DAt H d v ∧ DAts H ds r
end
mutual
theorem DAt.same {H H' : Hp} (e : Same H H') : ∀ {d : Dt} {v : V}, DAt H d v → DAt H' d v
  | .non, _, h => h
  | .bl _, _, h => h
  | .int _, _, h => h
  | .str _, _, h => h
  | .tup ds, v, h => by
    obtain ⟨a, vs, e1, e2, e3⟩ := h
    exact ⟨a, vs, e1, e _ _ e2, DAts.same e e3⟩
  | .lst ds, v, h => by
    obtain ⟨a, vs, e1, e2, e3⟩ := h
    exact ⟨a, vs, e1, e _ _ e2, DAts.same e e3⟩
theorem DAts.same {H H' : Hp} (e : Same H H') : ∀ {ds : List Dt} {vs : List V}, DAts H ds vs → DAts H' ds vs
  | [], _, h => h
  | d :: ds, vs, h => by
    obtain ⟨v, r, e1, e2, e3⟩ := h
    exact ⟨v, r, e1, DAt.same e e2, DAts.same e e3⟩
end
theorem DAts.length {H : Hp} : ∀ {ds : List Dt} {vs : List V}, DAts H ds vs → vs.length = ds.length
  | [], vs, h => by
    have h : vs = [] := h
    rw [h]
    rfl
  | d :: ds, vs, h => by
    obtain ⟨v, r, e1, e2, e3⟩ := h
    rw [e1, List.length_cons, List.length_cons, DAts.length e3]
theorem DAts.get {H : Hp} : ∀ {ds : List Dt} {vs : List V} {i : Nat} {d : Dt}, DAts H ds vs → ds[i]? = some d → ∃ v, vs[i]? = some v ∧ DAt H d v
  | [], vs, i, d, _, e => by simp at e
  | d :: ds, vs, 0, d', h, e => by
    obtain ⟨v, r, e1, e2, e3⟩ := h
    simp at e
    subst e; subst e1
    exact ⟨v, rfl, e2⟩
  | d :: ds, vs, i + 1, d', h, e => by
    obtain ⟨v, r, e1, e2, e3⟩ := h
    subst e1
    simp at e
    obtain ⟨u, h1, h2⟩ := DAts.get e3 e
    exact ⟨u, by simpa using h1, h2⟩
theorem DAts.append {H : Hp} : ∀ {ds es : List Dt} {vs us : List V}, DAts H ds vs → DAts H es us → DAts H (ds ++ es) (vs ++ us)
  | [], es, vs, us, h, h' => by
    have h : vs = [] := h
    subst h
    exact h'
  | d :: ds, es, vs, us, h, h' => by
    obtain ⟨v, r, e1, e2, e3⟩ := h
    subst e1
    exact ⟨v, r ++ us, rfl, e2, DAts.append e3 h'⟩
theorem DAts.take {H : Hp} : ∀ {ds : List Dt} {vs : List V} (n : Nat), DAts H ds vs → DAts H (ds.take n) (vs.take n)
  | ds, vs, 0, _ => rfl
  | [], vs, n + 1, h => by
    have h : vs = [] := h
    subst h
    rfl
  | d :: ds, vs, n + 1, h => by
    obtain ⟨v, r, e1, e2, e3⟩ := h
    subst e1
    exact ⟨v, r.take n, rfl, e2, DAts.take n e3⟩
theorem DAts.drop {H : Hp} : ∀ {ds : List Dt} {vs : List V} (n : Nat), DAts H ds vs → DAts H (ds.drop n) (vs.drop n)
  | ds, vs, 0, h => by simpa using h
  | [], vs, n + 1, h => by
    have h : vs = [] := h
    subst h
    rfl
  | d :: ds, vs, n + 1, h => by
    obtain ⟨v, r, e1, e2, e3⟩ := h
    subst e1
    simpa using DAts.drop n e3
theorem DAts.one {H : Hp} {d : Dt} {v : V} (h : DAt H d v) : DAts H [d] [v] := ⟨v, [], rfl, h, rfl⟩
def DFit : Nat → Dt → Prop
  | n + 1, .tup ds => ds.length ≤ 1000 ∧ ∀ d ∈ ds, DFit n d
  | n + 1, .lst ds => ds.length ≤ 1000 ∧ ∀ d ∈ ds, DFit n d
  | 0, .tup _ => False
  | 0, .lst _ => False
  | _, _ => True
inductive Tm where
  | name (x : Str)
  | node (w : Str) (ts : List Tm)
mutual
def toD : Tm → Dt
  | .name x => .tup [.str "name", .str x]
  | .node w ts => .tup (.str w :: toDs ts)
def toDs : List Tm → List Dt
  | [] => []
  | t :: ts => toD t :: toDs ts
end
theorem toDs_map : ∀ ts : List Tm, toDs ts = ts.map toD
  | [] => rfl
  | t :: ts => by rw [toDs, toDs_map ts, List.map_cons]
theorem toD_node (w : Str) (ts : List Tm) : toD (.node w ts) = .tup (.str w :: ts.map toD) := by rw [toD, toDs_map]
abbrev TAt (H : Hp) (t : Tm) (v : V) : Prop := DAt H (toD t) v
abbrev TAts (H : Hp) (ts : List Tm) (vs : List V) : Prop := DAts H (ts.map toD) vs
theorem TAt.name {H : Hp} {x : Str} {v : V} (h : TAt H (.name x) v) : ∃ a, v = .ref a ∧ H a = some (.tup [.str "name", .str x]) := by
  obtain ⟨a, vs, e1, e2, u, r, e3, e4, e5⟩ := h
  obtain ⟨u2, r2, e6, e7, e8⟩ := e5
  have e4 : u = .str "name" := e4
  have e7 : u2 = .str x := e7
  have e8 : r2 = [] := e8
  subst e3; subst e4; subst e6; subst e7; subst e8
  exact ⟨a, e1, e2⟩
theorem TAt.mkName {H : Hp} {x : Str} {a : Addr} (h : H a = some (.tup [.str "name", .str x])) : TAt H (.name x) (.ref a) :=
  ⟨a, _, rfl, h, _, _, rfl, rfl, _, _, rfl, rfl, rfl⟩
theorem TAt.node {H : Hp} {w : Str} {ts : List Tm} {v : V} (h : TAt H (.node w ts) v) : ∃ a vs, v = .ref a ∧ H a = some (.tup (.str w :: vs)) ∧ TAts H ts vs := by
  unfold TAt at h
  rw [toD_node] at h
  obtain ⟨a, vs, e1, e2, u, r, e3, e4, e5⟩ := h
  have e4 : u = .str w := e4
  subst e3; subst e4
  exact ⟨a, r, e1, e2, e5⟩
theorem TAt.mkNode {H : Hp} {w : Str} {ts : List Tm} {a : Addr} {vs : List V} (h : H a = some (.tup (.str w :: vs))) (hs : TAts H ts vs) : TAt H (.node w ts) (.ref a) := by
  unfold TAt
  rw [toD_node]
  exact ⟨a, _, rfl, h, _, _, rfl, rfl, hs⟩
def Wrd (w : Str) : Prop := w = "none" ∨ w = "all" ∨ w = "not" ∨ w = "both" ∨ w = "either"
theorem Wrd.ne {w : Str} (h : Wrd w) : w ≠ "name" := by
  rcases h with rfl | rfl | rfl | rfl | rfl <;> decide +kernel
def Sh (w : Str) (n : Nat) : Prop := (w = "none" ∧ n = 0) ∨ (w = "all" ∧ n = 0) ∨ (w = "not" ∧ n = 1) ∨ (w = "both" ∧ 2 ≤ n) ∨ (w = "either" ∧ 2 ≤ n)
structure Nm (x : Str) : Prop where
  pos : 1 ≤ x.length
  most : x.length ≤ 8
  low : ∀ c ∈ x.cps.toList, 97 ≤ c ∧ c ≤ 122
  nn : x ≠ "none"
  na : x ≠ "all"
def Fit : Nat → Tm → Prop
  | _, .name x => Nm x
  | 0, .node w ts => Sh w ts.length ∧ ts = []
  | n + 1, .node w ts => Sh w ts.length ∧ ∀ t ∈ ts, Fit n t
theorem Fit.up : ∀ {n : Nat} {t : Tm}, Fit n t → Fit (n + 1) t
  | n, .name _, h => by unfold Fit at h ⊢; exact h
  | 0, .node w ts, h => by
    unfold Fit at h
    obtain ⟨h1, h2⟩ := h
    subst h2
    exact ⟨h1, fun _ z => nomatch z⟩
  | n + 1, .node w ts, h => by
    unfold Fit at h ⊢
    exact ⟨h.1, fun t ht => Fit.up (h.2 t ht)⟩
theorem Fit.mono {n m : Nat} {t : Tm} (h : Fit n t) (hm : n ≤ m) : Fit m t := by
  obtain ⟨k, rfl⟩ := Nat.le.dest hm
  induction k with
  | zero => exact h
  | succ k ih => exact Fit.up (ih (by omega))
theorem Fit.part {n : Nat} {w : Str} {ts : List Tm} {t : Tm} (h : Fit (n + 1) (.node w ts)) (ht : t ∈ ts) : Fit n t := h.2 t ht
mutual
def wt : Tm → Nat
  | .name _ => 1
  | .node _ ts => 1 + wts ts
def wts : List Tm → Nat
  | [] => 0
  | t :: ts => wt t + wts ts
end
theorem same_new {H : Hp} {p : Addr} (h : H p = none) (o : HO) : Same H (upd H p o) := fun b u q => by rw [upd_ne (ne_of_none q h)]; exact q
theorem len_app (p q : Str) : (p ++ q).length = p.length + q.length := by
  show (p.cps ++ q.cps).size = p.cps.size + q.cps.size
  rw [Array.size_append]
theorem cps_app (p q : Str) : (p ++ q).cps.toList = p.cps.toList ++ q.cps.toList := by
  show (p.cps ++ q.cps).toList = _
  rw [Array.toList_append]
theorem small {n : Nat} (h : n ≤ 1000) : n ≤ sizeLine := Nat.le_of_lt (small1000 h)
theorem TAts.one {H : Hp} {t : Tm} {v : V} (h : TAt H t v) : TAts H [t] [v] := DAts.one h
theorem TAts.append {H : Hp} {ts us : List Tm} {vs ws : List V} (h : TAts H ts vs) (h' : TAts H us ws) : TAts H (ts ++ us) (vs ++ ws) := by
  unfold TAts
  rw [List.map_append]
  exact DAts.append h h'
theorem TAts.take {H : Hp} {ts : List Tm} {vs : List V} (n : Nat) (h : TAts H ts vs) : TAts H (ts.take n) (vs.take n) := by
  unfold TAts
  rw [List.map_take]
  exact DAts.take n h
theorem TAts.drop {H : Hp} {ts : List Tm} {vs : List V} (n : Nat) (h : TAts H ts vs) : TAts H (ts.drop n) (vs.drop n) := by
  unfold TAts
  rw [List.map_drop]
  exact DAts.drop n h
theorem TAts.length {H : Hp} {ts : List Tm} {vs : List V} (h : TAts H ts vs) : vs.length = ts.length := by
  have := DAts.length h
  rw [List.length_map] at this
  exact this
theorem TAts.get {H : Hp} {ts : List Tm} {vs : List V} {i : Nat} {t : Tm} (h : TAts H ts vs) (ht : ts[i]? = some t) : ∃ v, vs[i]? = some v ∧ TAt H t v :=
  DAts.get (d := toD t) h (by rw [List.getElem?_map, ht]; rfl)
def TupSame (H H' : Hp) : Prop := ∀ b xs, H b = some (.tup xs) → H' b = some (.tup xs)
theorem TupSame.refl (H : Hp) : TupSame H H := fun _ _ h => h
theorem TupSame.trans {H H1 H2 : Hp} (a : TupSame H H1) (b : TupSame H1 H2) : TupSame H H2 := fun c o h => b c o (a c o h)
theorem Same.tups {H H' : Hp} (e : Same H H') : TupSame H H' := fun b xs h => e b _ h
theorem TupSame.upd_lst {H H' : Hp} {a : Addr} {o : HO} {xs : List V} (e : TupSame H H') (h : H' a = some (.lst xs)) : TupSame H (upd H' a o) := fun b ys hb => by
  rw [upd_ne (ne_of (e _ _ hb) h (by intro z; cases z))]
  exact e _ _ hb
theorem Same.upd {H H1 : Hp} {a : Addr} {o : HO} (e : Same H H1) (h : H a = none) : Same H (upd H1 a o) := fun b u hb => by
  rw [upd_ne (ne_of_none hb h)]
  exact e _ _ hb
mutual
theorem TAt.tups {H H' : Hp} (e : TupSame H H') : ∀ {t : Tm} {v : V}, TAt H t v → TAt H' t v
  | .name x, v, h => by
    obtain ⟨a, e1, h2⟩ := TAt.name h
    subst e1
    exact TAt.mkName (e _ _ h2)
  | .node w ts, v, h => by
    obtain ⟨a, vs, e1, h2, hs⟩ := TAt.node h
    subst e1
    exact TAt.mkNode (e _ _ h2) (TAts.tups e hs)
theorem TAts.tups {H H' : Hp} (e : TupSame H H') : ∀ {ts : List Tm} {vs : List V}, TAts H ts vs → TAts H' ts vs
  | [], vs, h => h
  | t :: ts, vs, h => by
    obtain ⟨v, r, e1, e2, e3⟩ := h
    exact ⟨v, r, e1, TAt.tups e e2, TAts.tups e e3⟩
end
end L2
set_option Elab.async false
set_option linter.all false
set_option maxRecDepth 100000
namespace L2
open PySem PySem.Spec PyProof.Rows
structure KD (w : World) (K : PySem.W.Frag) (a : Addr) (kvs : List (Key × V)) : Prop where
  dict : ∀ (P : Program) (h : Heap), K.In h → ∃ vs, KV kvs vs ∧ h.DictOf (mixKind P w) a vs
def tKGet (w : World) (K : PySem.W.Frag) (td ty : TE) : TE := fun σ H Q => td σ H fun x H1 => ty σ H1 fun y H2 => ∃ a kvs k v, x = .ref a ∧ y = kV k ∧ KD w K a kvs ∧ valV kvs k = some v ∧ Q v H2
def entOk (w : World) : List DictEntry → List (Str × Str) → Prop
  | [], r => r = []
  | e :: es, r => ∃ x y t u r', r = (x, y) :: r' ∧ e.hash = hashStr w x ∧ e.key = .str x t ∧ e.val = .str y u ∧ entOk w es r'
theorem entOk.keys {w : World} {P : Program} : ∀ {es : List DictEntry} {r : List (Str × Str)}, entOk w es r → ∀ e ∈ es, ∃ k, (mixKind P w).is k e.key = true ∧ e.hash = (mixKind P w).hash k
  | [], _, _, e, he => nomatch he
  | e :: es, r, h, e', he => by
    obtain ⟨x, y, t, u, r', _, h1, h2, _, h4⟩ := h
    rcases List.mem_cons.mp he with rfl | he
    · exact ⟨.inr x, by rw [h2]; exact mixKind_str P w x t, h1⟩
    · exact entOk.keys h4 e' he
theorem entOk.pairs {w : World} {P : Program} : ∀ {es : List DictEntry} {r : List (Str × Str)}, entOk w es r → ∃ vs : List (Key × Value), KV (r.map fun p => ((.inr p.1 : Key), V.str p.2)) vs ∧ Pairs (mixKind P w) es vs ∧ vs.map (·.1) = r.map fun p => (.inr p.1 : Key)
  | [], r, h => by
    have h : r = [] := h
    subst h
    exact ⟨[], .nil, .nil, rfl⟩
  | e :: es, r, h => by
    obtain ⟨x, y, t, u, r', rfl, h1, h2, h3, h4⟩ := h
    obtain ⟨vs, a, b, c⟩ := entOk.pairs (P := P) h4
    refine ⟨(.inr x, .str y u) :: vs, .cons ⟨rfl, u, rfl⟩ a, .cons (by rw [h2]; exact mixKind_str P w x t) h3 b, ?_⟩
    rw [List.map_cons, List.map_cons, c]
theorem KD.of {w : World} {K : PySem.W.Frag} {a : Addr} {es : Array DictEntry} {ep : Nat} {r : List (Str × Str)} (o : K.lookup a = some ⟨.type "dict", none, .dict es ep, #[]⟩) (e : entOk w es.toList r) (n : (r.map fun p => (.inr p.1 : Key)).Nodup) :
    KD w K a (r.map fun p => ((.inr p.1 : Key), V.str p.2)) := ⟨fun P h X => by
  obtain ⟨vs, h1, h2, h3⟩ := entOk.pairs (P := P) e
  exact ⟨vs, h1, _, es, ep, X _ _ o, ⟨rfl, rfl, rfl⟩, rfl, fun x hx => entOk.keys e x (by simpa using hx), h2, by rw [h3]; exact n⟩⟩
theorem cx_w {CX : CXT} {P : Program} {w : World} {K : PySem.W.Frag} {mg : Str → Option Value} {base : Heap} {N : List Str} {qual : Str} {scope : Scope} {f : Addr} {cd : Value} {A : Around} {outer : List Env} {s : Shared} {H : Hp} {E : XK} : (cxOf CX P w K mg base N qual scope f cd A outer s H E).w = w := rfl
theorem bk_w {X : Cx} {xs ys : List Str} {scope : Scope} {C : Addr} {s₀ : Shared} {H₀ : Hp} {fp : List Addr} : (blockCx X xs ys scope C s₀ H₀ fp).w = X.w := rfl
theorem kit_same {K : PySem.W.Frag} {T : String} : PySem.W.kitOne K (.type T) (.type T) = some true := by
  unfold PySem.W.kitOne
  rw [if_pos (by simp)]
def kitF (S T : String) : Bool := !(Value.type S == Value.type T) && PySem.W.kitMeta T && ((PySem.fastBuiltinMro S).map (·.contains (.type T)) == some false)
theorem kit_f {K : PySem.W.Frag} {S T : String} (h : kitF S T = true) : PySem.W.kitOne K (.type S) (.type T) = some false := by
  unfold kitF at h
  simp only [Bool.and_eq_true, Bool.not_eq_true', beq_iff_eq] at h
  unfold PySem.W.kitOne
  rw [if_neg (by rw [h.1.1]; decide)]
  show (if PySem.W.kitMeta T = true then PySem.W.subIn K (.type S) (.type T) else none) = _
  rw [if_pos h.1.2]
  exact h.2
theorem kit_sb {K : PySem.W.Frag} : PySem.W.kitOne K (.type "str") (.type "bool") = some false := kit_f (by decide +kernel)
theorem kit_si {K : PySem.W.Frag} : PySem.W.kitOne K (.type "str") (.type "int") = some false := kit_f (by decide +kernel)
theorem kit_tb {K : PySem.W.Frag} : PySem.W.kitOne K (.type "tuple") (.type "bool") = some false := kit_f (by decide +kernel)
theorem kit_ti {K : PySem.W.Frag} : PySem.W.kitOne K (.type "tuple") (.type "int") = some false := kit_f (by decide +kernel)
theorem kit_ts {K : PySem.W.Frag} : PySem.W.kitOne K (.type "tuple") (.type "str") = some false := kit_f (by decide +kernel)
theorem kit_lb {K : PySem.W.Frag} : PySem.W.kitOne K (.type "list") (.type "bool") = some false := kit_f (by decide +kernel)
theorem kit_li {K : PySem.W.Frag} : PySem.W.kitOne K (.type "list") (.type "int") = some false := kit_f (by decide +kernel)
theorem kit_ls {K : PySem.W.Frag} : PySem.W.kitOne K (.type "list") (.type "str") = some false := kit_f (by decide +kernel)
theorem kit_lt {K : PySem.W.Frag} : PySem.W.kitOne K (.type "list") (.type "tuple") = some false := kit_f (by decide +kernel)
theorem kit_ib {K : PySem.W.Frag} : PySem.W.kitOne K (.type "int") (.type "bool") = some false := kit_f (by decide +kernel)
theorem kit_nb {K : PySem.W.Frag} : PySem.W.kitOne K (.type "NoneType") (.type "bool") = some false := kit_f (by decide +kernel)
theorem kit_ni {K : PySem.W.Frag} : PySem.W.kitOne K (.type "NoneType") (.type "int") = some false := kit_f (by decide +kernel)
theorem kit_ns {K : PySem.W.Frag} : PySem.W.kitOne K (.type "NoneType") (.type "str") = some false := kit_f (by decide +kernel)
theorem rec_ok {P : Program} {w : World} {K : PySem.W.Frag} {mg : Str → Option Value} {base : Heap} {x : Str} {ps : List Str} {st : Stmt} {f : Addr} {fd : FuncData} {sp : Nat → Sp} (F : Fun K x x st f fd) (b : Binds K fd ps []) (m : mg x = some (.ref f))
    (h0 : ∀ vs H Q E, ¬ sp 0 vs H Q E) (step : ∀ n, Has P w K mg base n x ps (sp n) → FnOk P w K mg base CX0 (n + 1) f fd ps (sp (n + 1))) : ∀ n, FnOk P w K mg base CX0 n f fd ps (sp n)
  | 0 => ⟨fun vs H Q E h => (h0 vs H Q E h).elim, fun A outer s H args us vs Q E _ _ _ _ h => (h0 vs H Q E h).elim⟩
  | n + 1 => step n (has_of F (rec_ok F b m h0 step n) b m)
def mw (w : Str) : Str := if w = "none" then "all" else if w = "all" then "none" else if w = "both" then "either" else if w = "either" then "both" else w
mutual
def mir : Tm → Tm
  | .name x => .name x
  | .node w ts => .node (mw w) (mirs ts)
def mirs : List Tm → List Tm
  | [] => []
  | t :: ts => mir t :: mirs ts
end
theorem mirs_map : ∀ ts : List Tm, mirs ts = ts.map mir
  | [] => rfl
  | t :: ts => by rw [mirs, mirs_map ts, List.map_cons]
theorem mir_node (w : Str) (ts : List Tm) : mir (.node w ts) = .node (mw w) (ts.map mir) := by rw [mir, mirs_map]
theorem Sh.mw {w : Str} {n : Nat} (h : Sh w n) : Sh (mw w) n ∧ L2.mw (L2.mw w) = w := by
  rcases h with ⟨rfl, h⟩ | ⟨rfl, h⟩ | ⟨rfl, h⟩ | ⟨rfl, h⟩ | ⟨rfl, h⟩
  · exact ⟨.inr (.inl ⟨by decide +kernel, h⟩), by decide +kernel⟩
  · exact ⟨.inl ⟨by decide +kernel, h⟩, by decide +kernel⟩
  · exact ⟨.inr (.inr (.inl ⟨by decide +kernel, h⟩)), by decide +kernel⟩
  · exact ⟨.inr (.inr (.inr (.inr ⟨by decide +kernel, h⟩))), by decide +kernel⟩
  · exact ⟨.inr (.inr (.inr (.inl ⟨by decide +kernel, h⟩))), by decide +kernel⟩
mutual
theorem wt_mir : ∀ t : Tm, wt (mir t) = wt t
  | .name x => by rw [mir]
  | .node w ts => by rw [mir, wt, wt, wts_mirs ts]
theorem wts_mirs : ∀ ts : List Tm, wts (mirs ts) = wts ts
  | [] => by rw [mirs]
  | t :: ts => by rw [mirs, wts, wts, wt_mir t, wts_mirs ts]
end
theorem Fit.mir : ∀ {n : Nat} {t : Tm}, Fit n t → Fit n (mir t) ∧ L2.mir (L2.mir t) = t
  | n, .name x, h => by rw [L2.mir, L2.mir]; exact ⟨h, rfl⟩
  | 0, .node w ts, h => by
    have h2 : ts = [] := h.2
    subst h2
    rw [mir_node, mir_node]
    exact ⟨⟨h.1.mw.1, rfl⟩, by rw [h.1.mw.2]; rfl⟩
  | n + 1, .node w ts, h => by
    have a : ∀ t ∈ ts, Fit n (L2.mir t) ∧ L2.mir (L2.mir t) = t := fun t ht => Fit.mir (h.2 t ht)
    rw [mir_node, mir_node]
    refine ⟨⟨by rw [List.length_map]; exact h.1.mw.1, fun t ht => ?_⟩, ?_⟩
    · obtain ⟨u, hu, rfl⟩ := List.mem_map.mp ht
      exact (a u hu).1
    · rw [h.1.mw.2]
      have e : (ts.map L2.mir).map L2.mir = ts := by
        have go : ∀ us : List Tm, (∀ t ∈ us, L2.mir (L2.mir t) = t) → (us.map L2.mir).map L2.mir = us := by
          intro us
          induction us with
          | nil => intro _; rfl
          | cons u r ih =>
            intro hu
            rw [List.map_cons, List.map_cons, hu u (by simp), ih fun t ht => hu t (by simp [ht])]
        exact go ts fun t ht => (a t ht).2
      rw [e]
theorem cut_tail (x : V) (xs : List V) : cutV (x :: xs) (some 1) none = xs := by
  unfold cutV
  have e : HT.sIx (x :: xs).length 0 (some ((1 : Nat) : Int)) = 1 := by rw [HT.sIx_nat, List.length_cons]; omega
  have e : HT.sIx (x :: xs).length 0 (some 1) = 1 := e
  rw [e, HT.sIx_none, List.drop_one, List.tail_cons, List.take_of_length_le (by rw [List.length_cons]; omega)]
theorem TAts.snoc {H : Hp} {ts : List Tm} {vs : List V} {i : Nat} {t : Tm} {v : V} (ht : ts[i]? = some t) (h : TAts H (ts.take i) vs) (h1 : TAt H t v) : TAts H (ts.take (i + 1)) (vs ++ [v]) := by
  obtain ⟨hi, e⟩ := List.getElem?_eq_some_iff.mp ht
  rw [List.take_succ_eq_append_getElem hi, e]
  exact TAts.append h (TAts.one h1)
theorem Same.tup {K : PySem.W.Frag} {H H' : Hp} {a : Addr} {xs : List V} (e : Same H H') (h : SqT K H a xs) : SqT K H' a xs := by
  rcases h with (h | ⟨o, h⟩) | h
  · exact .inl (.inl (e _ _ h))
  · exact .inl (.inr ⟨o, e _ _ h⟩)
  · exact .inr h
theorem at0 {α : Type} {x : α} {xs : List α} : atI (x :: xs) 0 = some x := atI_nat (j := 0) (xs := x :: xs) rfl
theorem at1 {α : Type} {x y : α} {xs : List α} : atI (x :: y :: xs) 1 = some y := atI_nat (j := 1) (xs := x :: y :: xs) rfl
def dSay (p : Tm × Tm) : Dt := .tup [toD p.1, toD p.2]
def dRule (r : List (Tm × Tm) × (Tm × Tm)) : Dt := .tup [.lst (r.1.map dSay), dSay r.2]
abbrev SAt (H : Hp) (p : Tm × Tm) (v : V) : Prop := DAt H (dSay p) v
abbrev SAts (H : Hp) (ps : List (Tm × Tm)) (vs : List V) : Prop := DAts H (ps.map dSay) vs
abbrev RAt (H : Hp) (r : List (Tm × Tm) × (Tm × Tm)) (v : V) : Prop := DAt H (dRule r) v
theorem SAt.out {H : Hp} {p : Tm × Tm} {v : V} (h : SAt H p v) : ∃ a v1 v2, v = .ref a ∧ H a = some (.tup [v1, v2]) ∧ TAt H p.1 v1 ∧ TAt H p.2 v2 := by
  obtain ⟨a, vs, e1, e2, u, r, e3, h1, u2, r2, e4, h2, e5⟩ := h
  have e5 : r2 = [] := e5
  subst e5; subst e4; subst e3
  exact ⟨a, u, u2, e1, e2, h1, h2⟩
theorem RAt.out {H : Hp} {r : List (Tm × Tm) × (Tm × Tm)} {v : V} (h : RAt H r v) : ∃ a l s vs, v = .ref a ∧ H a = some (.tup [.ref l, s]) ∧ H l = some (.lst vs) ∧ SAts H r.1 vs ∧ SAt H r.2 s := by
  obtain ⟨a, vs, e1, e2, u, q, e3, ⟨l, ws, e6, e7, h1⟩, u2, r2, e4, h2, e5⟩ := h
  have e5 : r2 = [] := e5
  subst e5; subst e4; subst e3; subst e6
  exact ⟨a, l, u2, ws, e1, e2, e7, h1, h2⟩
theorem SAts.length {H : Hp} {ps : List (Tm × Tm)} {vs : List V} (h : SAts H ps vs) : vs.length = ps.length := by
  have := DAts.length h
  rw [List.length_map] at this
  exact this
theorem SAts.snoc {H : Hp} {ps : List (Tm × Tm)} {vs : List V} {i : Nat} {p : Tm × Tm} {v : V} (ht : ps[i]? = some p) (h : SAts H (ps.take i) vs) (h1 : SAt H p v) : SAts H (ps.take (i + 1)) (vs ++ [v]) := by
  obtain ⟨hi, e⟩ := List.getElem?_eq_some_iff.mp ht
  unfold SAts
  rw [List.take_succ_eq_append_getElem hi, e, List.map_append]
  exact DAts.append h (DAts.one h1)
def FitS (n m : Nat) (p : Tm × Tm) : Prop := (Fit n p.1 ∧ wt p.1 ≤ m) ∧ Fit n p.2 ∧ wt p.2 ≤ m
theorem DFit.up : ∀ {n : Nat} {d : Dt}, DFit n d → DFit (n + 1) d
  | n, .non, _ => by cases n <;> trivial
  | n, .bl _, _ => by cases n <;> trivial
  | n, .int _, _ => by cases n <;> trivial
  | n, .str _, _ => by cases n <;> trivial
  | 0, .tup _, h => h.elim
  | 0, .lst _, h => h.elim
  | n + 1, .tup ds, h => ⟨h.1, fun d hd => DFit.up (h.2 d hd)⟩
  | n + 1, .lst ds, h => ⟨h.1, fun d hd => DFit.up (h.2 d hd)⟩
def mirP (p : Tm × Tm) : Tm × Tm := (mir p.2, mir p.1)
theorem FitS.mir {n m : Nat} {p : Tm × Tm} (h : FitS n m p) : FitS n m (mirP p) := by
  refine ⟨⟨h.2.1.mir.1, ?_⟩, h.1.1.mir.1, ?_⟩
  · show wt (L2.mir p.2) ≤ m
    rw [wt_mir]
    exact h.2.2
  · show wt (L2.mir p.1) ≤ m
    rw [wt_mir]
    exact h.1.2
def cutI (ns : List Int) (lo hi : Option Int) : List Int := (ns.drop (HT.sIx ns.length 0 lo)).take (HT.sIx ns.length ns.length hi - HT.sIx ns.length 0 lo)
theorem cut_ints (ns : List Int) (lo hi : Option Int) : cutV (ns.map V.int) lo hi = (cutI ns lo hi).map V.int := by
  unfold cutV cutI
  rw [List.length_map, List.map_take, List.map_drop]
theorem cutI_len (ns : List Int) (lo hi : Option Int) : (cutI ns lo hi).length ≤ ns.length := by
  unfold cutI
  rw [List.length_take, List.length_drop]
  omega
theorem DFit.mono {n m : Nat} {d : Dt} (h : DFit n d) (hm : n ≤ m) : DFit m d := by
  obtain ⟨k, rfl⟩ := Nat.le.dest hm
  induction k with
  | zero => exact h
  | succ k ih => exact DFit.up (ih (by omega))
theorem FitS.mono {n m n' m' : Nat} {p : Tm × Tm} (h : FitS n m p) (h1 : n ≤ n') (h2 : m ≤ m') : FitS n' m' p := ⟨⟨h.1.1.mono h1, Nat.le_trans h.1.2 h2⟩, h.2.1.mono h1, Nat.le_trans h.2.2 h2⟩
end L2
set_option Elab.async false
set_option linter.all false
set_option maxRecDepth 100000
namespace L2
open PySem PySem.Spec PyProof.Rows
section
variable {X : Cx} (K : PySem.W.Frag)
theorem ix_listK (h : X.K = K := by rfl) : IxR X (rIxL K) := by subst h; exact ix_list
theorem ix_tupK (h : X.K = K := by rfl) : IxR X (rIxT K) := by subst h; exact ix_tup
end
end L2
set_option Elab.async false
set_option linter.all false
set_option maxRecDepth 100000
namespace L2
open PySem PySem.Spec PyProof.Rows
theorem F.lk_list_keys : typeLookup (.type "list") "keys" = pure none := by rw [typeLookup_type, PySem.builtinLookup_eq_fast]; kernel_rfl
theorem F.lk_list_ga : typeLookup (.type "list") "__getattr__" = pure none := by rw [typeLookup_type, PySem.builtinLookup_eq_fast]; kernel_rfl
theorem F.sub_ae : isSubtype (.type "AttributeError") (.type "AttributeError") = pure true := by rw [isSubtype_type]; kernel_rfl
def AeAt (h h' : Heap) (e : Addr) : Prop := (∀ b u, h.get? b = some u → h'.get? b = some u) ∧ ∃ o, h'.get? e = some o ∧ o.cls = .type "AttributeError"
section
variable {prog : Program} {w : World} {A : Around} {E : Value → Shared → Prop} {s : Shared} {a : Addr} {its : Array Value} {n : Nat} {sl : Array (Option Value)}
theorem raiseAttr {α : Type} {o : Value} {name msg : Str} {Q : α → Shared → Prop} (hA : A.handled = none) (hm : msg.length ≤ sizeLine)
    (hq : ∀ h' t' e, AeAt s.heap h' e → E (.ref e) { s with heap := h', toks := t' }) : wpAny (model prog w) A (raiseAttrError o name msg : Sem α) Q E s := by
  unfold raiseAttrError
  refine wpAny_bind (wpAny_mkStr (wpAny_bind ?_) hm)
  unfold newExc newTuple
  refine wpAny_bind (wpAny_newObj_type ?_ (by size_fits))
  refine wpAny_bind (m := firstArgMember _ _) (wpAny_of_eq (a := Value.none) (by
    simp only [firstArgMember]
    rw [show ((Manifest.find? "AttributeError").elim false fun t => t.mro.contains "StopIteration" || t.mro.contains "SystemExit") = false by decide +kernel]
    rfl) ?_)
  refine wpAny_newObj_type ?_ (by size_fits)
  refine wpAny_bind (wpAny_mkText ?_)
  refine wpAny_bind ?_
  obtain ⟨h, g, d, t, os⟩ := s
  dsimp only at hq ⊢
  have hk1 : ∀ b u, h.get? b = some u → (h.push { cls := Value.type "tuple", data := Data.seq #[Value.str msg t] }).get? b = some u := fun b u e => Heap.get?_push_of_some _ e
  generalize h.push { cls := Value.type "tuple", data := Data.seq #[Value.str msg t] } = h1 at hk1 ⊢
  have hE := Heap.get?_push_size h1 (o := { cls := Value.type "AttributeError", data := Data.fields (#[Value.ref h.objs.size, Value.none, Value.none, Value.none, Value.bool false, Value.none] ++ ownMembersOf (Value.type "AttributeError") [Value.str msg t]) }) rfl
  have hk2 : ∀ b u, h1.get? b = some u → (h1.push { cls := Value.type "AttributeError", data := Data.fields (#[Value.ref h.objs.size, Value.none, Value.none, Value.none, Value.bool false, Value.none] ++ ownMembersOf (Value.type "AttributeError") [Value.str msg t]) }).get? b = some u := fun b u e => Heap.get?_push_of_some _ e
  have hne : ∀ b u, h1.get? b = some u → b ≠ h1.objs.size := fun b u e => Nat.ne_of_lt (Heap.lt_size e)
  generalize h1.push { cls := Value.type "AttributeError", data := Data.fields (#[Value.ref h.objs.size, Value.none, Value.none, Value.none, Value.bool false, Value.none] ++ ownMembersOf (Value.type "AttributeError") [Value.str msg t]) } = h2 at hE hk2 ⊢
  generalize h1.objs.size = e at hE hne ⊢
  have hT : (⟨h2, g, d, t + 1 + 1, os⟩ : Shared).TypeIs (.ref e) "AttributeError" := ⟨_, hE, rfl⟩
  have f1 := F.sub_ae
  unfold noteAttr
  dsimp only
  refine wpAny_bind ?_
  unfold lacksNameAndObj
  dsimp only
  refine wpAny_bind (wpAny_isInstance hT f1 ?_)
  rw [if_neg (by decide)]
  refine wpAny_bind (wpAny_load hE ?_)
  dsimp only
  rw [if_neg (by simp [ownMembersOf, unsetMember, rawInt]), if_neg (by simp [ownMembersOf, unsetMember, doubtfulMember, rawInt])]
  refine wpAny_pure ?_
  rw [if_pos rfl]
  refine wpAny_bind (wpAny_rule ?_)
  refine wpAny_bind (wpAny_typeOf hT ?_)
  dsimp only
  unfold layMembers
  refine wpAny_bind (wpAny_load hE ?_)
  dsimp only
  refine wpAny_update hE ?_
  refine wpAny_raiseNew_none hA (hq _ _ _ ⟨fun b u hb => ?_, ⟨_, Heap.get?_update_self _ hE (Obj.isFreed_of_fields (Obj.data_mapFields rfl _)), Obj.cls_mapFields _ _⟩⟩)
  exact (Heap.get?_update_other _ _ (Ne.symm (hne b u (hk1 b u hb)))).trans (hk2 b u (hk1 b u hb))
end
section
variable {prog : Program} {w : World} {A : Around} {E : Value → Shared → Prop} {h : Heap} {g : Array GenState} {d : Drawn} {t : Nat} {os : OsState} {a : Addr} {its : Array Value} {n : Nat} {sl : Array (Option Value)}
theorem nokeys_entry {tk : Tok} {Q : PySem.Fin → Shared → Prop} (hA : A.handled = none) (hx : h.get? a = some ⟨.type "list", none, .seq its n, sl⟩)
    (hq : ∀ h' t' e, AeAt h h' e → E (.ref e) ⟨h', g, d, t', os⟩) :
    wpAny (model prog w) A (Builtin.«object.__getattribute__» ⟨[.ref a, .str "keys" tk], []⟩) Q E ⟨h, g, d, t, os⟩ := by
  have hT : (⟨h, g, d, t, os⟩ : Shared).TypeIs (.ref a) "list" := ⟨_, hx, rfl⟩
  have f4 := F.lk_list_keys
  repeat (any_goals (first | assumption | wp_step))
  exact raiseAttr hA (by decide +kernel) hq
theorem nokeys_call {tk : Tok} {R : Result → Shared → Prop} (hA : A.handled = none) (hx : h.get? a = some ⟨.type "list", none, .seq its n, sl⟩)
    (hq : ∀ h' t' e, AeAt h h' e → R (.error (.ref e)) ⟨h', g, d, t', os⟩) :
    codeAny (model prog w) A (.call (.builtin "list.__getattribute__") ⟨[.ref a, .str "keys" tk], []⟩) R ⟨h, g, d, t, os⟩ :=
  codeAny_call_builtin PySem.F.slot_list_getattribute.plain PySem.F.entry_list_ga (PySem.F.slot_list_getattribute.check _ _ _ _ _ _ _ _ (show (⟨h, g, d, t, os⟩ : Shared).TypeIs (.ref a) "list" from ⟨_, hx, rfl⟩) (PySem.F.args_list_getattribute_2 _ _) (nokeys_entry hA hx hq))
theorem nokeys_by {tk : Tok} {Q : Value → Shared → Prop} (hA : A.handled = none) (hx : h.get? a = some ⟨.type "list", none, .seq its n, sl⟩)
    (hq : ∀ h' t' e, AeAt h h' e → E (.ref e) ⟨h', g, d, t', os⟩) : wpAny (model prog w) A (getAttrBy (.ref a) (.str "keys" tk) false) Q E ⟨h, g, d, t, os⟩ := by
  have hT : (⟨h, g, d, t, os⟩ : Shared).TypeIs (.ref a) "list" := ⟨_, hx, rfl⟩
  have f2 := PySem.F.slot_list_getattribute.lookup
  have f3 := PySem.F.slot_list_getattribute.bind (.ref a)
  have f5 := F.lk_list_ga
  have f6 := F.sub_ae
  repeat (any_goals (first | assumption | wp_step))
  refine nokeys_call hA hx fun h' t' e ae => ?_
  have hT2 : (⟨h', g, d, t', os⟩ : Shared).TypeIs (.ref e) "AttributeError" := ae.2
  repeat (any_goals (first | assumption | exact hq _ _ _ ae | wp_step))
theorem nokeys {Q : Option Value → Shared → Prop} (hA : A.handled = none) (hx : h.get? a = some ⟨.type "list", none, .seq its n, sl⟩)
    (hq : ∀ h' t', (∀ b u, h.get? b = some u → h'.get? b = some u) → Q none ⟨h', g, d, t', os⟩) : wpAny (model prog w) A (getAttr? (.ref a) "keys") Q E ⟨h, g, d, t, os⟩ := by
  unfold getAttr? getAttrBy?
  refine wpAny_bind (wpAny_mkText (wpAny_bind (wpAny_attempt (nokeys_by hA hx fun h' t' e ae => ?_))))
  dsimp only
  have hT2 : (⟨h', g, d, t', os⟩ : Shared).TypeIs (.ref e) "AttributeError" := ae.2
  refine wpAny_bind (wpAny_isInstance hT2 F.sub_ae ?_)
  rw [if_pos rfl]
  exact wpAny_pure (hq _ _ ae.1)
end
theorem F.plain_dul : plainId "dict.update.loop" = true := by decide +kernel
theorem F.entry_dul : entryFor table "dict.update.loop" = some Builtin.«dict.update.loop» := entryFor_of_tree (by kernel_rfl)
section
variable {prog : Program} {w : World} {Kt : Type} [DecidableEq Kt] {knd : KeyKind prog w Kt} {A : Around} {E : Value → Shared → Prop} {s : Shared}
theorem stored_take {kvs : List (Kt × Value)} (hn : (kvs.map (·.1)).Nodup) {i : Nat} {k : Kt} {v : Value} (h : kvs[i]? = some (k, v)) : stored (kvs.take i) k v = kvs.take (i + 1) := by
  obtain ⟨il, ie⟩ := List.getElem?_eq_some_iff.mp h
  have hno : (kvs.take i).any (fun kv => kv.1 = k) = false := by
    rw [Bool.eq_false_iff]
    intro z
    obtain ⟨x, hx, hk⟩ := List.any_eq_true.mp z
    have hk : x.1 = k := by simpa using hk
    obtain ⟨j, hj, e⟩ := List.getElem_of_mem hx
    rw [List.length_take] at hj
    rw [List.getElem_take] at e
    exact List.pairwise_iff_getElem.mp hn j i (by rw [List.length_map]; omega) (by rw [List.length_map]; omega) (by omega) (by simp [e, ie, hk])
  unfold stored
  rw [hno, List.take_succ_eq_append_getElem il, ie]
  rfl
theorem pairs_loop {R : Result → Shared → Prop} {d it l : Addr} {its : Array Value} {kvs : List (Kt × Value)} {h0 : Heap} (hA : A.handled = none) (hdi : d ≠ it) (hl : h0.IsList l its) (hd0 : ∀ u, h0.get? d ≠ some u) (hi0 : ∀ u, h0.get? it ≠ some u)
    (hn : (kvs.map (·.1)).Nodup) (hsz : kvs.length ≤ sizeLine) (hlen : its.size = kvs.length) (hp : ∀ (i : Nat) (k : Kt) (v : Value), kvs[i]? = some (k, v) → ∃ (a : Addr) (key : Value), its[i]? = some (Value.ref a) ∧ IsTup h0 a #[key, v] ∧ knd.is k key = true) :
    ∀ (m i : Nat) (t : Tok) (s : Shared), kvs.length - i = m → i ≤ kvs.length → s.heap.IsListIter it l i → s.heap.DictOf knd d (kvs.take i) → (∀ b u, h0.get? b = some u → s.heap.get? b = some u) →
    (∀ h' t', (∀ b u, h0.get? b = some u → h'.get? b = some u) → h'.DictOf knd d kvs → R (.ok (.ret .none)) { s with heap := h', toks := t' }) →
    codeAny (model prog w) A (.builtin "dict.update.loop" ⟨[.ref d, .ref it, .int i t, .none], []⟩) R s := by
  intro m
  induction m with
  | zero =>
    intro i t s hm hi hit hd hk hR
    have hin : i = kvs.length := by omega
    subst hin
    have hl' : s.heap.IsList l its := by obtain ⟨o, ho, r⟩ := hl; exact ⟨o, hk _ _ ho, r⟩
    refine codeAny_builtin F.entry_dul ?_
    rw [Around.under_plainId F.plain_dul _]
    show wpAny _ A.in1 (pyNext (.ref it) >>= _) _ _ s
    refine wpAny_bind (wpAny_pyNext_list_end (A := A.in1) hA hit hl' (by rw [Array.getElem?_eq_none_iff]; omega) fun h' he => ?_)
    rw [List.take_of_length_le (Nat.le_refl _)] at hd
    show wpAny _ A.in1 (Builtin.Dict.addKeywords d [] >>= _) _ _ _
    refine wpAny_bind (wpAny_pure (wpAny_pure (hR h' s.toks (fun b u hb => he b u (fun z => hi0 u (by rw [← z]; exact hb)) (hk b u hb)) (hd.extBut he hdi))))
  | succ m ih =>
    intro i t s hm hi hit hd hk hR
    have hlt : i < kvs.length := by omega
    have hl' : s.heap.IsList l its := by obtain ⟨o, ho, r⟩ := hl; exact ⟨o, hk _ _ ho, r⟩
    obtain ⟨a, key, ha, ht, hkey⟩ := hp i kvs[i].1 kvs[i].2 (List.getElem?_eq_getElem hlt)
    refine codeAny_builtin F.entry_dul ?_
    rw [Around.under_plainId F.plain_dul _]
    show wpAny _ A.in1 (pyNext (.ref it) >>= _) _ _ s
    refine wpAny_bind (wpAny_pyNext_list_item (A := A.in1) hit hl' ha fun h1 hit1 hs1 => ?_)
    have hk1 : ∀ b u, h0.get? b = some u → h1.get? b = some u := fun b u hb => (hs1.2 b (fun z => hi0 u (by rw [← z]; exact hb))).trans (hk b u hb)
    have hd1 : h1.DictOf knd d (kvs.take i) := hd.sameBut hs1 hdi
    obtain ⟨ot, hot, hct, nt, hdt⟩ := ht
    have hot1 := hk1 _ _ hot
    have hT : ({ s with heap := h1 } : Shared).TypeIs (.ref a) "tuple" := ⟨_, hot1, hct⟩
    refine wpAny_bind (wpAny_holding (wpAny_bind ?_))
    refine wpAny_tryCatch ?_
    unfold Builtin.Dict.pairItems
    refine wpAny_bind (wpAny_typeOf hT ?_)
    rw [if_pos (by decide)]
    refine wpAny_bind (wpAny_seqItems hot1 hdt (wpAny_pure ?_))
    refine wpAny_holding (wpAny_dictSet_pairs (kvs := kvs.take i) hkey hd1 (fun h2 hd2 hs2 => ?_) (by rw [List.length_take]; omega))
    rw [stored_take hn (show kvs[i]? = some (kvs[i].1, kvs[i].2) from List.getElem?_eq_getElem hlt)] at hd2
    refine wpAny_pure ⟨plainId_quiet F.plain_dul _, ?_⟩
    have hk2 : ∀ b u, h0.get? b = some u → h2.get? b = some u := fun b u hb => (hs2.2 b (fun z => hd0 u (by rw [← z]; exact hb))).trans (hk1 b u hb)
    have hit2 : h2.IsListIter it l (i + 1) := by obtain ⟨o, ho, r⟩ := hit1; exact ⟨o, (hs2.2 _ (Ne.symm hdi)).trans ho, r⟩
    exact ih (i + 1) _ { s with heap := h2, toks := s.toks + 1 } (by omega) hlt hit2 hd2 hk2 hR
theorem call_dict_pairs {l : Addr} {its : Array Value} {kvs : List (Kt × Value)} {Q : Value → Shared → Prop} (hA : A.handled = none) (hl : PlainL s.heap l its)
    (hn : (kvs.map (·.1)).Nodup) (hsz : kvs.length ≤ sizeLine) (hlen : its.size = kvs.length) (hp : ∀ (i : Nat) (k : Kt) (v : Value), kvs[i]? = some (k, v) → ∃ (a : Addr) (key : Value), its[i]? = some (Value.ref a) ∧ IsTup s.heap a #[key, v] ∧ knd.is k key = true)
    (h : ∀ h' t', (∀ b u, s.heap.get? b = some u → h'.get? b = some u) → h'.DictOf knd s.heap.objs.size kvs → Q (.ref s.heap.objs.size) { s with heap := h', toks := t' }) :
    wpAny (model prog w) A (call (.type "dict") [.ref l]) Q E s := by
  refine callType_codes (Q₁ := fun obj s₁ => obj = .ref s.heap.objs.size ∧ s₁ = { s with heap := s.heap.push { cls := .type "dict", data := .dict #[] } }) PySem.F.kt_called_dict (PySem.F.kt_typeCall_dict_1 _) PySem.F.entry_dict_init (kt_code_dict_new _ ⟨rfl, rfl⟩) ?_
  rintro obj s₁ ⟨rfl, rfl⟩
  have hnew : (s.heap.push { cls := .type "dict", data := .dict #[] }).DictOf knd s.heap.objs.size [] := Heap.DictOf.new s.heap
  refine ⟨hnew.typeIs, PySem.F.args_dict_init_2 _ _, ?_⟩
  obtain ⟨ol, nl, hol, hlc, hld, hls⟩ := hl
  have hol1 : (s.heap.push { cls := .type "dict", data := .dict #[] }).get? l = some ol := Heap.get?_push_of_some _ hol
  have hT : ({ s with heap := s.heap.push { cls := .type "dict", data := .dict #[] } } : Shared).TypeIs (.ref l) "list" := ⟨_, hol1, hlc⟩
  unfold Builtin.«dict.__init__»
  refine wpAny_bind ?_
  unfold Builtin.Dict.selfAndRest
  refine wpAny_bind (wpAny_notOrdered_dict hnew.typeIs ?_)
  show wpAny _ _ (pure (s.heap.objs.size, [Value.ref l])) _ _ _
  refine wpAny_pure ?_
  show wpAny _ _ (Builtin.Dict.updateFrom "dict.__init__" s.heap.objs.size (.ref l) [] .none) _ _ _
  unfold Builtin.Dict.updateFrom
  refine wpAny_bind (wpAny_typeOf hT ?_)
  rw [if_pos (by decide)]
  have hkd : ∀ b u, s.heap.get? b = some u → (s.heap.push { cls := .type "dict", data := .dict #[] }).get? b = some u := fun b u e => Heap.get?_push_of_some _ e
  have hd0 : ∀ u, s.heap.get? s.heap.objs.size ≠ some u := fun u z => Nat.lt_irrefl _ (Heap.lt_size z)
  obtain ⟨hp0, g, d, t, os⟩ := s
  dsimp only at *
  generalize hp0.push { cls := .type "dict", data := .dict #[] } = h1 at hnew hol1 hT hkd ⊢
  generalize hp0.objs.size = D at hnew hd0 h ⊢
  obtain ⟨c1, c2, c3, c4⟩ := ol
  dsimp only at hlc hld hls
  subst hlc hld hls
  refine wpAny_bind (nokeys (A := A.in1.in1) hA hol1 fun h2 t2 hk2 => ?_)
  rw [if_pos (by rfl)]
  refine wpAny_bind (wpAny_rule ?_)
  have hl2 : h2.IsList l its := ⟨_, hk2 _ _ hol1, rfl, _, rfl⟩
  refine wpAny_bind (wpAny_pyIter_list hl2 ?_)
  refine wpAny_pure ⟨plainId_quiet F.plain_dul _, ?_⟩
  have hd2 := hnew.keep hk2
  have hit0 : ∀ u, hp0.get? h2.objs.size ≠ some u := fun u z => Nat.lt_irrefl _ (Heap.lt_size (hk2 _ _ (hkd _ _ z)))
  have hDi : D ≠ h2.objs.size := fun z => by
    obtain ⟨o, _, _, ho, _⟩ := hd2
    exact Nat.lt_irrefl _ (by have := Heap.lt_size ho; rw [z] at this; exact this)
  refine pairs_loop (h0 := hp0) (kvs := kvs) (A := A.in1) hA hDi ⟨_, hol, rfl, _, rfl⟩ hd0 hit0 hn hsz hlen hp kvs.length 0 _ _ (by omega) (Nat.zero_le _) ⟨_, Heap.get?_push_size _ rfl, rfl, rfl⟩ (hd2.push _) (fun b u hb => Heap.get?_push_of_some _ (hk2 _ _ (hkd _ _ hb))) fun h' t' hk' hd' => ?_
  exact ⟨rfl, h h' t' hk' hd'⟩
end
end L2
set_option Elab.async false
set_option linter.all false
set_option maxRecDepth 100000
namespace L2
open PySem PySem.Spec PyProof.Rows
section
variable {X : Cx}
theorem pairs_of {P : Program} {w : World} {h : Heap} : ∀ (kvs : List (Key × V)) (as : List Addr), (∀ (i : Nat) (k : Key) (v : V), kvs[i]? = some (k, v) → ∃ a its, as[i]? = some a ∧ Vals [kV k, v] its ∧ IsTup h a its.toArray) →
    ∃ vs : List (Key × Value), KV kvs vs ∧ ∀ (i : Nat) (k : Key) (v : Value), vs[i]? = some (k, v) → ∃ (a : Addr) (key : Value), as[i]? = some a ∧ IsTup h a #[key, v] ∧ (mixKind P w).is k key = true
  | [], as, _ => ⟨[], .nil, fun i k v e => by simp at e⟩
  | (k, v) :: kvs, as, hh => by
    obtain ⟨a, its, h1, h2, h3⟩ := hh 0 k v rfl
    cases as with
    | nil => simp at h1
    | cons a0 as =>
      simp at h1
      subst h1
      obtain ⟨ku, vu, rfl, rk, rv⟩ := h2.two
      obtain ⟨vs, g1, g2⟩ := pairs_of (P := P) (w := w) kvs as fun i k v e => by
        obtain ⟨a, its, e1, e2⟩ := hh (i + 1) k v (by simpa using e)
        exact ⟨a, its, by simpa using e1, e2⟩
      refine ⟨(k, vu) :: vs, .cons ⟨rfl, rv⟩ g1, fun i k' v' e => ?_⟩
      cases i with
      | zero =>
        simp at e
        obtain ⟨rfl, rfl⟩ := e
        exact ⟨a0, ku, rfl, h3, kV_is rk⟩
      | succ i =>
        obtain ⟨a, key, e1, e2⟩ := g2 i k' v' (by simpa using e)
        exact ⟨a, key, by simpa using e1, e2⟩
theorem kv_keys {κ : Type} : ∀ {kvs : List (κ × V)} {vs : List (κ × Value)}, KV kvs vs → vs.map (·.1) = kvs.map (·.1)
  | _, _, .nil => rfl
  | _, _, .cons h r => by rw [List.map_cons, List.map_cons, kv_keys r, h.1]
theorem call_dictP : CallR X (.type "dict") (fun xs H Q => X.calm = true ∧ ∃ (p : Addr) (as : List Addr) (kvs : List (Key × V)), xs = [.ref p] ∧ SqL X.K H p (as.map V.ref) ∧ as.length = kvs.length ∧ (kvs.map (·.1)).Nodup ∧
    (∀ (i : Nat) (k : Key) (v : V), kvs[i]? = some (k, v) → ∃ a, as[i]? = some a ∧ SqT X.K H a [kV k, v]) ∧ ∀ l, H l = none → Q (.ref l) (upd H l (.dK kvs))) := by
  intro pins s σ H xs us Q I r h
  obtain ⟨hc, p, as, kvs, rfl, hp, hlen, hn, hk, q⟩ := h
  obtain ⟨u, rfl, ru⟩ := vals1 r
  cases ru
  obtain ⟨its, rv, hl, hz⟩ := I.list hp
  have hil := rv.length
  rw [List.length_map] at hil hz
  obtain ⟨vs, g1, g2⟩ := pairs_of (P := X.prog) (w := X.w) (h := s.heap) kvs as fun i k v e => by
    obtain ⟨a, e1, e2⟩ := hk i k v e
    obtain ⟨its, r2, t2, _⟩ := I.tuple e2
    exact ⟨a, its, e1, r2, t2⟩
  have hvl : kvs.length = vs.length := Paired.length g1
  refine call_dict_pairs (knd := mixKind X.prog X.w) (kvs := vs) (I.ok.hd hc) hl (by rw [kv_keys g1]; exact hn) (by omega) (by rw [List.size_toArray]; omega) (fun i k v e => ?_) fun h' t' hk' hd' => ?_
  · obtain ⟨a, key, e1, e2, e3⟩ := g2 i k v e
    obtain ⟨u, h1, h2⟩ := rv.get (i := i) (x := V.ref a) (by rw [List.getElem?_map, e1]; rfl)
    cases h2
    exact ⟨a, key, by simpa using h1, e2, e3⟩
  · exact ⟨.ref s.heap.objs.size, _, I.laid (a := s.heap.objs.size) (o := .dK kvs) (t' := t') hk' (Nat.le_refl _) (dk_new (by omega) (beq_eq_false_iff_ne.mpr (Ne.symm (Nat.ne_of_lt I.big))) g1 hd'), rfl, q _ (I.hok.fresh (Nat.le_refl _))⟩
end
end L2
set_option Elab.async false
set_option linter.all false
set_option maxRecDepth 100000
namespace L2
open PySem PySem.Spec PyProof.Rows PySem.W
section
variable {prog : Program} {w : World} {A : Around} {E : Value → Shared → Prop} {s : Shared} {T : String} {r d : Addr} {n : Nat} {P : Nat → Value → Prop} {OK : Heap → Prop}
end
section
variable {X : Cx}
end
end L2
set_option Elab.async false
set_option linter.all false
set_option maxRecDepth 100000
namespace L2
open PySem PySem.Spec PyProof.Rows
section
variable {X : Cx}
end
end L2
set_option Elab.async false
set_option linter.all false
set_option maxRecDepth 100000
namespace L2
open PySem PyProof.Rows
def txv : Value → Option Str
  | .str z _ => some z
  | _ => none
def txs (l : List (Int × Value)) : List Str := l.filterMap fun e => txv e.2
def byTx (w : World) : Bool := w.params.followText "set-order"
section
variable {prog : Program} {w : World} {A : Around} {E : Value → Shared → Prop} {s : Shared}
def TxSet (prog : Program) (w : World) (h : Heap) (a : Addr) (zs : List Str) : Prop :=
  ∃ o es ep t, h.get? a = some o ∧ o.ExactSet ∧ o.data = .set es ep t ∧ ElemsOf (strKind prog w) es.toList ∧ zs = txs es.toList ∧ zs.Nodup ∧ es.size < scanBound ∧ t.fits es.size = true ∧
    (byTx w = true ∨ t.led = true ∧ (es.size = 0 ∨ t.plain = false))
theorem TxSet.kept {h h' : Heap} {a : Addr} {zs : List Str} (hS : TxSet prog w h a zs) (k : ∀ o, h.get? a = some o → h'.get? a = some o) : TxSet prog w h' a zs := by
  obtain ⟨o, es, ep, t, ho, r⟩ := hS
  exact ⟨o, es, ep, t, k _ ho, r⟩
end
end L2
set_option Elab.async false
set_option linter.all false
set_option maxRecDepth 100000
namespace L2
open PySem PyProof.Rows
section
variable {prog : Program} {w : World} {A : Around} {E : Value → Shared → Prop} {s : Shared}
end
end L2
set_option Elab.async false
set_option linter.all false
set_option maxRecDepth 100000
namespace L2
open PySem PyProof.Rows
section
variable {prog : Program} {w : World} {A : Around} {E : Value → Shared → Prop} {s : Shared}
end
end L2
set_option Elab.async false
set_option linter.all false
set_option maxRecDepth 100000
namespace L2
open PySem PyProof.Rows
section
variable {prog : Program} {w : World} {A : Around} {R : Result → Shared → Prop} {I : Addr} {fp wr : List Addr} {G : Array GenState → Array GenState → Prop} {n : Nat} {P : Nat → Value → Prop} {St : Nat → Shared → Prop}
end
section
variable {prog : Program} {w : World} {A : Around} {E : Value → Shared → Prop} {s : Shared}
end
end L2
set_option Elab.async false
set_option linter.all false
set_option maxRecDepth 100000
namespace L2
open PySem PyProof.Rows
section
variable {prog : Program} {w : World} {A : Around} {E : Value → Shared → Prop} {s : Shared}
end
end L2
set_option Elab.async false
set_option linter.all false
set_option maxRecDepth 100000
namespace L2
open PySem PySem.Spec PyProof.Rows PySem.SeqAt
mutual
def deq : Dt → Dt → Bool
  | .non, .non => true
  | .bl a, .bl b => a == b
  | .int a, .int b => a == b
  | .bl a, .int b => (if a then 1 else 0) == b
  | .int a, .bl b => a == (if b then 1 else 0)
  | .str a, .str b => a == b
  | .tup xs, .tup ys => deqs xs ys
  | .lst xs, .lst ys => deqs xs ys
  | _, _ => false
def deqs : List Dt → List Dt → Bool
  | [], [] => true
  | x :: xs, y :: ys => deq x y && deqs xs ys
  | _, _ => false
end
mutual
theorem deq_refl : ∀ d : Dt, deq d d = true
  | .non => rfl
  | .bl a => by simp [deq]
  | .int a => by simp [deq]
  | .str a => by simp [deq]
  | .tup ds => by rw [deq]; exact deqs_refl ds
  | .lst ds => by rw [deq]; exact deqs_refl ds
theorem deqs_refl : ∀ ds : List Dt, deqs ds ds = true
  | [] => rfl
  | d :: ds => by rw [deqs, deq_refl d, deqs_refl ds]; rfl
end
def eat (xs ys : List Dt) (j : Nat) : Bool :=
  match xs[j]?, ys[j]? with
  | some x, some y => deq x y
  | _, _ => false
theorem deqs_all : ∀ xs ys : List Dt, ((List.range (min xs.length ys.length)).all (eat xs ys) && xs.length == ys.length) = deqs xs ys
  | [], [] => rfl
  | [], y :: ys => by simp [deqs]
  | x :: xs, [] => by simp [deqs]
  | x :: xs, y :: ys => by
    rw [deqs, ← deqs_all xs ys, List.length_cons, List.length_cons, Nat.succ_min_succ, List.range_succ_eq_map, List.all_cons, List.all_map]
    have e1 : eat (x :: xs) (y :: ys) 0 = deq x y := rfl
    have e2 : eat (x :: xs) (y :: ys) ∘ Nat.succ = eat xs ys := by funext j; simp [eat]
    rw [e1, e2, Bool.and_assoc]
    congr 2
    rw [Bool.eq_iff_iff]
    simp
mutual
theorem DAt.one_of {H : Hp} : ∀ {d d' : Dt} {v : V}, DAt H d v → DAt H d' v → d = d'
  | d, .non, v, h, h' => by have h' : v = .non := h'; subst h'; cases d <;> simp_all [DAt]
  | d, .bl b, v, h, h' => by have h' : v = .bl b := h'; subst h'; cases d <;> simp_all [DAt]
  | d, .int b, v, h, h' => by have h' : v = .int b := h'; subst h'; cases d <;> simp_all [DAt]
  | d, .str b, v, h, h' => by have h' : v = .str b := h'; subst h'; cases d <;> simp_all [DAt]
  | d, .tup ds', v, h, h' => by
    obtain ⟨a, vs, rfl, e2, e3⟩ := h'
    cases d with
    | tup ds =>
      obtain ⟨a', vs', e1', e2', e3'⟩ := h
      cases e1'
      rw [e2] at e2'
      cases e2'
      rw [DAts.one_of e3' e3]
    | lst ds =>
      obtain ⟨a', vs', e1', e2', e3'⟩ := h
      cases e1'
      rw [e2] at e2'
      cases e2'
    | _ => cases h
  | d, .lst ds', v, h, h' => by
    obtain ⟨a, vs, rfl, e2, e3⟩ := h'
    cases d with
    | lst ds =>
      obtain ⟨a', vs', e1', e2', e3'⟩ := h
      cases e1'
      rw [e2] at e2'
      cases e2'
      rw [DAts.one_of e3' e3]
    | tup ds =>
      obtain ⟨a', vs', e1', e2', e3'⟩ := h
      cases e1'
      rw [e2] at e2'
      cases e2'
    | _ => cases h
theorem DAts.one_of {H : Hp} : ∀ {ds ds' : List Dt} {vs : List V}, DAts H ds vs → DAts H ds' vs → ds = ds'
  | ds, [], vs, h, h' => by
    have h' : vs = [] := h'
    subst h'
    cases ds with
    | nil => rfl
    | cons d ds => obtain ⟨v, r, e, _⟩ := h; cases e
  | ds, d' :: ds', vs, h, h' => by
    obtain ⟨v, r, rfl, e2, e3⟩ := h'
    cases ds with
    | nil => cases h
    | cons d ds =>
      obtain ⟨v', r', e, e2', e3'⟩ := h
      cases e
      rw [DAt.one_of e2' e2, DAts.one_of e3' e3]
end
section
variable {P : Program} {w : World} {H : Hp} {s : Shared}
theorem DAts.tup_of (ok : HOk P w H s.heap) {a : Addr} {vs : List V} (h : H a = some (.tup vs)) : ∃ its : List Value, Vals vs its ∧ s.heap.IsTuple a its.toArray := by
  obtain ⟨z, its, r, p⟩ := ok a _ h
  exact ⟨its, r, p⟩
theorem DAts.lst_of (ok : HOk P w H s.heap) {a : Addr} {vs : List V} (h : H a = some (.lst vs)) : ∃ its : List Value, Vals vs its ∧ s.heap.IsList a its.toArray := by
  obtain ⟨z, its, n, r, p⟩ := ok a _ h
  exact ⟨its, r, _, p, rfl, n, rfl⟩
theorem vals_at : ∀ {xs : List V} {us : List Value} {i : Nat} {x : V} {u : Value}, Vals xs us → xs[i]? = some x → us[i]? = some u → RelV x u
  | _, _, _, _, _, .nil, h, _ => by simp at h
  | _, _, 0, _, _, .cons r q, h, h' => by
    simp at h h'
    subst h
    subst h'
    exact r
  | _, _, i + 1, _, _, .cons r q, h, h' => vals_at q (by simpa using h) (by simpa using h')
theorem rc_lists (ok : HOk P w H s.heap) {n : Nat} {A : Around} (ih : ∀ {A : Around} {d d' : Dt} {v v' : V} {u u' : Value}, DAt H d v → DAt H d' v' → RelV v u → RelV v' u' → DFit n d → A.units + n < cLine → EqAt A s u u' (deq d d'))
    {l l' : Addr} {ds ds' : List Dt} {vs vs' : List V} {its its' : List Value} (hs : DAts H ds vs) (hs' : DAts H ds' vs') (rv : Vals vs its) (rv' : Vals vs' its') (hl : s.heap.IsList l its.toArray) (hl' : s.heap.IsList l' its'.toArray)
    (f : ∀ d ∈ ds, DFit n d) (hu : A.units + (n + 1) < cLine) : RcAt A s (.ref l) (.ref l') (deqs ds ds') := by
  have k1 := hs.length
  have k2 := hs'.length
  have k3 := rv.length
  have k4 := rv'.length
  by_cases hz : ds.length = ds'.length
  · have key := RcAt.lists (A := A) (e := eat ds ds') hl hl' (by rw [List.size_toArray, List.size_toArray]; omega) (by omega) fun j h1 h2 => ?_
    · rw [← deqs_all, hz, Nat.min_self, beq_self_eq_true, Bool.and_true]
      rw [List.size_toArray] at key
      rw [show ds'.length = its.length by omega]
      exact key
    · rw [List.size_toArray] at h1 h2
      have hj : j < ds.length := by omega
      have hj' : j < ds'.length := by omega
      obtain ⟨x, x1, x2⟩ := hs.get (List.getElem?_eq_getElem hj)
      obtain ⟨y, y1, y2⟩ := hs'.get (List.getElem?_eq_getElem hj')
      have e1 : eat ds ds' j = deq ds[j] ds'[j] := by unfold eat; rw [List.getElem?_eq_getElem hj, List.getElem?_eq_getElem hj']
      rw [e1]
      refine ih x2 y2 ?_ ?_ (f _ (List.getElem_mem hj)) (by show A.units + 1 + n < cLine; omega)
      · exact vals_at rv x1 (by rw [List.getElem_toArray]; exact List.getElem?_eq_getElem h1)
      · exact vals_at rv' y1 (by rw [List.getElem_toArray]; exact List.getElem?_eq_getElem h2)
  · have hf : deqs ds ds' = false := by rw [← deqs_all, show (ds.length == ds'.length) = false by simpa using hz, Bool.and_false]
    rw [hf]
    exact RcAt.lists_lengths hl hl' (by rw [List.size_toArray, List.size_toArray]; simp; omega) (by omega)
theorem deq_same (ok : HOk P w H s.heap) {A : Around} {d : Dt} {v : V} {u u' : Value} (h : DAt H d v) (r : RelV v u) (r' : RelV v u') : EqAt A s u u' true := by
  cases d with
  | non => have h : v = .non := h; subst h; cases r; cases r'; exact EqAt.same _
  | bl a => have h : v = .bl a := h; subst h; cases r; cases r'; exact EqAt.same _
  | int a =>
    have h : v = .int a := h
    subst h
    obtain ⟨t, rfl⟩ := r
    obtain ⟨t', rfl⟩ := r'
    have := EqAt.int_int (A := A) (s := s) a t a t'
    rwa [beq_self_eq_true] at this
  | str a =>
    have h : v = .str a := h
    subst h
    obtain ⟨t, rfl⟩ := r
    obtain ⟨t', rfl⟩ := r'
    have := EqAt.str_str (A := A) (s := s) a t a t'
    rwa [beq_self_eq_true] at this
  | tup ds => obtain ⟨l, vs, rfl, _⟩ := h; cases r; cases r'; exact EqAt.same _
  | lst ds => obtain ⟨l, vs, rfl, _⟩ := h; cases r; cases r'; exact EqAt.same _
theorem deq_sc (ok : HOk P w H s.heap) {A : Around} {d d' : Dt} {v v' : V} {u u' : Value} (h : DAt H d v) (h' : DAt H d' v') (r : RelV v u) (r' : RelV v' u') (hu : A.units < cLine) (hk : ∀ ds ds', ¬ (d = .tup ds ∧ d' = .tup ds') ∧ ¬ (d = .lst ds ∧ d' = .lst ds')) : EqAt A s u u' (deq d d') := by
  cases d with
  | non =>
    have h : v = .non := h
    subst h
    cases r
    cases d' with
    | non =>
      have h' : v' = .non := h'
      subst h'
      cases r'
      simp only [deq]
      exact EqAt.same _
    | bl b =>
      have h' : v' = .bl b := h'
      subst h'
      cases r'
      simp only [deq]
      exact EqAt.none_bool _
    | int b =>
      have h' : v' = .int b := h'
      subst h'
      obtain ⟨t', rfl⟩ := r'
      simp only [deq]
      exact EqAt.none_int _ _
    | str b =>
      have h' : v' = .str b := h'
      subst h'
      obtain ⟨t', rfl⟩ := r'
      simp only [deq]
      exact EqAt.none_str _ _
    | tup ds' =>
      obtain ⟨l', vs', rfl, e', hs'⟩ := h'
      cases r'
      obtain ⟨its', rv', hl'⟩ := DAts.tup_of ok e'
      simp only [deq]
      exact EqAt.none_tuple hl' hu
    | lst ds' =>
      obtain ⟨l', vs', rfl, e', hs'⟩ := h'
      cases r'
      obtain ⟨its', rv', hl'⟩ := DAts.lst_of ok e'
      simp only [deq]
      exact EqAt.none_list hl' hu
  | bl a =>
    have h : v = .bl a := h
    subst h
    cases r
    cases d' with
    | non =>
      have h' : v' = .non := h'
      subst h'
      cases r'
      simp only [deq]
      exact EqAt.bool_none _
    | bl b =>
      have h' : v' = .bl b := h'
      subst h'
      cases r'
      simp only [deq]
      exact EqAt.bool_bool _ _
    | int b =>
      have h' : v' = .int b := h'
      subst h'
      obtain ⟨t', rfl⟩ := r'
      simp only [deq]
      exact EqAt.bool_int _ _ _
    | str b =>
      have h' : v' = .str b := h'
      subst h'
      obtain ⟨t', rfl⟩ := r'
      simp only [deq]
      exact EqAt.bool_str _ _ _
    | tup ds' =>
      obtain ⟨l', vs', rfl, e', hs'⟩ := h'
      cases r'
      obtain ⟨its', rv', hl'⟩ := DAts.tup_of ok e'
      simp only [deq]
      exact EqAt.bool_tuple _ hl' hu
    | lst ds' =>
      obtain ⟨l', vs', rfl, e', hs'⟩ := h'
      cases r'
      obtain ⟨its', rv', hl'⟩ := DAts.lst_of ok e'
      simp only [deq]
      exact EqAt.bool_list _ hl' hu
  | int a =>
    have h : v = .int a := h
    subst h
    obtain ⟨t, rfl⟩ := r
    cases d' with
    | non =>
      have h' : v' = .non := h'
      subst h'
      cases r'
      simp only [deq]
      exact EqAt.int_none _ _
    | bl b =>
      have h' : v' = .bl b := h'
      subst h'
      cases r'
      simp only [deq]
      exact EqAt.int_bool _ _ _
    | int b =>
      have h' : v' = .int b := h'
      subst h'
      obtain ⟨t', rfl⟩ := r'
      simp only [deq]
      exact EqAt.int_int _ _ _ _
    | str b =>
      have h' : v' = .str b := h'
      subst h'
      obtain ⟨t', rfl⟩ := r'
      simp only [deq]
      exact EqAt.int_str _ _ _ _
    | tup ds' =>
      obtain ⟨l', vs', rfl, e', hs'⟩ := h'
      cases r'
      obtain ⟨its', rv', hl'⟩ := DAts.tup_of ok e'
      simp only [deq]
      exact EqAt.int_tuple _ _ hl' hu
    | lst ds' =>
      obtain ⟨l', vs', rfl, e', hs'⟩ := h'
      cases r'
      obtain ⟨its', rv', hl'⟩ := DAts.lst_of ok e'
      simp only [deq]
      exact EqAt.int_list _ _ hl' hu
  | str a =>
    have h : v = .str a := h
    subst h
    obtain ⟨t, rfl⟩ := r
    cases d' with
    | non =>
      have h' : v' = .non := h'
      subst h'
      cases r'
      simp only [deq]
      exact EqAt.str_none _ _
    | bl b =>
      have h' : v' = .bl b := h'
      subst h'
      cases r'
      simp only [deq]
      exact EqAt.str_bool _ _ _
    | int b =>
      have h' : v' = .int b := h'
      subst h'
      obtain ⟨t', rfl⟩ := r'
      simp only [deq]
      exact EqAt.str_int _ _ _ _
    | str b =>
      have h' : v' = .str b := h'
      subst h'
      obtain ⟨t', rfl⟩ := r'
      simp only [deq]
      exact EqAt.str_str _ _ _ _
    | tup ds' =>
      obtain ⟨l', vs', rfl, e', hs'⟩ := h'
      cases r'
      obtain ⟨its', rv', hl'⟩ := DAts.tup_of ok e'
      simp only [deq]
      exact EqAt.str_tuple _ _ hl' hu
    | lst ds' =>
      obtain ⟨l', vs', rfl, e', hs'⟩ := h'
      cases r'
      obtain ⟨its', rv', hl'⟩ := DAts.lst_of ok e'
      simp only [deq]
      exact EqAt.str_list _ _ hl' hu
  | tup ds =>
    obtain ⟨l, vs, rfl, e, hs⟩ := h
    cases r
    obtain ⟨its, rv, hl⟩ := DAts.tup_of ok e
    cases d' with
    | non =>
      have h' : v' = .non := h'
      subst h'
      cases r'
      simp only [deq]
      exact EqAt.tuple_none hl hu
    | bl b =>
      have h' : v' = .bl b := h'
      subst h'
      cases r'
      simp only [deq]
      exact EqAt.tuple_bool _ hl hu
    | int b =>
      have h' : v' = .int b := h'
      subst h'
      obtain ⟨t', rfl⟩ := r'
      simp only [deq]
      exact EqAt.tuple_int _ _ hl hu
    | str b =>
      have h' : v' = .str b := h'
      subst h'
      obtain ⟨t', rfl⟩ := r'
      simp only [deq]
      exact EqAt.tuple_str _ _ hl hu
    | tup ds' => exact absurd ⟨rfl, rfl⟩ (hk _ _).1
    | lst ds' =>
      obtain ⟨l', vs', rfl, e', hs'⟩ := h'
      cases r'
      obtain ⟨its', rv', hl'⟩ := DAts.lst_of ok e'
      simp only [deq]
      exact EqAt.tuple_list hl hl' hu
  | lst ds =>
    obtain ⟨l, vs, rfl, e, hs⟩ := h
    cases r
    obtain ⟨its, rv, hl⟩ := DAts.lst_of ok e
    cases d' with
    | non =>
      have h' : v' = .non := h'
      subst h'
      cases r'
      simp only [deq]
      exact EqAt.list_none hl hu
    | bl b =>
      have h' : v' = .bl b := h'
      subst h'
      cases r'
      simp only [deq]
      exact EqAt.list_bool _ hl hu
    | int b =>
      have h' : v' = .int b := h'
      subst h'
      obtain ⟨t', rfl⟩ := r'
      simp only [deq]
      exact EqAt.list_int _ _ hl hu
    | str b =>
      have h' : v' = .str b := h'
      subst h'
      obtain ⟨t', rfl⟩ := r'
      simp only [deq]
      exact EqAt.list_str _ _ hl hu
    | tup ds' =>
      obtain ⟨l', vs', rfl, e', hs'⟩ := h'
      cases r'
      obtain ⟨its', rv', hl'⟩ := DAts.tup_of ok e'
      simp only [deq]
      exact EqAt.list_tuple hl hl' hu
    | lst ds' => exact absurd ⟨rfl, rfl⟩ (hk _ _).2
theorem deq_at (ok : HOk P w H s.heap) : ∀ (n : Nat) {A : Around} {d d' : Dt} {v v' : V} {u u' : Value}, DAt H d v → DAt H d' v' → RelV v u → RelV v' u' → DFit n d → A.units + n < cLine → EqAt A s u u' (deq d d') := by
  intro n
  induction n with
  | zero =>
    intro A d d' v v' u u' h h' r r' f hu
    exact deq_sc ok h h' r r' hu fun ds ds' => ⟨fun e => by rw [e.1] at f; exact f, fun e => by rw [e.1] at f; exact f⟩
  | succ n ih =>
    intro A d d' v v' u u' h h' r r' f hu
    by_cases hvv : v = v'
    · subst hvv
      rw [DAt.one_of h h', deq_refl]
      have hd : d = d' := DAt.one_of h h'
      subst hd
      have hx := deq_same ok (A := A) h r r'
      exact hx
    cases d with
    | tup ds =>
      cases d' with
      | tup ds' =>
        obtain ⟨l, vs, rfl, e, hs⟩ := h
        obtain ⟨l', vs', rfl, e', hs'⟩ := h'
        cases r
        cases r'
        obtain ⟨its, rv, hl⟩ := DAts.tup_of ok e
        obtain ⟨its', rv', hl'⟩ := DAts.tup_of ok e'
        have k1 := hs.length
        have k2 := hs'.length
        have k3 := rv.length
        have k4 := rv'.length
        have key := RcAt.tuples (A := A) (e := eat ds ds') hl hl' (by omega) fun j h1 h2 => ?_
        · simp only [deq]
          rw [← deqs_all]
          refine EqAt.of_refs (fun z => hvv (by rw [z])) ?_
          rw [List.size_toArray, List.size_toArray] at key
          rw [← k1, ← k2, k3, k4]
          exact key
        · rw [List.size_toArray] at h1 h2
          have hj : j < ds.length := by omega
          have hj' : j < ds'.length := by omega
          obtain ⟨x, x1, x2⟩ := hs.get (List.getElem?_eq_getElem hj)
          obtain ⟨y, y1, y2⟩ := hs'.get (List.getElem?_eq_getElem hj')
          have e1 : eat ds ds' j = deq ds[j] ds'[j] := by unfold eat; rw [List.getElem?_eq_getElem hj, List.getElem?_eq_getElem hj']
          rw [e1]
          refine ih x2 y2 ?_ ?_ (f.2 _ (List.getElem_mem hj)) (by show A.units + 1 + n < cLine; omega)
          · exact vals_at rv x1 (by rw [List.getElem_toArray]; exact List.getElem?_eq_getElem h1)
          · exact vals_at rv' y1 (by rw [List.getElem_toArray]; exact List.getElem?_eq_getElem h2)
      | _ => exact deq_sc ok h h' r r' (by omega) fun ds ds' => ⟨fun e => (by cases e.2), fun e => (by cases e.1)⟩
    | lst ds =>
      cases d' with
      | lst ds' =>
        obtain ⟨l, vs, rfl, e, hs⟩ := h
        obtain ⟨l', vs', rfl, e', hs'⟩ := h'
        cases r
        cases r'
        obtain ⟨its, rv, hl⟩ := DAts.lst_of ok e
        obtain ⟨its', rv', hl'⟩ := DAts.lst_of ok e'
        simp only [deq]
        exact EqAt.of_refs (fun z => hvv (by rw [z])) (rc_lists ok ih hs hs' rv rv' hl hl' f.2 hu)
      | _ => exact deq_sc ok h h' r r' (by omega) fun ds ds' => ⟨fun e => (by cases e.1), fun e => (by cases e.2)⟩
    | _ => exact deq_sc ok h h' r r' (by omega) fun ds ds' => ⟨fun e => (by cases e.1), fun e => (by cases e.1)⟩
end
section
variable {X : Cx}
end
end L2
set_option Elab.async false
set_option linter.all false
set_option maxRecDepth 100000
namespace L2
open PySem PySem.Spec PyProof.Rows PySem.SeqAt
section
variable {X : Cx}
theorem Inv.drawn {pins : List (Addr × Obj)} {σ : St} {H : Hp} {s : Shared} (I : Inv X pins σ H s) (d : _) : Inv X pins σ H { s with drawn := d } := ⟨I.ok, I.os, I.bare, I.base, I.loc, I.cell, I.free, I.freeC, I.pin, I.hok, I.len⟩
end
end L2
set_option Elab.async false
set_option linter.all false
set_option maxRecDepth 100000
namespace L2
open PySem PySem.Spec PyProof.Rows
theorem cx_P {CX : CXT} {P : Program} {w : World} {K : PySem.W.Frag} {mg : Str → Option Value} {base : Heap} {N : List Str} {qual : Str} {scope : Scope} {f : Addr} {cd : Value} {A : Around} {outer : List Env} {s : Shared} {H : Hp} {E : XK} : (cxOf CX P w K mg base N qual scope f cd A outer s H E).prog = P := rfl
end L2
set_option Elab.async false
set_option linter.all false
set_option maxRecDepth 100000
namespace L2
open PySem PySem.Spec PyProof.Rows PySem.SeqAt
section
variable {P : Program} {w : World} {H : Hp} {s : Shared}
theorem rc_tups (ok : HOk P w H s.heap) {n : Nat} {A : Around} (ih : ∀ {A : Around} {d d' : Dt} {v v' : V} {u u' : Value}, DAt H d v → DAt H d' v' → RelV v u → RelV v' u' → DFit n d → A.units + n < cLine → EqAt A s u u' (deq d d'))
    {l l' : Addr} {ds ds' : List Dt} {vs vs' : List V} {its its' : List Value} (hs : DAts H ds vs) (hs' : DAts H ds' vs') (rv : Vals vs its) (rv' : Vals vs' its') (hl : s.heap.IsTuple l its.toArray) (hl' : s.heap.IsTuple l' its'.toArray)
    (f : ∀ d ∈ ds, DFit n d) (hu : A.units + (n + 1) < cLine) : RcAt A s (.ref l) (.ref l') (deqs ds ds') := by
  have k1 := hs.length
  have k2 := hs'.length
  have k3 := rv.length
  have k4 := rv'.length
  have at_ : ∀ j (h1 : j < its.toArray.size) (h2 : j < its'.toArray.size), EqAt A.in1 s its.toArray[j] its'.toArray[j] (eat ds ds' j) := fun j h1 h2 => by
    rw [List.size_toArray] at h1 h2
    have hj : j < ds.length := by omega
    have hj' : j < ds'.length := by omega
    obtain ⟨x, x1, x2⟩ := hs.get (List.getElem?_eq_getElem hj)
    obtain ⟨y, y1, y2⟩ := hs'.get (List.getElem?_eq_getElem hj')
    have e1 : eat ds ds' j = deq ds[j] ds'[j] := by unfold eat; rw [List.getElem?_eq_getElem hj, List.getElem?_eq_getElem hj']
    rw [e1]
    refine ih x2 y2 ?_ ?_ (f _ (List.getElem_mem hj)) (by show A.units + 1 + n < cLine; omega)
    · exact vals_at rv x1 (by rw [List.getElem_toArray]; exact List.getElem?_eq_getElem h1)
    · exact vals_at rv' y1 (by rw [List.getElem_toArray]; exact List.getElem?_eq_getElem h2)
  have key := RcAt.tuples (A := A) (e := eat ds ds') hl hl' (by omega) at_
  rw [List.size_toArray, List.size_toArray] at key
  rw [← deqs_all, ← k1, ← k2, k3, k4]
  exact key
theorem rc_at (ok : HOk P w H s.heap) {n : Nat} {A : Around} {d d' : Dt} {v v' : V} {u u' : Value} (h : DAt H d v) (h' : DAt H d' v') (r : RelV v u) (r' : RelV v' u') (f : DFit (n + 1) d) (hu : A.units + (n + 1) < cLine) : RcAt A s u u' (deq d d') := by
  have hu0 : A.units < cLine := by omega
  cases d with
  | non =>
    have h : v = .non := h
    subst h
    cases r
    cases d' with
    | non =>
      have h' : v' = .non := h'
      subst h'
      cases r'
      simp only [deq, Bool.not_false, Bool.not_true]
      exact RcAt.none_none
    | bl b =>
      have h' : v' = .bl b := h'
      subst h'
      cases r'
      simp only [deq, Bool.not_false, Bool.not_true]
      exact RcAt.none_bool _
    | int b =>
      have h' : v' = .int b := h'
      subst h'
      obtain ⟨t', rfl⟩ := r'
      simp only [deq, Bool.not_false, Bool.not_true]
      exact RcAt.none_int _ _
    | str b =>
      have h' : v' = .str b := h'
      subst h'
      obtain ⟨t', rfl⟩ := r'
      simp only [deq, Bool.not_false, Bool.not_true]
      exact RcAt.none_str _ _
    | tup ds' =>
      obtain ⟨l', vs', rfl, e', hs'⟩ := h'
      cases r'
      obtain ⟨its', rv', hl'⟩ := DAts.tup_of ok e'
      simp only [deq, Bool.not_false, Bool.not_true]
      exact RcAt.none_tuple hl' hu0
    | lst ds' =>
      obtain ⟨l', vs', rfl, e', hs'⟩ := h'
      cases r'
      obtain ⟨its', rv', hl'⟩ := DAts.lst_of ok e'
      simp only [deq, Bool.not_false, Bool.not_true]
      exact RcAt.none_list hl' hu0
  | bl a =>
    have h : v = .bl a := h
    subst h
    cases r
    cases d' with
    | non =>
      have h' : v' = .non := h'
      subst h'
      cases r'
      simp only [deq, Bool.not_false, Bool.not_true]
      exact RcAt.bool_none _
    | bl b =>
      have h' : v' = .bl b := h'
      subst h'
      cases r'
      simp only [deq, Bool.not_false, Bool.not_true]
      exact RcAt.bool_bool _ _
    | int b =>
      have h' : v' = .int b := h'
      subst h'
      obtain ⟨t', rfl⟩ := r'
      simp only [deq, Bool.not_false, Bool.not_true]
      exact RcAt.bool_int _ _ _
    | str b =>
      have h' : v' = .str b := h'
      subst h'
      obtain ⟨t', rfl⟩ := r'
      simp only [deq, Bool.not_false, Bool.not_true]
      exact RcAt.bool_str _ _ _
    | tup ds' =>
      obtain ⟨l', vs', rfl, e', hs'⟩ := h'
      cases r'
      obtain ⟨its', rv', hl'⟩ := DAts.tup_of ok e'
      simp only [deq, Bool.not_false, Bool.not_true]
      exact RcAt.bool_tuple _ hl' hu0
    | lst ds' =>
      obtain ⟨l', vs', rfl, e', hs'⟩ := h'
      cases r'
      obtain ⟨its', rv', hl'⟩ := DAts.lst_of ok e'
      simp only [deq, Bool.not_false, Bool.not_true]
      exact RcAt.bool_list _ hl' hu0
  | int a =>
    have h : v = .int a := h
    subst h
    obtain ⟨t, rfl⟩ := r
    cases d' with
    | non =>
      have h' : v' = .non := h'
      subst h'
      cases r'
      simp only [deq, Bool.not_false, Bool.not_true]
      exact RcAt.int_none _ _
    | bl b =>
      have h' : v' = .bl b := h'
      subst h'
      cases r'
      simp only [deq, Bool.not_false, Bool.not_true]
      exact RcAt.int_bool _ _ _
    | int b =>
      have h' : v' = .int b := h'
      subst h'
      obtain ⟨t', rfl⟩ := r'
      simp only [deq, Bool.not_false, Bool.not_true]
      exact RcAt.int_int _ _ _ _
    | str b =>
      have h' : v' = .str b := h'
      subst h'
      obtain ⟨t', rfl⟩ := r'
      simp only [deq, Bool.not_false, Bool.not_true]
      exact RcAt.int_str _ _ _ _
    | tup ds' =>
      obtain ⟨l', vs', rfl, e', hs'⟩ := h'
      cases r'
      obtain ⟨its', rv', hl'⟩ := DAts.tup_of ok e'
      simp only [deq, Bool.not_false, Bool.not_true]
      exact RcAt.int_tuple _ _ hl' hu0
    | lst ds' =>
      obtain ⟨l', vs', rfl, e', hs'⟩ := h'
      cases r'
      obtain ⟨its', rv', hl'⟩ := DAts.lst_of ok e'
      simp only [deq, Bool.not_false, Bool.not_true]
      exact RcAt.int_list _ _ hl' hu0
  | str a =>
    have h : v = .str a := h
    subst h
    obtain ⟨t, rfl⟩ := r
    cases d' with
    | non =>
      have h' : v' = .non := h'
      subst h'
      cases r'
      simp only [deq, Bool.not_false, Bool.not_true]
      exact RcAt.str_none _ _
    | bl b =>
      have h' : v' = .bl b := h'
      subst h'
      cases r'
      simp only [deq, Bool.not_false, Bool.not_true]
      exact RcAt.str_bool _ _ _
    | int b =>
      have h' : v' = .int b := h'
      subst h'
      obtain ⟨t', rfl⟩ := r'
      simp only [deq, Bool.not_false, Bool.not_true]
      exact RcAt.str_int _ _ _ _
    | str b =>
      have h' : v' = .str b := h'
      subst h'
      obtain ⟨t', rfl⟩ := r'
      simp only [deq, Bool.not_false, Bool.not_true]
      exact RcAt.str_str _ _ _ _
    | tup ds' =>
      obtain ⟨l', vs', rfl, e', hs'⟩ := h'
      cases r'
      obtain ⟨its', rv', hl'⟩ := DAts.tup_of ok e'
      simp only [deq, Bool.not_false, Bool.not_true]
      exact RcAt.str_tuple _ _ hl' hu0
    | lst ds' =>
      obtain ⟨l', vs', rfl, e', hs'⟩ := h'
      cases r'
      obtain ⟨its', rv', hl'⟩ := DAts.lst_of ok e'
      simp only [deq, Bool.not_false, Bool.not_true]
      exact RcAt.str_list _ _ hl' hu0
  | tup ds =>
    obtain ⟨l, vs, rfl, e, hs⟩ := h
    cases r
    obtain ⟨its, rv, hl⟩ := DAts.tup_of ok e
    cases d' with
    | non =>
      have h' : v' = .non := h'
      subst h'
      cases r'
      simp only [deq, Bool.not_false, Bool.not_true]
      exact RcAt.tuple_none hl hu0
    | bl b =>
      have h' : v' = .bl b := h'
      subst h'
      cases r'
      simp only [deq, Bool.not_false, Bool.not_true]
      exact RcAt.tuple_bool _ hl hu0
    | int b =>
      have h' : v' = .int b := h'
      subst h'
      obtain ⟨t', rfl⟩ := r'
      simp only [deq, Bool.not_false, Bool.not_true]
      exact RcAt.tuple_int _ _ hl hu0
    | str b =>
      have h' : v' = .str b := h'
      subst h'
      obtain ⟨t', rfl⟩ := r'
      simp only [deq, Bool.not_false, Bool.not_true]
      exact RcAt.tuple_str _ _ hl hu0
    | tup ds' =>
      obtain ⟨l', vs', rfl, e', hs'⟩ := h'
      cases r'
      obtain ⟨its', rv', hl'⟩ := DAts.tup_of ok e'
      simp only [deq, Bool.not_false, Bool.not_true]
      exact rc_tups ok (deq_at ok n) hs hs' rv rv' hl hl' f.2 hu
    | lst ds' =>
      obtain ⟨l', vs', rfl, e', hs'⟩ := h'
      cases r'
      obtain ⟨its', rv', hl'⟩ := DAts.lst_of ok e'
      simp only [deq, Bool.not_false, Bool.not_true]
      exact RcAt.tuple_list hl hl' hu0
  | lst ds =>
    obtain ⟨l, vs, rfl, e, hs⟩ := h
    cases r
    obtain ⟨its, rv, hl⟩ := DAts.lst_of ok e
    cases d' with
    | non =>
      have h' : v' = .non := h'
      subst h'
      cases r'
      simp only [deq, Bool.not_false, Bool.not_true]
      exact RcAt.list_none hl hu0
    | bl b =>
      have h' : v' = .bl b := h'
      subst h'
      cases r'
      simp only [deq, Bool.not_false, Bool.not_true]
      exact RcAt.list_bool _ hl hu0
    | int b =>
      have h' : v' = .int b := h'
      subst h'
      obtain ⟨t', rfl⟩ := r'
      simp only [deq, Bool.not_false, Bool.not_true]
      exact RcAt.list_int _ _ hl hu0
    | str b =>
      have h' : v' = .str b := h'
      subst h'
      obtain ⟨t', rfl⟩ := r'
      simp only [deq, Bool.not_false, Bool.not_true]
      exact RcAt.list_str _ _ hl hu0
    | tup ds' =>
      obtain ⟨l', vs', rfl, e', hs'⟩ := h'
      cases r'
      obtain ⟨its', rv', hl'⟩ := DAts.tup_of ok e'
      simp only [deq, Bool.not_false, Bool.not_true]
      exact RcAt.list_tuple hl hl' hu0
    | lst ds' =>
      obtain ⟨l', vs', rfl, e', hs'⟩ := h'
      cases r'
      obtain ⟨its', rv', hl'⟩ := DAts.lst_of ok e'
      simp only [deq, Bool.not_false, Bool.not_true]
      exact rc_lists ok (deq_at ok n) hs hs' rv rv' hl hl' f.2 hu
end
section
variable {X : Cx}
def rEqG : R2 := fun x y H Q => ∃ n d d', DAt H d x ∧ DAt H d' y ∧ DFit (n + 1) d ∧ n ≤ 60 ∧ Q (.bl (deq d d')) H
theorem op_eqG (hu : X.A.units + 64 < cLine) : OpR X (compareOp .Eq) rEqG := by
  intro pins s σ H x y v u Q I rx ry h
  obtain ⟨n, d, d', h1, h2, f, hn, q⟩ := h
  exact rc_at I.hok h1 h2 rx ry f (by omega) X.prog X.w _ _ (fin_bl I q rfl)
def rInG (neg : Bool) : R2 := fun x y H Q => ∃ n d ds, DAt H d x ∧ (DAt H (.lst ds) y ∨ DAt H (.tup ds) y) ∧ (∀ e ∈ ds, DFit n e) ∧ n ≤ 60 ∧ Q (.bl (neg ^^ ds.any fun e => deq e d)) H
open Classical in
theorem in_any {H : Hp} {its : List Value} {vs : List V} {ds : List Dt} {d : Dt} (hs : DAts H ds vs) (rv : Vals vs its) (e : Value → Bool) (he : ∀ y, e y = decide (∃ d' v', DAt H d' v' ∧ RelV v' y ∧ deq d' d = true)) : its.toArray.any e = ds.any fun e => deq e d := by
  rw [List.any_toArray]
  induction ds generalizing vs its with
  | nil =>
    have hs : vs = [] := hs
    subst hs
    cases rv
    rfl
  | cons d0 ds ih =>
    obtain ⟨v, r, rfl, e1, e2⟩ := hs
    cases rv with
    | cons rr rt =>
      rename_i u us
      rw [List.any_cons, List.any_cons, ih e2 rt, he]
      congr 1
      rw [Bool.eq_iff_iff, decide_eq_true_eq]
      constructor
      · rintro ⟨d', v', q1, q2, q3⟩
        have := RelV.inj q2 rr
        subst this
        rw [DAt.one_of e1 q1]
        exact q3
      · intro q
        exact ⟨d0, v, e1, rr, q⟩
open Classical in
theorem in_eq {P : Program} {w : World} {H : Hp} {s : Shared} {A : Around} (ok : HOk P w H s.heap) {its : List Value} {vs : List V} {ds : List Dt} {d : Dt} {x : V} {u : Value} {n : Nat} (hs : DAts H ds vs) (rv : Vals vs its) (hx : DAt H d x) (ru : RelV x u) (f : ∀ e ∈ ds, DFit n e) (hu : A.units + (n + 1) < cLine)
    (y : Value) (hy : y ∈ its.toArray) : EqAt A.in1 s y u (decide (∃ d' v', DAt H d' v' ∧ RelV v' y ∧ deq d' d = true)) := by
  obtain ⟨j, hj, e⟩ := List.getElem_of_mem (show y ∈ its by simpa using hy)
  have k1 := hs.length
  have k2 := rv.length
  have hjd : j < ds.length := by omega
  obtain ⟨v, v1, v2⟩ := hs.get (List.getElem?_eq_getElem hjd)
  have rr : RelV v y := vals_at rv v1 (by rw [List.getElem?_eq_getElem hj, e])
  have : decide (∃ d' v', DAt H d' v' ∧ RelV v' y ∧ deq d' d = true) = deq ds[j] d := by
    rw [Bool.eq_iff_iff, decide_eq_true_eq]
    constructor
    · rintro ⟨d', v', q1, q2, q3⟩
      have := RelV.inj q2 rr
      subst this
      rw [DAt.one_of v2 q1]
      exact q3
    · intro q
      exact ⟨_, v, v2, rr, q⟩
  rw [this]
  exact deq_at ok n v2 hx rr ru (f _ (List.getElem_mem hjd)) (by show A.units + 1 + n < cLine; omega)
theorem op_inG (hu : X.A.units + 64 < cLine) : OpR X (compareOp .In) (rInG false) := by
  intro pins s σ H x y v u Q I rx ry h
  obtain ⟨n, d, ds, hx, hy, f, hn, q⟩ := h
  rw [Bool.false_xor] at q
  rcases hy with ⟨l, vs, rfl, e, hs⟩ | ⟨l, vs, rfl, e, hs⟩
  · cases ry
    obtain ⟨its, rv, hl⟩ := DAts.lst_of I.hok e
    refine in_listAt _ hl (in_eq I.hok hs rv hx rx f (by omega)) (fin_bl I q ?_)
    exact (in_any hs rv _ fun _ => rfl).symm
  · cases ry
    obtain ⟨its, rv, hl⟩ := DAts.tup_of I.hok e
    refine in_tupleAt _ hl (in_eq I.hok hs rv hx rx f (by omega)) (fin_bl I q ?_)
    exact (in_any hs rv _ fun _ => rfl).symm
theorem op_notInG (hu : X.A.units + 64 < cLine) : OpR X (compareOp .NotIn) (rInG true) := by
  intro pins s σ H x y v u Q I rx ry h
  obtain ⟨n, d, ds, hx, hy, f, hn, q⟩ := h
  rw [Bool.true_xor] at q
  rcases hy with ⟨l, vs, rfl, e, hs⟩ | ⟨l, vs, rfl, e, hs⟩
  · cases ry
    obtain ⟨its, rv, hl⟩ := DAts.lst_of I.hok e
    refine notIn_listAt _ hl (in_eq I.hok hs rv hx rx f (by omega)) (fin_bl I q ?_)
    rw [in_any hs rv _ fun _ => rfl]
  · cases ry
    obtain ⟨its, rv, hl⟩ := DAts.tup_of I.hok e
    refine notIn_tupleAt _ hl (in_eq I.hok hs rv hx rx f (by omega)) (fin_bl I q ?_)
    rw [in_any hs rv _ fun _ => rfl]
end
end L2
set_option Elab.async false
set_option linter.all false
set_option maxRecDepth 100000
namespace L2
open PySem PySem.Spec PyProof.Rows PySem.SeqAt
section
variable {prog : Program} {w : World} {A : Around} {E : Value → Shared → Prop} {s : Shared}
structure Apt (z TI TO i1 i2 l1 l2 : Addr) : Prop where
  nd : [z, TI, TO, i1, i2].Nodup
  a1 : l1 ≠ z ∧ l1 ≠ TO ∧ l1 ≠ i1 ∧ l1 ≠ i2
  a2 : l2 ≠ z ∧ l2 ≠ TO ∧ l2 ≠ i1 ∧ l2 ≠ i2
theorem Apt.ne {z TI TO i1 i2 l1 l2 : Addr} (d : Apt z TI TO i1 i2 l1 l2) : (z ≠ TI ∧ z ≠ TO ∧ z ≠ i1 ∧ z ≠ i2) ∧ (TI ≠ TO ∧ TI ≠ i1 ∧ TI ≠ i2) ∧ (TO ≠ i1 ∧ TO ≠ i2) ∧ i1 ≠ i2 := by
  have := d.nd
  simp only [List.nodup_cons, List.mem_cons, List.not_mem_nil, or_false, not_or] at this
  exact ⟨this.1, this.2.1, this.2.2.1, this.2.2.2.1⟩
end
section
variable {X : Cx} {pins : List (Addr × Obj)} {σ : St} {H : Hp} {s : Shared} {h' : Heap}
theorem Inv.turnedL {t' : Nat} {ch : List Addr} (I : Inv X pins σ H s) (k : ∀ b o, b ∉ ch → s.heap.get? b = some o → h'.get? b = some o) (hf : ∀ b ∈ ch, FpOk X pins H b) : Inv X pins σ H { s with heap := h', toks := t' } := by
  have nit : ∀ b u, H b = some u → b ∉ ch := fun b u e z => by rw [(hf b z).1] at e; cases e
  have hL : X.env.locals ∉ ch := fun z => (hf _ z).2.1 rfl
  refine I.step (g' := s.gens) (d' := s.drawn) (ch := ch) (fun b hb => ?_) (fun b o _ _ hc e _ => k b o hc e) (fun b o _ _ hc e _ => ⟨o.slots, k b o hc e⟩) (fun _ _ _ _ n => n) (fun b o hc e => ⟨o, k b o hc e⟩) (fun _ _ e => e) (fun _ _ _ e => e) (fun b ps e => ⟨#[], by rw [e]; simp⟩) (fun m hm => ?_) (fun b u e => ?_) I.bare
  · obtain ⟨f0, f1, f2, f3, f4, f5⟩ := hf b hb
    exact ⟨f3, f1, f4, f5⟩
  · obtain ⟨o, es, ep, ho, r⟩ := hm
    exact ⟨o, es, ep, k _ o hL ho, r⟩
  · refine (I.hok b u e).stay (fun c v hc q => k c v ?_ q) (fun _ q => q) fun _ _ q => q
    rcases hc with z | z
    · rw [z]; exact nit b u e
    · exact nit c _ z
theorem Inv.turnedN {t' : Nat} {ch : List Addr} {p : Addr} {o : HO} (I : Inv X pins σ H s) (k : ∀ b o, b ∉ ch → s.heap.get? b = some o → h'.get? b = some o) (hf : ∀ b ∈ ch, FpOk X pins H b) (hp : s.heap.objs.size ≤ p) (new : ObjOk X.prog X.w (upd H p o) h' p o) :
    Inv X pins σ (upd H p o) { s with heap := h', toks := t' } := by
  have nit : ∀ b u, H b = some u → b ∉ ch := fun b u e z => by rw [(hf b z).1] at e; cases e
  have hL : X.env.locals ∉ ch := fun z => (hf _ z).2.1 rfl
  have hn := I.hok.fresh hp
  have nep : ∀ {b : Addr} {u : HO}, H b = some u → b ≠ p := fun e z => by rw [z, hn] at e; cases e
  refine I.step (g' := s.gens) (d' := s.drawn) (ch := ch) (fun b hb => ?_) (fun b o _ _ hc e _ => k b o hc e) (fun b o _ _ hc e _ => ⟨o.slots, k b o hc e⟩) (fun b u _ e n => ?_) (fun b o hc e => ⟨o, k b o hc e⟩) (fun _ _ e => by rw [upd_ne (nep e)]; exact e) (fun _ _ _ e => by rw [upd_ne (nep e)]; exact e) (fun b ps e => ⟨#[], by rw [upd_ne (nep e), e]; simp⟩) (fun m hm => ?_) (fun b u e => ?_) I.bare
  · obtain ⟨f0, f1, f2, f3, f4, f5⟩ := hf b hb
    exact ⟨f3, f1, f4, f5⟩
  · rw [upd_ne (Nat.ne_of_lt (Nat.lt_of_lt_of_le (Heap.lt_size e) hp))]
    exact n
  · obtain ⟨o, es, ep, ho, r⟩ := hm
    exact ⟨o, es, ep, k _ o hL ho, r⟩
  · by_cases hb : b = p
    · subst hb
      rw [upd_same] at e
      cases e
      exact new
    · rw [upd_ne hb] at e
      refine (I.hok b u e).stay (fun c v hc q => k c v ?_ q) (fun c q => by rw [upd_ne (nep q)]; exact q) fun c _ q => by rw [upd_ne (nep q)]; exact q
      rcases hc with z | z
      · rw [z]; exact nit b u e
      · exact nit c _ z
end
section
variable {X : Cx}
end
end L2
set_option Elab.async false
set_option linter.all false
set_option maxRecDepth 100000
namespace L2
open PySem PySem.Spec PyProof.Rows PySem.SeqAt
def entI (w : World) : List DictEntry → List (Str × Int) → Prop
  | [], r => r = []
  | e :: es, r => ∃ x y t u r', r = (x, y) :: r' ∧ e.hash = hashStr w x ∧ e.key = .str x t ∧ e.val = .int y u ∧ entI w es r'
theorem entI.all {w : World} {P : Program} : ∀ {es : List DictEntry} {r : List (Str × Int)}, entI w es r → (∀ e ∈ es, ∃ k, (mixKind P w).is k e.key = true ∧ e.hash = (mixKind P w).hash k) ∧
    ∃ vs : List (Key × Value), KV (r.map fun p => ((.inr p.1 : Key), V.int p.2)) vs ∧ Pairs (mixKind P w) es vs ∧ vs.map (·.1) = r.map fun p => (.inr p.1 : Key)
  | [], r, h => by
    have h : r = [] := h
    subst h
    exact ⟨fun e he => (nomatch he), [], .nil, .nil, rfl⟩
  | e :: es, r, h => by
    obtain ⟨x, y, t, u, r', rfl, h1, h2, h3, h4⟩ := h
    obtain ⟨g, vs, a, b, c⟩ := entI.all (P := P) h4
    refine ⟨fun e' he => ?_, (.inr x, .int y u) :: vs, .cons ⟨rfl, u, rfl⟩ a, .cons (by rw [h2]; exact mixKind_str P w x t) h3 b, ?_⟩
    · rcases List.mem_cons.mp he with rfl | he
      · exact ⟨.inr x, by rw [h2]; exact mixKind_str P w x t, h1⟩
      · exact g e' he
    · rw [List.map_cons, List.map_cons, c]
theorem lc_rangeIf {lo : Int} {n : Nat} {ns : List Str} {js : List Nat} {g : TG} {tc : TT} {te : TE} {σ : St} {H : Hp} {Q : VK} (Pv : Nat → List V → St → Hp → Prop) (h0 : Pv 0 [] (lcSt ns js σ) H) (hz : n ≤ sizeLine) (hl : ∀ i ys σ H, Pv i ys σ H → ys.length ≤ i)
    (hs : ∀ (i : Nat) ys σ H (C : V → St → Hp → Prop) (D : St → Hp → Prop), i < n → Pv i ys σ H → (∀ y σ2 H3, Pv (i + 1) (ys ++ [y]) σ2 H3 → C y σ2 H3) → (∀ σ2 H3, Pv (i + 1) ys σ2 H3 → D σ2 H3) →
      g (.int (lo + i)) σ H fun σ2 H2 => tc σ2 H2 fun b H3 => if b = true then te σ2 H3 fun y H4 => C y σ2 H4 else D σ2 H3)
    (hd : ∀ ys σ H, Pv n ys σ H → ∀ p, H p = none → Q (.ref p) (upd H p (.lst ys))) :
    LcW (Itr lo n) ns js g (some tc) te σ H Q := by
  refine ⟨fun i m ys σ H => m = n - i ∧ i ≤ n ∧ Pv i ys σ H, ⟨n, by omega, Nat.zero_le _, h0⟩, fun i m ys σ1 H1 ⟨hm, hi, hp⟩ => ?_⟩
  by_cases h : i < n
  · refine .inr ⟨h, ?_, fun x H' ⟨e, hx⟩ => ?_⟩
    · have := hl i ys σ1 H1 hp
      omega
    · subst e
      subst hx
      exact hs i ys σ1 _ _ _ h hp (fun y σ2 H3 q => ⟨n - (i + 1), by omega, rfl, by omega, q⟩) fun σ2 H3 q => ⟨n - (i + 1), by omega, rfl, by omega, q⟩
  · have e : i = n := by omega
    subst e
    exact .inl ⟨Nat.le_refl _, hd ys σ1 H1 hp⟩
end L2
set_option Elab.async false
set_option linter.all false
set_option maxRecDepth 100000
namespace L2
open PySem PySem.Spec PyProof.Rows PySem.SeqAt
inductive Rw where
  | no | nm (x : Str) | bo (i j : Int)
def dRw : Rw → Dt
  | .no => .tup [.str "none"]
  | .nm x => .tup [.str "name", .str x]
  | .bo i j => .tup [.str "both", .int i, .int j]
abbrev Pr := Int × Int
def dPr (p : Pr) : Dt := .tup [.int p.1, .int p.2]
abbrev NRul := List Pr × Pr
def dNR (r : NRul) : Dt := .tup [.lst (r.1.map dPr), dPr r.2]
inductive Wt where
  | n (i : Int) | ps (l : List Int)
def dWt : Wt → Dt
  | .n i => .int i
  | .ps l => .tup (l.map .int)
structure Ln where
  i : Int
  j : Int
  w : Str
  as : List Wt
def dWhy (w : Str) (as : List Wt) : Dt := .tup (.str w :: as.map dWt)
def dLn (l : Ln) : Dt := .tup [.int l.i, .int l.j, dWhy l.w l.as]
def tn1 (n : Int) : Int := n + 1 - 2 * (n % 2)
end L2
set_option Elab.async false
set_option linter.all false
set_option maxRecDepth 100000
namespace L2
open PySem PySem.Spec PyProof.Rows PySem.SeqAt
section
variable {prog : Program} {w : World} {A : Around} {E : Value → Shared → Prop} {s : Shared}
theorem tup_whole {t sl : Addr} {items : Array Value} {vl vu : Value} {lo hi : Option Int} {Q : Value → Shared → Prop} (ht : IsTup s.heap t items) (hs : s.heap.IsSliceOf sl vl vu .none) (pl : IsPart vl lo) (pu : IsPart vu hi)
    (hw : HT.sIx items.size 0 lo = 0 ∧ HT.sIx items.size items.size hi = items.size) (h : Q (.ref t) s) : wpAny (model prog w) A (getItem (.ref t) (.ref sl)) Q E s := by
  obtain ⟨os, hos, hcs, hds⟩ := id hs
  have hTs : s.TypeIs (.ref sl) "slice" := ⟨os, hos, hcs⟩
  unfold getItem
  try with_reducible refine wpAny_holding ?_
  first | refine wpAny_bind (wpAny_pure ?_) | skip
  refine wpAny_bind (wpAny_sequenceKey ht.typeIs (by decide) (wpAny_bind (wpAny_callSpecial?_slot (name := Str.ofString "__getitem__") ht.typeIs PyProof.Rows.slot_tuple_getitem (wpAny_call_entry PyProof.Rows.slot_tuple_getitem ht.typeIs entry_tuple_getitem ?_ (args_tuple_getitem _ _)))))
  refine wpAny_bind (m := Builtin.Tuple.tupleItemsOf (.ref t)) (tupleItemsOf_ ht (wpAny_bind (wpAny_typeOf hTs ?_)))
  rw [if_pos (by decide)]
  refine wpAny_bind (HT.sliceApplied_gen hs pl pu ?_)
  have hyes : ((((HT.sIx items.size 0 lo : Nat) : Int) == 0 && (1 : Int) == 1 && (HT.sIx items.size items.size hi - HT.sIx items.size 0 lo) == items.size) = true) := by
    rw [hw.1, hw.2]
    simp
  show wpAny _ _ (if (((HT.sIx items.size 0 lo : Nat) : Int) == 0 && (1 : Int) == 1 && (HT.sIx items.size items.size hi - HT.sIx items.size 0 lo) == items.size) = true then _ else _) _ _ s
  rw [if_pos hyes]
  have hT := ht.typeIs
  wp_walk
  exact ⟨_, rfl, wpAny_pure h⟩
end
section
variable {X : Cx}
def rSlG : V → Option Int → Option Int → Hp → VK → Prop := fun x lo hi H Q => ∃ a xs, x = .ref a ∧ H a = some (.tup xs) ∧ ∀ p H', Same H H' → H' p = some (.tup (cutV xs lo hi)) → Q (.ref p) H'
theorem sl_tupG : SlR X rSlG := by
  intro pins s σ H x v vl vu lo hi sl Q I rx hs pl pu h
  obtain ⟨a, xs, rfl, hx, q⟩ := h
  by_cases hw : HT.sIx xs.length 0 lo = 0 ∧ HT.sIx xs.length xs.length hi = xs.length
  · cases rx
    obtain ⟨its, r, ht, hz⟩ := I.tuple (SqT.of hx)
    have hlen : its.toArray.size = xs.length := by rw [List.size_toArray]; exact r.length.symm
    refine ⟨"tuple", _, PyProof.Rows.slot_tuple_getitem.lookup, ht.typeIs, ?_⟩
    refine tup_whole ht hs pl pu (by rw [hlen]; exact hw) ⟨.ref a, H, I, rfl, q a H (Same.refl H) ?_⟩
    have e : cutV xs lo hi = xs := by
      unfold cutV
      rw [hw.1, hw.2, List.drop_zero, Nat.sub_zero, List.take_of_length_le (Nat.le_refl _)]
    rw [e]
    exact hx
  · exact sl_tup pins s σ H _ v vl vu lo hi sl Q I rx hs pl pu ⟨a, xs, rfl, SqT.of hx, hw, fun p hp => q p _ (same_new hp _) upd_same⟩
def rCatG : R2 := fun x y H Q => ∃ a b xs ys, x = .ref a ∧ y = .ref b ∧ H a = some (.tup xs) ∧ H b = some (.tup ys) ∧ xs.length + ys.length ≤ sizeLine ∧ ∀ p H', Same H H' → H' p = some (.tup (xs ++ ys)) → Q (.ref p) H'
theorem op_catG : OpR X (binaryOp .Add) rCatG := by
  intro pins s σ H x y v u Q I rx ry h
  obtain ⟨a, b, xs, ys, rfl, rfl, ha, hb, hz, q⟩ := h
  by_cases hx : xs = []
  · subst hx
    cases rx
    cases ry
    obtain ⟨its, r1, p1, _⟩ := I.tuple (SqT.of ha)
    obtain ⟨its2, r2, p2, _⟩ := I.tuple (SqT.of hb)
    have hv : its = [] := r1.nil_iff.mpr rfl
    obtain ⟨⟨cls, dd, data, sl⟩, ho, hc, n, hd⟩ := id p1
    obtain ⟨⟨cls2, dd2, data2, sl2⟩, ho2, hc2, n2, hd2⟩ := id p2
    simp only at hc hd hc2 hd2
    subst hc hd hc2 hd2
    exact concat_meets ⟨_, ho, rfl⟩ ⟨_, ho2, rfl⟩ noFill_tuple_add seq_tuple_add PySem.F.slot_tuple_add PySem.F.entry_tuple_add (PySem.F.args_tuple_add_2 _ _) (tuple_addW0 a b its.toArray its2.toArray n n2 dd dd2 sl sl2 (by simp [hv])) ⟨ho, ho2, ⟨.ref b, H, I, rfl, q b H (Same.refl H) hb⟩⟩
  · refine op_catT pins s σ H _ _ v u Q I rx ry ⟨a, b, xs, ys, rfl, rfl, SqT.of ha, SqT.of hb, hx, hz, fun e => ?_, fun _ p hp => q p _ (same_new hp _) upd_same⟩
    subst e
    exact q a H (Same.refl H) (by rw [List.append_nil]; exact ha)
end
end L2
set_option Elab.async false
set_option linter.all false
set_option maxRecDepth 100000
namespace L2
open PySem PySem.Spec PyProof.Rows PySem.SeqAt
section
variable {X : Cx}
def rIndexG : V → List V → Hp → VK → Prop := fun x vs H Q => ∃ (l : Addr) (us : List V) (ds : List Dt) (v : V) (d : Dt) (n j : Nat), x = .ref l ∧ vs = [v] ∧ H l = some (.lst us) ∧ DAts H ds us ∧ DAt H d v ∧ (∀ e ∈ ds, DFit n e) ∧ n ≤ 60 ∧ ds.length ≤ 1000000 ∧ (∃ d', ds[j]? = some d' ∧ deq d' d = true) ∧ (∀ (m : Nat) (d' : Dt), m < j → ds[m]? = some d' → deq d' d = false) ∧ Q (.int j) H
open Classical in
theorem mt_indexG (hu : X.A.units + 64 < cLine) : MtM X "list.index" rIndexG := by
  intro pins s σ H x vs v us Q I rx rv h
  obtain ⟨l, ws, ds, y, d, n, j, rfl, rfl, hH, hds, hd, hf, hn, h6, ⟨d', hj, hj'⟩, hno, q⟩ := h
  cases rx
  obtain ⟨u, rfl, ru⟩ := rv.one
  obtain ⟨hz, its, m, r, hl, e⟩ := I.lstM hH
  have k1 := hds.length
  have k2 := r.length
  obtain ⟨jl, je⟩ := List.getElem?_eq_some_iff.mp hj
  have at_ : ∀ m (hm : m < its.length), decide (∃ d' v', DAt H d' v' ∧ RelV v' its[m] ∧ deq d' d = true) = deq (ds[m]'(by omega)) d := fun m hm => by
    have hmd : m < ds.length := by omega
    obtain ⟨v, v1, v2⟩ := hds.get (List.getElem?_eq_getElem hmd)
    have rr : RelV v its[m] := vals_at r v1 (List.getElem?_eq_getElem hm)
    rw [Bool.eq_iff_iff, decide_eq_true_eq]
    constructor
    · rintro ⟨d', v', q1, q2, q3⟩
      have := RelV.inj q2 rr
      subst this
      rw [DAt.one_of v2 q1]
      exact q3
    · intro q
      exact ⟨_, v, v2, rr, q⟩
  have hj2 : j < its.toArray.size := by rw [List.size_toArray]; omega
  have M := PySem.SeqAt.list_indexAt l its.toArray m none #[] u (fun y => decide (∃ d' v', DAt H d' v' ∧ RelV v' y ∧ deq d' d = true)) j hj2 (by omega) (by
      rw [List.getElem_toArray, at_ j (by omega), je]
      exact hj') (fun m hm hlt => by
      rw [List.getElem_toArray, at_ m (by simpa using hm)]
      exact hno m _ hlt (List.getElem?_eq_getElem (by have : m < its.length := (by simpa using hm); omega)))
  refine call_meets PySem.F.slot_list_index ⟨_, e, rfl⟩ PySem.F.entry_list_index (PySem.F.args_list_index_2 _ _) M ⟨e, fun y hy => ?_, ?_⟩
  · exact in_eq I.hok hds r hd ru hf (by omega) y hy
  · exact ⟨.int j, H, I.tok _, ⟨_, rfl⟩, q⟩
end
end L2
set_option Elab.async false
set_option linter.all false
set_option maxRecDepth 100000
namespace L2
open PySem
def Ris (xs : Array Nat) : Prop := xs.toList.Pairwise (· < ·)
theorem Ris.mono {xs : Array Nat} (h : Ris xs) : ∀ a b, a < b → b < xs.size → xs.getD a 0 < xs.getD b 0 := by
  intro a b hab hb
  have := List.pairwise_iff_getElem.mp h a b (by rw [Array.length_toList]; omega) (by rw [Array.length_toList]; exact hb) hab
  simpa [Array.getD, hb, Nat.lt_trans hab hb] using this
def FlN (t : SetTable) : Prop := t.plain = false ∨ Ris t.place
end L2
set_option Elab.async false
set_option linter.all false
set_option maxRecDepth 100000
namespace L2
open PySem PyProof.Rows
def nuv : Value → Option Int
  | .int z _ => some z
  | _ => none
def nus (l : List (Int × Value)) : List Int := l.filterMap fun e => nuv e.2
section
variable {prog : Program} {w : World} {A : Around} {E : Value → Shared → Prop} {s : Shared}
def NuSet (prog : Program) (w : World) (h : Heap) (a : Addr) (zs : List Int) : Prop :=
  ∃ o es ep t, h.get? a = some o ∧ o.ExactSet ∧ o.data = .set es ep t ∧ ElemsOf (intKind prog w) es.toList ∧ zs = nus es.toList ∧ zs.Nodup ∧ es.size < scanBound ∧ t.fits es.size = true ∧
    (byTx w = true ∨ t.led = true ∧ FlN t)
theorem NuSet.kept {h h' : Heap} {a : Addr} {zs : List Int} (hS : NuSet prog w h a zs) (k : ∀ o, h.get? a = some o → h'.get? a = some o) : NuSet prog w h' a zs := by
  obtain ⟨o, es, ep, t, ho, r⟩ := hS
  exact ⟨o, es, ep, t, k _ ho, r⟩
end
section
variable {prog : Program} {w : World} {A : Around} {R : Result → Shared → Prop} {I : Addr} {fp wr : List Addr} {G : Array GenState → Array GenState → Prop} {n : Nat} {P : Nat → Value → Prop} {St : Nat → Shared → Prop}
end
section
variable {prog : Program} {w : World} {A : Around} {E : Value → Shared → Prop} {s : Shared}
theorem ints_ofT : ∀ {vs : List Value} {ss : List Int}, vs.length = ss.length → (∀ (i : Nat) (v : Value) (x : Int), vs[i]? = some v → ss[i]? = some x → ∃ t, v = .int x t) → IntsAre vs ss
  | [], [], _, _ => .nil
  | [], _ :: _, h, _ => by simp at h
  | _ :: _, [], h, _ => by simp at h
  | v :: vs, x :: ss, h, hh => by
    obtain ⟨t, rfl⟩ := hh 0 v x rfl rfl
    exact .cons x t (ints_ofT (by simpa using h) fun i v' x' h1 h2 => hh (i + 1) v' x' (by simpa using h1) (by simpa using h2))
end
end L2
set_option Elab.async false
set_option linter.all false
set_option maxRecDepth 100000
namespace L2
open PySem PySem.Spec PyProof.Rows PySem.SeqAt PySem.W
theorem ints_vals : ∀ {vs : List Value} {ss : List Int}, IntsAre vs ss → Vals (ss.map V.int) vs
  | _, _, .nil => .nil
  | _, _, .cons y t h => .cons ⟨t, rfl⟩ (ints_vals h)
theorem vals_intsA : ∀ {ss : List Int} {vs : List Value}, Vals (ss.map V.int) vs → IntsAre vs ss
  | [], _, .nil => .nil
  | z :: zs, _, .cons r q => by
    obtain ⟨t, rfl⟩ := r
    exact .cons z t (vals_intsA q)
section
variable {prog : Program} {w : World} {A : Around} {E : Value → Shared → Prop} {s : Shared} {T : String} {r d : Addr} {n : Nat} {P : Nat → Value → Prop} {OK : Heap → Prop}
theorem sorted_srcI {Q : Value → Shared → Prop} (K : KdlSrc prog w T r d n P OK) (hh : A.handled = none) (hok : OK s.heap) (hn : n < 64) {ss : List Int} (hl : ss.length = n) (hP : ∀ (i : Nat) (v : Value) (x : Int), P i v → ss[i]? = some x → ∃ t, v = .int x t)
    (h : ∀ (h1 h' : Heap) (tk : Nat) (vs' : List Value) (ss' : List Int) (e : Nat), (∀ b o, s.heap.get? b = some o → h1.get? b = some o) → (∀ b o, h1.get? b = some o → h'.get? b = some o) → h'.get? h1.objs.size = some { cls := .type "list", data := .seq vs'.toArray e } → IntsAre vs' ss' → ss'.Perm ss → ss'.Pairwise (· ≤ ·) → Q (.ref h1.objs.size) { s with heap := h', toks := tk }) :
    wpAny (model prog w) A (call (.builtin "sorted") [.ref r]) Q E s := by
  have hs : sizeLine = 16777216 := sizeLine_eq
  refine Calls.call_function_entry kind_sorted plain_sorted entry_sorted (args_sorted1 _) ?_
  unfold Builtin.«sorted»
  refine wpAny_bind (m := checkCount "sorted" 1 1 _) (wpAny_pure ?_)
  refine wpAny_bind (kdu_collect (A := A.in1) K hh hok (by omega) fun h' tk acc hk hacc => ?_)
  have hl2 : acc.toList.length = n := by rw [Array.length_toList]; exact hacc.1
  have hS : IntsAre acc.toList ss := ints_ofT (by omega) fun i v x h1 h2 => hP i v x (hacc.2 i v (by rw [← Array.getElem?_toList]; exact h1)) h2
  generalize acc.toList = vs at hl2 hS
  refine wpAny_bind (wpAny_newList ?_ (by omega))
  have hoL : (h'.push (seqObj "list" vs.toArray 0)).get? h'.objs.size = some (seqObj "list" vs.toArray 0) := Heap.get?_push_size _ rfl
  show wpAny _ _ _ _ _ { s with heap := h'.push (seqObj "list" vs.toArray 0), toks := tk }
  refine wpAny_bind (wpAny_holding (wpAny_call_entry slot_list_sort ⟨_, hoL, rfl⟩ entry_list_sort (list_sort_tree (A := A.in1.in1) hoL hS (by omega) fun out ss' a1 a2 a3 => ⟨_, rfl, ?_⟩) (args_list_sort _)))
  obtain ⟨e, he⟩ := sortedHeap_at (out := out) hoL
  refine wpAny_pure ⟨_, rfl, h h' _ tk _ ss' e hk (fun b o hb' => ?_) (by rw [Array.toArray_toList]; exact he) a1 a2 a3⟩
  have hlt := Heap.lt_size hb'
  rw [sortedHeap_old (Nat.ne_of_lt hlt) (by rw [size_push']; exact Nat.lt_succ_of_lt hlt)]
  exact Heap.get?_push_of_some _ hb'
end
section
variable {X : Cx}
theorem call_sortedLI : CallR X (.builtin "sorted") (fun xs H Q => ∃ (p : Addr) (zs : List Int), xs = [.ref p] ∧ SqL X.K H p (zs.map V.int) ∧ zs.length < 64 ∧
    ∀ (l : Addr) (zs' : List Int), H l = none → zs'.Perm zs → zs'.Pairwise (· ≤ ·) → Q (.ref l) (upd H l (.lst (zs'.map V.int)))) := by
  intro pins s σ H xs us Q I r h
  obtain ⟨p, zs, rfl, hp, h64, q⟩ := h
  obtain ⟨u, rfl, ru⟩ := vals1 r
  cases ru
  obtain ⟨its, rv, ⟨o, n, e1, e2, e3, e4⟩, z⟩ := I.list hp
  have hil : its.length = zs.length := by have := rv.length; rw [List.length_map] at this; omega
  refine sorted_ints (vs := its) ⟨o, e1, e2, n, by simpa using e4⟩ (vals_intsA rv) (by omega) fun out ns' a1 a2 a3 => ?_
  obtain ⟨e, he⟩ := sortedAll_at s.heap its out
  have hlen : ns'.length = zs.length := a2.length_eq
  exact ⟨.ref (s.heap.objs.size + 1), _, I.laid (a := s.heap.objs.size + 1) (o := .lst (ns'.map V.int)) (t' := s.toks) (fun b o hb => sortedAll_old hb) (Nat.le_succ _) ⟨by rw [List.length_map, sizeLine_eq]; omega, out.toList, e, ints_vals a1, by simpa using he⟩, rfl, q _ _ (I.hok.fresh (Nat.le_succ _)) a2 a3⟩
theorem call_sortedDI : CallR X (.builtin "sorted") (fun xs H Q => X.calm = true ∧ ∃ (p : Addr) (kvs : List (Key × V)) (zs : List Int), xs = [.ref p] ∧ H p = some (.dK kvs) ∧ kvs.map (·.1) = zs.map Sum.inl ∧ zs.length < 64 ∧
    ∀ (l : Addr) (zs' : List Int), H l = none → zs'.Perm zs → zs'.Pairwise (· ≤ ·) → Q (.ref l) (upd H l (.lst (zs'.map V.int)))) := by
  intro pins s σ H xs us Q I r h
  obtain ⟨hc, p, kvs, zs, rfl, hp, hk, h64, q⟩ := h
  obtain ⟨u, rfl, ru⟩ := vals1 r
  cases ru
  obtain ⟨z, hd, vs, rel, dd⟩ := dk_rd I.hok (.inl hp)
  obtain ⟨ep, hat⟩ := dd.dictAt
  have hvl : kvs.length = vs.length := Paired.length rel
  have hkl : kvs.length = zs.length := by have := congrArg List.length hk; rwa [List.length_map, List.length_map] at this
  have hkeys : vs.map (·.1) = zs.map Sum.inl := (kv_keys rel).trans hk
  refine sorted_srcI (kdl_dict (knd := mixKind X.prog X.w) (kvs := vs) (ep := ep) hd) (I.ok.hd hc) hat (by omega) (ss := zs) (by omega) (fun i v x hP hx => ?_) fun h1 h' tk vs' ss' e k1 k2 hB hS hp2 hs2 => ?_
  · obtain ⟨k, y, h1, h2⟩ := hP
    have e1 : (vs.map (·.1))[i]? = some k := by rw [List.getElem?_map, h1]; rfl
    rw [hkeys, List.getElem?_map, hx] at e1
    cases e1
    have h2 : keyIs (.inl x) v = true := h2
    rcases keyIs_shape h2 with ⟨x', t, e, e2⟩ | ⟨_, _, e, _⟩
    · cases e
      exact ⟨t, e2⟩
    · cases e
  · have I1 : Inv X pins σ H { s with heap := h1, toks := tk } := I.kept k1
    have hlen : ss'.length = zs.length := hp2.length_eq
    exact ⟨.ref h1.objs.size, _, I1.laid (a := h1.objs.size) (o := .lst (ss'.map V.int)) (t' := tk) k2 (Nat.le_refl _) ⟨by rw [List.length_map, sizeLine_eq]; omega, vs', e, ints_vals hS, hB⟩, rfl, q _ _ (I1.hok.fresh (Nat.le_refl _)) hp2 hs2⟩
end
theorem sortedI_one {l l' : List Int} (h : l.Pairwise (· ≤ ·)) (h' : l'.Pairwise (· ≤ ·)) (p : l.Perm l') : l = l' :=
  List.Perm.eq_of_pairwise (le := fun a b : Int => a ≤ b) (fun a b _ _ h1 h2 => Int.le_antisymm h1 h2) h h' p
end L2
set_option Elab.async false
set_option linter.all false
set_option maxRecDepth 100000
namespace L2
open PySem PySem.Spec PyProof.Rows PySem.SeqAt
def Ite (a : Addr) : It :=
  ⟨fun i H => ∃ xs x, H a = some (.lst xs) ∧ xs[i]? = some x,
   fun i H v H' => ∃ p x, v = .ref p ∧ H p = none ∧ H' = upd H p (.tup [.int i, x]) ∧ ∀ xs, H a = some (.lst xs) → xs[i]? = some x,
   fun i H => ∃ xs, H a = some (.lst xs) ∧ xs.length ≤ i⟩
def Eat (e it l : Addr) (i : Nat) (h : Heap) : Prop := (∃ old, IsEnum h e it i old) ∧ h.IsListIter it l i
theorem turn_enum {P : Program} {w : World} {K : PySem.W.Frag} {elts : List Expr} {cx : _} {tp : Pos} (e it l : Addr) (ne : e ≠ it) :
    Turn P w K (.Tuple elts cx tp) (Ite l) [e, it] e (Eat e it l) where
  mem := by simp
  obj := fun i h st b hb => by
    obtain ⟨⟨old, ge⟩, ⟨o2, r2, _, d2⟩⟩ := st
    simp only [List.mem_cons, List.not_mem_nil, or_false] at hb
    rcases hb with rfl | rfl
    · exact ⟨_, ge, fun v e => by cases e⟩
    · exact ⟨_, r2, fun v e => by rw [d2] at e; cases e⟩
  keep := fun i h h' st k => by
    obtain ⟨⟨old, ge⟩, ⟨o2, r2, q2⟩⟩ := st
    exact ⟨⟨old, k _ (by simp) _ ge⟩, ⟨o2, k _ (by simp) _ r2, q2⟩⟩
  item := by
    intro X hP hw hK hc i pins s σ H E I hf st hg
    subst hP hw hK
    obtain ⟨xs, x, ha, hx⟩ := hg
    obtain ⟨its, rv, t1⟩ := DAts.lst_of I.hok ha
    obtain ⟨u, hu, ru⟩ := rv.get hx
    obtain ⟨⟨old, ge⟩, r1⟩ := st
    refine wpAny_pyNext_enum_item ge r1 t1 (by simpa using hu) ne fun h1 b1 b2 b3 b4 b5 => ?_
    refine ⟨_, rfl, wpAny_letOwnedTupleGo_enum (s := { s with heap := h1, toks := s.toks + 1 }) b1 fun h2 g2 s2 => ?_⟩
    have be : e < s.heap.objs.size := Heap.lt_size ge
    have bi : it < s.heap.objs.size := by obtain ⟨_, z, _⟩ := r1; exact Heap.lt_size z
    have keep2 : ∀ b o, b ∉ [e, it] → s.heap.get? b = some o → h2.get? b = some o := fun b o hb q => by
      simp only [List.mem_cons, List.not_mem_nil, or_false, not_or] at hb
      exact s2.extBut b o hb.1 (b5 b o hb.1 hb.2 q)
    have hfr : H s.heap.objs.size = none := I.hok.fresh (Nat.le_refl _)
    have gT := s2.extBut _ _ (Nat.ne_of_gt be) b3
    refine ⟨.ref s.heap.objs.size, _, I.turnedN (t' := s.toks + 1) (p := s.heap.objs.size) (o := .tup [.int i, x]) keep2 hf (Nat.le_refl _) ⟨small (by simp), [.int i s.toks, u], .cons ⟨_, rfl⟩ (.cons ru .nil), ⟨_, gT, rfl, _, rfl⟩⟩, rfl, ⟨_, x, rfl, hfr, rfl, fun xs' e1 => ?_⟩, ?_, fun b hb => ?_⟩
    · rw [ha] at e1
      cases e1
      exact hx
    · obtain ⟨o2, b21, b22⟩ := b2
      exact ⟨⟨_, g2⟩, ⟨o2, s2.extBut _ _ (Ne.symm ne) b21, b22⟩⟩
    · have hb2 : b < s.heap.objs.size := by
        simp only [List.mem_cons, List.not_mem_nil, or_false] at hb
        rcases hb with rfl | rfl
        · exact be
        · exact bi
      rw [upd_ne (Nat.ne_of_lt hb2)]
      exact (hf b hb).1
  done := by
    intro X hP hw hK hc i pins s σ H E I hf st hg
    subst hP hw hK
    obtain ⟨xs, ha, hl⟩ := hg
    obtain ⟨its, rv, t1⟩ := DAts.lst_of I.hok ha
    have k1 := rv.length
    obtain ⟨⟨old, ge⟩, r1⟩ := st
    refine wpAny_pyNext_enum_end (I.ok.hd hc) ge r1 t1 (by simp; omega) fun h1 kk => ⟨rfl, ?_⟩
    refine I.turnedL (ch := [it]) (t' := s.toks) (fun b o hb q => ?_) (fun b hb => hf b (by simp only [List.mem_cons, List.not_mem_nil, or_false] at hb ⊢; exact .inr hb))
    simp only [List.mem_cons, List.not_mem_nil, or_false] at hb
    exact kk b o hb q
  self := fun _ _ _ _ _ st h => by
    obtain ⟨⟨old, ge⟩, _⟩ := st
    exact wpAny_pyIter_enum ge h
section
variable {X : Cx}
def iEnum (ta : TA) : TI := fun σ H R => ta σ H fun vs H1 => ∃ a xs, vs = [.ref a] ∧ H1 a = some (.lst xs) ∧ R (Ite a) H1
theorem pi_enum {elts : List Expr} {cx : _} {tp : Pos} {a : Expr} {ta : TA} {p pos : Pos} (hg : Gl X "enumerate") (hm : X.mg "enumerate" = none) (ha : PA X [a] ta) (hs : starEach [a] X.env = [(false, eval a X.env)] := by rfl) :
    PI X (.Tuple elts cx tp) (.Call (.Name "enumerate" p) [a] [] pos) (iEnum ta) := by
  intro pins s σ H R I h
  refine Call_ (ld_blt I hg hm boot_enumerate (PyProof.Rows.callWith_type1 (thn (ha pos pins s σ H _ I h) fun us s1 ⟨vs, H1, I1, r1, q1⟩ => ?_) (by rw [hs]; rfl) (by rfl)))
  obtain ⟨l1, xs, e, h1, q⟩ := q1
  subst e
  cases r1 with
  | cons r rr =>
    cases rr
    cases r
    obtain ⟨its1, rv1, t1⟩ := DAts.lst_of I1.hok h1
    refine call_enumerate_list t1 fun h' gz g1 _ kk => ?_
    refine wpAny_pyIter_enum (s := { s1 with heap := h' }) gz ?_
    have fr : ∀ b, s1.heap.objs.size ≤ b → FpOk X pins H1 b := fun b hb => I1.fpOk hb (I1.hok.fresh hb)
    refine ⟨_, [s1.heap.objs.size + 1, s1.heap.objs.size], _, _, H1, rfl, I1.kept (t' := s1.toks) kk, turn_enum _ _ l1 (Nat.succ_ne_self _), ⟨⟨_, gz⟩, g1⟩, fun b hb => ?_, q⟩
    simp only [List.mem_cons, List.not_mem_nil, or_false] at hb
    rcases hb with rfl | rfl <;> exact fr _ (by omega)
end
theorem fw_enum {a : Addr} {xs : List V} {g : TG} {tb : TS} {D : Ends} {σ : St} {H : Hp} (Pv : Nat → St → Hp → Prop) (h0 : Pv 0 σ H) (hl : ∀ i σ H, Pv i σ H → H a = some (.lst xs))
    (hs : ∀ (i : Nat) x σ H p, xs[i]? = some x → Pv i σ H → H p = none → g (.ref p) σ (upd H p (.tup [.int i, x])) fun σ2 H2 => tb { D with nx := Pv (i + 1), ct := Pv (i + 1), bk := D.nx } σ2 H2)
    (hd : ∀ σ H, Pv xs.length σ H → D.nx σ H) : ForW (Ite a) g tb D σ H := by
  refine ⟨fun i m σ H => m = xs.length - i ∧ i ≤ xs.length ∧ Pv i σ H, ⟨_, by rfl, Nat.zero_le _, h0⟩, fun i m σ1 H1 ⟨hm, hi, hp⟩ => ?_⟩
  have k1 := hl i σ1 H1 hp
  by_cases h : i < xs.length
  · refine .inr ⟨⟨xs, _, k1, List.getElem?_eq_getElem h⟩, Pv (i + 1), fun σ' H' q => ⟨_, ?_, rfl, by omega, q⟩, fun v H' ⟨p, x, e1, e2, e3, e4⟩ => ?_⟩
    · omega
    · subst e1
      subst e3
      exact hs i x σ1 H1 p (e4 xs k1) hp e2
  · have e : i = xs.length := by omega
    subst e
    exact .inl ⟨⟨xs, k1, Nat.le_refl _⟩, hd σ1 H1 hp⟩
theorem lc_enum {a : Addr} {xs : List V} {ns : List Str} {js : List Nat} {g : TG} {te : TE} {σ : St} {H : Hp} {Q : VK} (Pv : Nat → List V → St → Hp → Prop) (h0 : Pv 0 [] (lcSt ns js σ) H) (hz : xs.length ≤ sizeLine) (hl : ∀ i ys σ H, Pv i ys σ H → ys.length ≤ i)
    (hK : ∀ i ys σ H, Pv i ys σ H → H a = some (.lst xs))
    (hs : ∀ (i : Nat) x ys σ H p (C : V → St → Hp → Prop), xs[i]? = some x → Pv i ys σ H → H p = none → (∀ y σ2 H3, Pv (i + 1) (ys ++ [y]) σ2 H3 → C y σ2 H3) → g (.ref p) σ (upd H p (.tup [.int i, x])) fun σ2 H2 => te σ2 H2 fun y H3 => C y σ2 H3)
    (hd : ∀ ys σ H, Pv xs.length ys σ H → ∀ p, H p = none → Q (.ref p) (upd H p (.lst ys))) :
    LcW (Ite a) ns js g none te σ H Q :=
  lc_by (n := xs.length) Pv h0 hz hl (fun i ys σ H hi w => ⟨xs, xs[i], hK i ys σ H w, List.getElem?_eq_getElem hi⟩) (fun ys σ H w => ⟨xs, hK _ ys σ H w, Nat.le_refl _⟩)
    (fun i ys σ H x H' C hi w ⟨p, y, e1, e2, e3, e4⟩ hC => by subst e1; subst e3; exact hs i y ys σ H p C (e4 xs (hK i ys σ H w)) w e2 hC) hd
def Itd (hi : Int) (n : Nat) : It := ⟨fun i _ => i < n, fun i H x H' => H' = H ∧ x = .int (hi - i), fun i _ => n ≤ i⟩
theorem turn_down {P : Program} {w : World} {K : PySem.W.Frag} {tg : Expr} (it : Addr) (hi : Int) (n : Nat) : Turn P w K tg (Itd hi n) [it] it (fun i h => IsRangeIter h it (hi + (i : Nat) * (-1)) ((n : Int) - (i : Nat)) (-1)) where
  mem := by simp
  obj := fun i h st b hb => by
    have e : b = it := by simpa using hb
    subst e
    exact ⟨_, st, fun v z => by
      have z' : Data.fields _ = Data.cell v := z
      cases z'⟩
  keep := fun i h h' st k => k it (by simp) _ st
  item := by
    intro X hP hw hK hc i pins s σ H E I hf st hg
    subst hP hw hK
    obtain ⟨f0, f1, f2, f3, f4, f5⟩ := hf it (by simp)
    have W := Walks.range (prog := X.prog) (w := X.w) (I.ok.hd hc) it hi (-1) n
    refine W.item i s _ _ hg st fun v h' tk hv st' kk => ?_
    obtain ⟨t, rfl⟩ := hv
    have I1 : Inv X pins σ H { s with heap := h', toks := tk } := I.turned (fun b o hb e => kk b o (by simpa using hb) e) f0 f1 f3 f4 f5
    refine ⟨_, rfl, go_of (s := { s with heap := h', toks := tk }) (n := "range_iterator") st' rfl rfl (by decide) ⟨.int (hi - i), H, I1, ⟨t, ?_⟩, ⟨rfl, rfl⟩, st', fun b hb => (hf b hb).1⟩⟩
    have e : hi - (i : Int) = hi + (i : Int) * (-1) := by omega
    rw [e]
  done := by
    intro X hP hw hK hc i pins s σ H E I hf st hg
    subst hP hw hK
    obtain ⟨f0, f1, f2, f3, f4, f5⟩ := hf it (by simp)
    exact wpAny_pyNext_range_end (I.ok.hd hc) st (by have : n ≤ i := hg; omega) fun h' eb => ⟨rfl, I.turned (t' := s.toks) (fun b o hb e => eb b o hb e) f0 f1 f3 f4 f5⟩
  self := fun _ _ _ _ _ st h => wpAny_pyIter_rangeiter st h
theorem size_down (a : Int) (h : 0 ≤ a) : Builtin.Range.rangeSize a (-1) (-1) = a + 1 := by
  unfold Builtin.Range.rangeSize
  rw [if_neg (by decide), if_pos (by omega)]
  simp
theorem small_down {a : Int} (h : 0 ≤ a) (h2 : a < 2 ^ 62) : Builtin.Range.small a (-1) (-1) = true := by
  unfold Builtin.Range.small
  rw [size_down a h]
  simp only [Builtin.Range.rangeFitsLong, Bool.and_eq_true, Bool.or_eq_true, decide_eq_true_eq, beq_iff_eq, show ¬ ((-1 : Int) > 0) by decide, if_false]
  omega
section
variable {X : Cx} {tg : Expr}
def iDown (ta : TA) : TI := fun σ H R => ta σ H fun vs H1 => ∃ a : Nat, vs = [.int a, .int (-1), .int (-1)] ∧ a < 100000 ∧ R (Itd a (a + 1)) H1
theorem pi_down {a b c : Expr} {ta : TA} {p pos : Pos} (hg : Gl X "range") (hm : X.mg "range" = none) (ha : PA X [a, b, c] ta) (hs : starEach [a, b, c] X.env = [(false, eval a X.env), (false, eval b X.env), (false, eval c X.env)] := by rfl) (hs2 : starEach [b, c] X.env = [(false, eval b X.env), (false, eval c X.env)] := by rfl) :
    PI X tg (.Call (.Name "range" p) [a, b, c] [] pos) (iDown ta) := by
  intro pins s σ H R I h
  refine Call_ (ld_blt I hg hm boot_range (PyProof.Rows.callWith_type1 (thn (ha pos pins s σ H _ I h) fun us s1 ⟨vs, H1, I1, r1, q1⟩ => ?_) (by rw [hs, hs2]) (by rw [hs2]; rfl)))
  obtain ⟨n, e, hn, q⟩ := q1
  subst e
  cases r1 with
  | cons r rr =>
    cases rr with
    | cons r' rr =>
      cases rr with
      | cons r'' rr =>
        cases rr
        obtain ⟨t, rfl⟩ := r
        obtain ⟨t', rfl⟩ := r'
        obtain ⟨t'', rfl⟩ := r''
        refine call_range_3 (by decide) ?_ (Or.inl (PyProof.noPylong_small (by decide)))
        refine wpAny_pyIter_range (IsRange.new ..) (small_down (by omega) (by omega)) ?_
        have I2 : Inv X pins σ H1 { s1 with heap := s1.heap.push { cls := .type "range", data := .fields #[.int n t, .int (-1) t', .int (-1) t''] }, toks := s1.toks } := I1.kept fun b o e => Heap.get?_push_of_some _ e
        refine ⟨(s1.heap.push { cls := .type "range", data := .fields #[.int n t, .int (-1) t', .int (-1) t''] }).objs.size, [(s1.heap.push { cls := .type "range", data := .fields #[.int n t, .int (-1) t', .int (-1) t''] }).objs.size], _, _, H1, rfl,
          I2.kept (t' := s1.toks) fun b o e => Heap.get?_push_of_some _ e, turn_down _ n (n + 1), ?_, fun b hb => ?_, q⟩
        · have e1 : (n : Int) + ((0 : Nat) : Int) * (-1) = n := by simp
          have e2 : (((n + 1 : Nat) : Nat) : Int) - ((0 : Nat) : Int) = Builtin.Range.rangeSize n (-1) (-1) := by rw [size_down n (by omega)]; omega
          show IsRangeIter _ _ ((n : Int) + ((0 : Nat) : Int) * (-1)) ((((n + 1 : Nat) : Nat) : Int) - ((0 : Nat) : Int)) (-1)
          rw [e1, e2]
          exact Heap.get?_push_size _ rfl
        · have e : b = (s1.heap.push { cls := .type "range", data := .fields #[.int n t, .int (-1) t', .int (-1) t''] }).objs.size := by simpa using hb
          subst e
          exact I2.fpOk (Nat.le_refl _) (I2.hok.fresh (Nat.le_refl _))
end
theorem fw_down {hi : Int} {n : Nat} {g : TG} {tb : TS} {D : Ends} {σ : St} {H : Hp} (Pv : Nat → St → Hp → Prop) (h0 : Pv 0 σ H)
    (hs : ∀ i σ H, i < n → Pv i σ H → g (.int (hi - i)) σ H fun σ2 H2 => tb { D with nx := Pv (i + 1), ct := Pv (i + 1), bk := D.nx } σ2 H2) (hd : ∀ σ H, Pv n σ H → D.nx σ H) : ForW (Itd hi n) g tb D σ H := by
  refine ⟨fun i m σ H => m = n - i ∧ i ≤ n ∧ Pv i σ H, ⟨_, by rfl, Nat.zero_le _, h0⟩, fun i m σ1 H1 ⟨hm, hi', hp⟩ => ?_⟩
  by_cases h : i < n
  · refine .inr ⟨h, Pv (i + 1), fun σ' H' q => ⟨_, ?_, rfl, by omega, q⟩, fun v H' ⟨e1, e2⟩ => ?_⟩
    · omega
    · subst e1
      subst e2
      exact hs i σ1 _ h hp
  · have e : i = n := by omega
    subst e
    exact .inl ⟨Nat.le_refl _, hd σ1 H1 hp⟩
theorem pg_tupK {X : Cx} {K : PySem.W.Frag} {es : List Expr} {k : Nat} {t : TGs} {n : Nat} {pos : Pos} (hc : X.calm = true) (h : PGs X es t) (hK : X.K = K := by rfl)
    (hn : (assignEach es X.env).length = n := by rfl) (hst : (assignEach es X.env).findIdx? (·.1) = none := by rfl) : PG X (.Tuple es k pos) (gTup K n t) := by
  subst hK
  exact pg_tup hc h hn hst
theorem pe_bmK {X : Cx} (K : PySem.W.Frag) {o e : Expr} {es : List Expr} {to : TE} {t : TA} {name : Str} {apos cpos : Pos} {T id : String} {r : V → List V → Hp → VK → Prop} (pa : PlainAttrs T) (slot : Slot T name id) (hty : typeOf (.builtin id) = pure (.type "method_descriptor")) (hm : MtR X id r) (ho : PE X o to) (ha : PA X (e :: es) t)
    (hK : X.K = K := by rfl) (hbase : attributeBase o name X.env (eval o X.env) = eval o X.env := by rfl)
    (hfew : ((backTo cpos (starEach (e :: es) X.env)).all (fun x => !x.1) && (backToKw cpos (keywordEach [] X.env)).all (fun x => x.1.isSome)
      && decide ((e :: es).length + ([] : List Keyword).length + (if ([] : List Keyword).isEmpty then 0 else 1) < 30)) = true := by rfl)
    (hline : (apos.endLine == cpos.line) = true := by rfl) (hs : starEach (e :: es) X.env = (false, eval e X.env) :: starEach es X.env := by rfl) (hplain : (backTo cpos (starEach es X.env)).any (·.1) = false := by rfl) :
    PE X (.Call (.Attribute o name apos) (e :: es) [] cpos) (tBM K T r to t) := by
  subst hK
  exact pe_bm pa slot hty hm ho ha hbase hfew hline hs hplain
end L2
set_option Elab.async false
set_option linter.all false
set_option maxRecDepth 100000
set_option maxHeartbeats 8000000
namespace C
open PySem L2
seal PE PT PW PA PS PSs PG PGs PI PPs PO PSet PIf
def top (i : Nat) : Stmt := PySem.Challenge.pw_clashbook_k19_papers.main.body.getD i (.Pass ⟨0, 0, 0, 0⟩)
abbrev RwAts (H : Hp) (rows : List Rw) (us : List V) : Prop := DAts H (rows.map dRw) us
abbrev LnAts (H : Hp) (ls : List Ln) (us : List V) : Prop := DAts H (ls.map dLn) us
abbrev WtAts (H : Hp) (as : List Wt) (us : List V) : Prop := DAts H (as.map dWt) us
theorem mapGetV {α : Type} {H : Hp} {f : α → Dt} {xs : List α} {us : List V} {i : Nat} {v : V} (h : DAts H (xs.map f) us) (hv : us[i]? = some v) : ∃ x, xs[i]? = some x ∧ DAt H (f x) v := by
  have hl := DAts.length h
  rw [List.length_map] at hl
  have hi : i < xs.length := by rw [← hl]; exact (List.getElem?_eq_some_iff.mp hv).1
  obtain ⟨u, h1, h2⟩ := DAts.get (d := f xs[i]) h (by rw [List.getElem?_map, List.getElem?_eq_getElem hi]; rfl)
  rw [hv] at h1
  cases h1
  exact ⟨_, List.getElem?_eq_getElem hi, h2⟩
theorem mapLen {α : Type} {H : Hp} {f : α → Dt} {xs : List α} {us : List V} (h : DAts H (xs.map f) us) : us.length = xs.length := by
  have hl := DAts.length h
  rwa [List.length_map] at hl
theorem mapSnoc {α : Type} {H : Hp} {f : α → Dt} {xs : List α} {us : List V} {i : Nat} {x : α} {v : V} (hx : xs[i]? = some x) (h : DAts H ((xs.take i).map f) us) (h1 : DAt H (f x) v) : DAts H ((xs.take (i + 1)).map f) (us ++ [v]) := by
  obtain ⟨hi, e⟩ := List.getElem?_eq_some_iff.mp hx
  rw [List.take_succ_eq_append_getElem hi, e, List.map_append]
  exact DAts.append h (DAts.one h1)
theorem LnAt.out {H : Hp} {l : Ln} {v : V} (h : DAt H (dLn l) v) : ∃ a b us, v = .ref a ∧ H a = some (.tup [.int l.i, .int l.j, .ref b]) ∧ H b = some (.tup (.str l.w :: us)) ∧ WtAts H l.as us := by
  obtain ⟨a, vs, e1, e2, u1, r1, q1, h1, u2, r2, q2, h2, u3, r3, q3, ⟨b, ws, g1, g2, x, y, g3, g4, g5⟩, h4⟩ := h
  have h1 : u1 = .int l.i := h1
  have h2 : u2 = .int l.j := h2
  have h4 : r3 = [] := h4
  have g4 : x = .str l.w := g4
  subst h4 q3 q2 q1 h1 h2 g1 g3 g4
  exact ⟨a, b, y, e1, e2, g2, g5⟩
theorem at_toNat {α : Type} {xs : List α} {n : Int} {x : α} (h0 : 0 ≤ n) (h : xs[n.toNat]? = some x) : atI xs n = some x := by
  obtain ⟨m, rfl⟩ : ∃ m : Nat, n = (m : Int) := ⟨n.toNat, by omega⟩
  exact atI_nat (by simpa using h)
theorem RwAt.out {H : Hp} {r : Rw} {v : V} (h : DAt H (dRw r) v) : ∃ a x us, v = .ref a ∧ H a = some (.tup (.str x :: us)) ∧ (match r with | .no => x = "none" ∧ us = [] | .nm y => x = "name" ∧ us = [.str y] | .bo i j => x = "both" ∧ us = [.int i, .int j]) := by
  cases r with
  | no =>
    obtain ⟨a, vs, e1, e2, u1, r1, q1, h1, h2⟩ := h
    have h1 : u1 = .str "none" := h1
    have h2 : r1 = [] := h2
    subst h2 q1 h1
    exact ⟨a, _, _, e1, e2, rfl, rfl⟩
  | nm y =>
    obtain ⟨a, vs, e1, e2, u1, r1, q1, h1, u2, r2, q2, h2, h3⟩ := h
    have h1 : u1 = .str "name" := h1
    have h2 : u2 = .str y := h2
    have h3 : r2 = [] := h3
    subst h3 q2 q1 h1 h2
    exact ⟨a, _, _, e1, e2, rfl, rfl⟩
  | bo i j =>
    obtain ⟨a, vs, e1, e2, u1, r1, q1, h1, u2, r2, q2, h2, u3, r3, q3, h3, h4⟩ := h
    have h1 : u1 = .str "both" := h1
    have h2 : u2 = .int i := h2
    have h3 : u3 = .int j := h3
    have h4 : r3 = [] := h4
    subst h4 q3 q2 q1 h1 h2 h3
    exact ⟨a, _, _, e1, e2, rfl, rfl⟩
section
variable {P : Program} {w : World} {K : PySem.W.Frag} {mg : Str → Option Value} {base : Heap} {f : Addr} {fd : FuncData}
end
end C
set_option Elab.async false
set_option linter.all false
set_option maxRecDepth 100000
set_option maxHeartbeats 8000000
namespace C
open PySem L2
seal PE PT PW PA PS PSs PG PGs PI PPs PO PSet PIf
theorem deq_pr (p q : Pr) : deq (dPr p) (dPr q) = (p == q) := by
  obtain ⟨a, b⟩ := p
  obtain ⟨c, d⟩ := q
  simp only [dPr, deq, deqs, Bool.and_true]
  rfl
theorem fit_pr (n : Nat) (p : Pr) : DFit (n + 1) (dPr p) := ⟨by simp, fun d hd => by
  simp only [List.mem_cons, List.not_mem_nil, or_false] at hd
  rcases hd with rfl | rfl <;> (cases n <;> trivial)⟩
theorem prAt {H : Hp} {p : Pr} {v : V} (h : DAt H (dPr p) v) : ∃ a, v = .ref a ∧ H a = some (.tup [.int p.1, .int p.2]) := by
  obtain ⟨a, vs, e1, e2, u1, r1, q1, h1, u2, r2, q2, h2, h3⟩ := h
  have h1 : u1 = .int p.1 := h1
  have h2 : u2 = .int p.2 := h2
  have h3 : r2 = [] := h3
  subst h3 q2 q1 h1 h2
  exact ⟨a, e1, e2⟩
section
variable {P : Program} {w : World} {K : PySem.W.Frag} {mg : Str → Option Value} {base : Heap} {f : Addr} {fd : FuncData}
end
end C
set_option Elab.async false
set_option linter.all false
set_option maxRecDepth 100000
set_option maxHeartbeats 8000000
namespace C
open PySem L2
seal PE PT PW PA PS PSs PG PGs PI PPs PO PSet PIf
theorem nrAt {H : Hp} {r : NRul} {v : V} (h : DAt H (dNR r) v) : ∃ a l b us, v = .ref a ∧ H a = some (.tup [.ref l, .ref b]) ∧ H l = some (.lst us) ∧ DAts H (r.1.map dPr) us ∧ H b = some (.tup [.int r.2.1, .int r.2.2]) := by
  obtain ⟨a, vs, e1, e2, u1, r1, q1, ⟨l, us, g1, g2, g3⟩, u2, r2, q2, h2, h3⟩ := h
  obtain ⟨b, g4, g5⟩ := prAt h2
  have h3 : r2 = [] := h3
  subst h3 q2 q1 g1 g4
  exact ⟨a, l, b, us, e1, e2, g2, g3, g5⟩
section
variable {P : Program} {w : World} {K : PySem.W.Frag} {mg : Str → Option Value} {base : Heap} {f : Addr} {fd : FuncData}
end
end C
set_option Elab.async false
set_option linter.all false
set_option maxRecDepth 100000
set_option maxHeartbeats 8000000
namespace C
open PySem L2
seal PE PT PW PA PS PSs PG PGs PI PPs PO PSet PIf
abbrev s_law_turned : Stmt := top 9
theorem sc_law_turned : FnScope ["n"] ["n"] (defScope s_law_turned) := ⟨rfl, rfl, rfl, by decide +kernel, rfl, by decide +kernel, by decide +kernel⟩
def spTurned : Sp := fun vs H Q _ => ∃ n : Int, vs = [.int n] ∧ Q (.int (tn1 n)) H
section
variable {P : Program} {w : World} {K : PySem.W.Frag} {mg : Str → Option Value} {base : Heap} {f : Addr} {fd : FuncData}
theorem ok_turned (bi : Bi mg) (F : Fun K "_law_turned" "_law_turned" s_law_turned f fd) : FnOk P w K mg base CX0 1 f fd ["n"] spTurned := by
  refine F.ok sc_law_turned (fun vs H Q E h => ?_) (fun cdv A outer s H vs Q E hr h => ?_)
  · obtain ⟨n, rfl, _⟩ := h
    rfl
  obtain ⟨n, rfl, q⟩ := h
  refine ⟨_, (pss_one (ps_ret (pe_op op_sub (pe_op op_add (pv 0) pe_int) (pe_op op_mul pe_int (pe_op op_mod (pv 0) pe_int))))), ?_⟩
  simp only [tSeq, tFor_eq, tLC_eq, iRng1, iRng2, iList, iTup, iStr, tIfS, tRet, tRetN, tNext, tAsg, gName, tVar, tC, tOp, rI0, rI, tTest, tB, rEq, rNe, tCall, tCons, tNil, tCB, tLst, tTup, tAnd, tOr, tNot, tAndV, tOrV, tNotV, tIf, tDrop, tSl, tPart, tNoPart, tChain, tUn, rU, L2.start, cx_K, bk_K, cx_calm, bk_calm, lenV_str, and_assoc, Option.join, List.length_map, List.length_append, decide_eq_true_eq, Bool.false_eq_true, if_false, if_true, Bool.not_true, Bool.not_false, Bool.not_eq_true', decide_eq_false_iff_not, Bool.true_eq_false, List.length_cons, List.length_nil, List.map_cons, List.map_nil, List.replicate, List.cons_append, List.nil_append, List.append_nil, List.getElem?_cons_zero, List.getElem?_cons_succ, List.set_cons_zero, List.set_cons_succ, Nat.reduceSub, Nat.reduceAdd, Option.some.injEq, V.int.injEq, V.str.injEq, V.bl.injEq, V.ref.injEq, List.cons.injEq, and_true, true_and, exists_eq_left', exists_eq_left, exists_and_left, exists_eq_right, exists_const, tBM, tBM0, rAppend, rPop, rIxL, rIxT, rIxS, rSlL, rSlT, rSlS, rCat, rCatT, tKGet, cx_w, bk_w, tDGet, tDisp, tPairs, tDNewK, cx_P]
  exact ⟨by decide, .inl ⟨by decide, by decide⟩, q⟩
end
end C
set_option Elab.async false
set_option linter.all false
set_option maxRecDepth 100000
set_option maxHeartbeats 8000000
namespace C
open PySem L2
seal PE PT PW PA PS PSs PG PGs PI PPs PO PSet PIf
end C
set_option Elab.async false
set_option linter.all false
set_option maxRecDepth 100000
set_option maxHeartbeats 8000000
namespace C
open PySem L2
seal PE PT PW PA PS PSs PG PGs PI PPs PO PSet PIf
section
variable {P : Program} {w : World} {K : PySem.W.Frag} {mg : Str → Option Value} {base : Heap} {f : Addr} {fd : FuncData}
end
end C
set_option Elab.async false
set_option linter.all false
set_option maxRecDepth 100000
set_option maxHeartbeats 8000000
namespace C
open PySem L2
seal PE PT PW PA PS PSs PG PGs PI PPs PO PSet PIf
abbrev s_law_cell_at : Stmt := top 7
theorem sc_law_cell_at : FnScope ["script", "k"] ["script", "k"] (defScope s_law_cell_at) := ⟨rfl, rfl, rfl, by decide +kernel, rfl, by decide +kernel, by decide +kernel⟩
abbrev s_law_name_by : Stmt := top 8
theorem sc_law_name_by : FnScope ["cell", "size", "letters", "made", "rest", "k"] ["cell", "size"] (defScope s_law_name_by) := ⟨rfl, rfl, rfl, by decide +kernel, rfl, by decide +kernel, by decide +kernel⟩
abbrev s_law_sheet_and_rules : Stmt := top 10
theorem sc_law_sheet_and_rules : FnScope ["script", "most", "many", "rows", "rules", "raw", "cell", "top", "one", "other", "row"] ["script", "most", "many"] (defScope s_law_sheet_and_rules) := ⟨rfl, rfl, rfl, by decide +kernel, rfl, by decide +kernel, by decide +kernel⟩
def spCell (K : PySem.W.Frag) : Sp := fun vs H Q _ => ∃ (a : Addr) (ns : List Int) (k : Nat), vs = [.ref a, .int k] ∧ SqL K H a (ns.map V.int) ∧ Q (.int (ns.getD k 0)) H
def spName : Sp := fun vs H Q _ => ∃ c n : Int, vs = [.int c, .int n] ∧ ∀ x : Str, Nm x → Q (.str x) H
theorem p1018 : (0 : Int) < 10 ^ Int.toNat 18 := by show (0 : Int) < 10 ^ 18; simp
structure RC where
  o : Addr
  l : Addr
  t : Addr
  ps : List Pr
  q : Pr
def RcOk (H : Hp) (c : RC) : Prop := H c.o = some (.lst [.ref c.l, .ref c.t]) ∧ (∃ us, H c.l = some (.lst us) ∧ DAts H (c.ps.map dPr) us) ∧ H c.t = some (.tup [.int c.q.1, .int c.q.2])
theorem RcOk.same {H H' : Hp} {c : RC} (e : Same H H') (h : RcOk H c) : RcOk H' c := by
  obtain ⟨h1, ⟨us, h2, h3⟩, h4⟩ := h
  exact ⟨e _ _ h1, ⟨us, e _ _ h2, DAts.same e h3⟩, e _ _ h4⟩
theorem prs_tups {H H' : Hp} (e : TupSame H H') : ∀ {ps : List Pr} {us : List V}, DAts H (ps.map dPr) us → DAts H' (ps.map dPr) us
  | [], us, h => h
  | p :: ps, us, h => by
    obtain ⟨v, r, e1, e2, e3⟩ := h
    obtain ⟨a, g1, g2⟩ := prAt e2
    exact ⟨v, r, e1, ⟨a, _, g1, e _ _ g2, _, _, rfl, rfl, _, _, rfl, rfl, rfl⟩, prs_tups e e3⟩
theorem rws_tups {H H' : Hp} (e : TupSame H H') : ∀ {rs : List Rw} {us : List V}, RwAts H rs us → RwAts H' rs us
  | [], us, h => h
  | r :: rs, us, h => by
    obtain ⟨v, q, e1, e2, e3⟩ := h
    refine ⟨v, q, e1, ?_, rws_tups e e3⟩
    obtain ⟨a, x, vs, g1, g2, g3⟩ := RwAt.out e2
    cases r with
    | no => obtain ⟨rfl, rfl⟩ := g3; exact ⟨a, _, g1, e _ _ g2, _, _, rfl, rfl, rfl⟩
    | nm y => obtain ⟨rfl, rfl⟩ := g3; exact ⟨a, _, g1, e _ _ g2, _, _, rfl, rfl, _, _, rfl, rfl, rfl⟩
    | bo i j => obtain ⟨rfl, rfl⟩ := g3; exact ⟨a, _, g1, e _ _ g2, _, _, rfl, rfl, _, _, rfl, rfl, _, _, rfl, rfl, rfl⟩
theorem RcOk.put {H : Hp} {c : RC} {a : Addr} {zs xs : List V} (h : RcOk H c) (ha : H a = some (.lst xs)) (n1 : c.o ≠ a) (n2 : c.l ≠ a) : RcOk (upd H a (.lst zs)) c := by
  have tu : TupSame H (upd H a (.lst zs)) := (TupSame.refl _).upd_lst ha
  obtain ⟨h1, ⟨us, h2, h3⟩, h4⟩ := h
  exact ⟨by rw [upd_ne n1]; exact h1, ⟨us, by rw [upd_ne n2]; exact h2, prs_tups tu h3⟩, tu _ _ h4⟩
structure SRI (H : Hp) (pc : Addr) (zs : List V) (i : Nat) (H' : Hp) (ra rb : Addr) (us : List V) (rows : List Rw) (rs : List RC) : Prop where
  same : Same H H'
  na : H ra = none
  nb : H rb = none
  ne : ra ≠ rb
  pk : H' pc = some (.lst zs)
  pn : pc ≠ ra ∧ pc ≠ rb ∧ ∀ c ∈ rs, pc ≠ c.o ∧ pc ≠ c.l
  rw : H' ra = some (.lst us)
  rws : RwAts H' rows us
  r1 : 1 ≤ rows.length
  r2 : rows.length ≤ i + 1
  ru : H' rb = some (.lst (rs.map fun c => V.ref c.o))
  ok : ∀ c ∈ rs, RcOk H' c
  fr : ∀ c ∈ rs, H c.o = none ∧ H c.l = none ∧ c.o ≠ ra ∧ c.o ≠ rb ∧ c.l ≠ ra ∧ c.l ≠ rb
  nd : (rs.map RC.l).Nodup
  ol : ∀ c ∈ rs, ∀ c' ∈ rs, c.o ≠ c'.l
  s1 : rs.length ≤ i
  s2 : ∀ c ∈ rs, c.ps.length ≤ i
theorem fit_rw (n : Nat) (r : Rw) : DFit (n + 1) (dRw r) := by
  cases r with
  | no => exact ⟨by simp, fun d hd => by simp at hd; subst hd; cases n <;> trivial⟩
  | nm x => exact ⟨by simp, fun d hd => by simp at hd; rcases hd with rfl | rfl <;> (cases n <;> trivial)⟩
  | bo i j => exact ⟨by simp, fun d hd => by simp at hd; rcases hd with rfl | rfl | rfl <;> (cases n <;> trivial)⟩
theorem SRI.go {H : Hp} {pc : Addr} {zs : List V} {i : Nat} {H' H'' : Hp} {ra rb : Addr} {us : List V} {rows : List Rw} {rs : List RC} (S : SRI H pc zs i H' ra rb us rows rs) (e : Same H' H'') : SRI H pc zs i H'' ra rb us rows rs :=
  { S with same := S.same.trans e, pk := e _ _ S.pk, rw := e _ _ S.rw, rws := DAts.same e S.rws, ru := e _ _ S.ru, ok := fun c hc => (S.ok c hc).same e }
theorem SRI.up {H : Hp} {pc : Addr} {zs : List V} {i : Nat} {H' : Hp} {ra rb : Addr} {us : List V} {rows : List Rw} {rs : List RC} (S : SRI H pc zs i H' ra rb us rows rs) : SRI H pc zs (i + 1) H' ra rb us rows rs :=
  { S with r2 := Nat.le_succ_of_le S.r2, s1 := Nat.le_succ_of_le S.s1, s2 := fun c hc => Nat.le_succ_of_le (S.s2 c hc) }
theorem SRI.rowPut {H : Hp} {pc : Addr} {zs : List V} {i : Nat} {H' : Hp} {ra rb : Addr} {us : List V} {rows : List Rw} {rs : List RC} {r : Rw} {rv : V} (S : SRI H pc zs i H' ra rb us rows rs) (hr : DAt H' (dRw r) rv) :
    SRI H pc zs (i + 1) (upd H' ra (.lst (us ++ [rv]))) ra rb (us ++ [rv]) (rows ++ [r]) rs := by
  have tu : TupSame H' (upd H' ra (.lst (us ++ [rv]))) := (TupSame.refl _).upd_lst S.rw
  refine { S with same := S.same.upd S.na, pk := by rw [upd_ne S.pn.1]; exact S.pk, rw := upd_same, rws := ?_, r1 := by simp, r2 := by have := S.r2; simp; omega, ru := by rw [upd_ne (Ne.symm S.ne)]; exact S.ru, ok := fun c hc => (S.ok c hc).put S.rw (S.fr c hc).2.2.1 (S.fr c hc).2.2.2.2.1, s1 := Nat.le_succ_of_le S.s1, s2 := fun c hc => Nat.le_succ_of_le (S.s2 c hc) }
  unfold RwAts
  rw [List.map_append]
  exact DAts.append (rws_tups tu S.rws) (rws_tups tu (DAts.one hr : RwAts H' [r] [rv]))
theorem SRI.rulePut {H : Hp} {pc : Addr} {zs : List V} {i : Nat} {H' H'' : Hp} {ra rb : Addr} {us : List V} {rows : List Rw} {rs : List RC} {o l t : Addr} {q : Pr} (S : SRI H pc zs i H' ra rb us rows rs) (e : Same H' H'') (no : H' o = none) (nl : H' l = none) (ne : o ≠ l) (ho : H'' o = some (.lst [.ref l, .ref t])) (hl : H'' l = some (.lst [])) (ht : H'' t = some (.tup [.int q.1, .int q.2])) :
    SRI H pc zs (i + 1) (upd H'' rb (.lst ((rs.map fun c => V.ref c.o) ++ [.ref o]))) ra rb us rows (rs ++ [⟨o, l, t, [], q⟩]) := by
  have S2 := S.go e
  have tu : TupSame H'' (upd H'' rb (.lst ((rs.map fun c => V.ref c.o) ++ [.ref o]))) := (TupSame.refl _).upd_lst S2.ru
  have obr : o ≠ rb := fun z => by rw [z, S.ru] at no; cases no
  have lbr : l ≠ rb := fun z => by rw [z, S.ru] at nl; cases nl
  have new : RcOk (upd H'' rb (.lst ((rs.map fun c => V.ref c.o) ++ [.ref o]))) ⟨o, l, t, [], q⟩ := RcOk.put ⟨ho, ⟨[], hl, rfl⟩, ht⟩ S2.ru obr lbr
  have fo : ∀ {c : RC}, c ∈ rs → c.o ≠ o ∧ c.l ≠ l ∧ c.o ≠ l ∧ c.l ≠ o := fun {c} hc => by
    obtain ⟨h1, ⟨uu, h2, _⟩, _⟩ := S.ok c hc
    refine ⟨fun z => ?_, fun z => ?_, fun z => ?_, fun z => ?_⟩
    · rw [z, no] at h1; cases h1
    · rw [z, nl] at h2; cases h2
    · rw [z, nl] at h1; cases h1
    · rw [z, no] at h2; cases h2
  exact { S2 with
    same := S2.same.upd S.nb
    pk := by rw [upd_ne S.pn.2.1]; exact S2.pk
    pn := ⟨S.pn.1, S.pn.2.1, fun c hc => by
      rcases List.mem_append.mp hc with hc | hc
      · exact S.pn.2.2 c hc
      · rw [List.mem_singleton.mp hc]
        exact ⟨fun z => (by have z : pc = o := z; rw [← z, S.pk] at no; cases no), fun z => (by have z : pc = l := z; rw [← z, S.pk] at nl; cases nl)⟩⟩
    rw := by rw [upd_ne S.ne]; exact S2.rw
    rws := rws_tups tu S2.rws
    r2 := Nat.le_succ_of_le S.r2
    ru := by rw [upd_same, List.map_append]; rfl
    ok := fun c hc => by
      rcases List.mem_append.mp hc with hc | hc
      · exact (S2.ok c hc).put S2.ru (S.fr c hc).2.2.2.1 (S.fr c hc).2.2.2.2.2
      · rw [List.mem_singleton.mp hc]; exact new
    fr := fun c hc => by
      rcases List.mem_append.mp hc with hc | hc
      · exact S.fr c hc
      · rw [List.mem_singleton.mp hc]
        exact ⟨S.same.free no, S.same.free nl, fun z => (by have z : o = ra := z; rw [z, S.rw] at no; cases no), obr, fun z => (by have z : l = ra := z; rw [z, S.rw] at nl; cases nl), lbr⟩
    nd := by
      rw [List.map_append]
      refine List.nodup_append.mpr ⟨S.nd, by simp, fun a ha b hb => ?_⟩
      obtain ⟨c, hc, rfl⟩ := List.mem_map.mp ha
      simp at hb
      rw [hb]
      exact (fo hc).2.1
    ol := fun c hc c' hc' => by
      rcases List.mem_append.mp hc with hc | hc <;> rcases List.mem_append.mp hc' with hc' | hc'
      · exact S.ol c hc c' hc'
      · rw [List.mem_singleton.mp hc']; exact (fo hc).2.2.1
      · rw [List.mem_singleton.mp hc]; exact (fo hc').2.2.2.symm
      · rw [List.mem_singleton.mp hc, List.mem_singleton.mp hc']; exact ne
    s1 := by have := S.s1; simp; omega
    s2 := fun c hc => by
      rcases List.mem_append.mp hc with hc | hc
      · exact Nat.le_succ_of_le (S.s2 c hc)
      · rw [List.mem_singleton.mp hc]; exact Nat.zero_le _ }
theorem SRI.premPut {H : Hp} {pc : Addr} {zs : List V} {i : Nat} {H' : Hp} {ra rb : Addr} {us : List V} {rows : List Rw} {rs : List RC} {c : RC} {uc : List V} {p : Addr} {q : Pr} (S : SRI H pc zs i H' ra rb us rows (rs ++ [c])) (hl : H' c.l = some (.lst uc)) (hp : H' p = some (.tup [.int q.1, .int q.2])) :
    SRI H pc zs (i + 1) (upd H' c.l (.lst (uc ++ [.ref p]))) ra rb us rows (rs ++ [{ c with ps := c.ps ++ [q] }]) := by
  have tu : TupSame H' (upd H' c.l (.lst (uc ++ [.ref p]))) := (TupSame.refl _).upd_lst hl
  have mc : c ∈ rs ++ [c] := by simp
  have fc := S.fr c mc
  have old : ∀ c' ∈ rs, c' ∈ rs ++ [c] := fun c' h => List.mem_append_left _ h
  have nd := S.nd
  rw [List.map_append] at nd
  have ndl : ∀ c' ∈ rs, c'.l ≠ c.l := fun c' h => (List.nodup_append.mp nd).2.2 _ (List.mem_map.mpr ⟨c', h, rfl⟩) _ (by simp)
  have case : ∀ {R : RC → Prop}, (∀ c' ∈ rs, R c') → R { c with ps := c.ps ++ [q] } → ∀ c' ∈ rs ++ [{ c with ps := c.ps ++ [q] }], R c' := fun a b c' h => by
    rcases List.mem_append.mp h with h | h
    · exact a c' h
    · rw [List.mem_singleton.mp h]; exact b
  exact { S with
    same := S.same.upd fc.2.1
    pk := by rw [upd_ne (S.pn.2.2 c mc).2]; exact S.pk
    pn := ⟨S.pn.1, S.pn.2.1, case (fun c' h => S.pn.2.2 c' (old c' h)) (S.pn.2.2 c mc)⟩
    rw := by rw [upd_ne (Ne.symm fc.2.2.2.2.1)]; exact S.rw
    rws := rws_tups tu S.rws
    r2 := Nat.le_succ_of_le S.r2
    ru := by rw [upd_ne (Ne.symm fc.2.2.2.2.2)]; have := S.ru; rw [List.map_append] at this ⊢; exact this
    ok := case (fun c' h => (S.ok c' (old c' h)).put hl (S.ol c' (old c' h) c mc) (ndl c' h)) (by
      obtain ⟨h1, ⟨uu, h2, h3⟩, h4⟩ := S.ok c mc
      rw [hl] at h2
      cases h2
      refine ⟨by rw [upd_ne (S.ol c mc c mc)]; exact h1, ⟨_, upd_same, ?_⟩, tu _ _ h4⟩
      rw [List.map_append]
      exact DAts.append (prs_tups tu h3) (DAts.one ⟨p, _, rfl, tu _ _ hp, _, _, rfl, rfl, _, _, rfl, rfl, rfl⟩))
    fr := case (fun c' h => S.fr c' (old c' h)) fc
    nd := by rw [List.map_append]; exact nd
    ol := case (fun c' h => case (fun c'' h2 => S.ol c' (old c' h) c'' (old c'' h2)) (S.ol c' (old c' h) c mc)) (case (fun c'' h2 => S.ol c mc c'' (old c'' h2)) (S.ol c mc c mc))
    s1 := by have := S.s1; simp at this ⊢; omega
    s2 := case (fun c' h => Nat.le_succ_of_le (S.s2 c' (old c' h))) (by have := S.s2 c mc; simp; omega) }
def spSR (K : PySem.W.Frag) : Sp := fun vs H Q _ => ∃ (sa : Addr) (ns : List Int) (m n : Int), vs = [.ref sa, .int m, .int n] ∧ SqL K H sa (ns.map V.int) ∧ ns.length ≤ 63 ∧
  ∀ (p ra rb : Addr) (us ws : List V) (rows : List Rw) (rules : List NRul) H', Same H H' → H' p = some (.tup [.ref ra, .ref rb]) → H' ra = some (.lst us) → RwAts H' rows us → H' rb = some (.lst ws) → DAts H' (rules.map dNR) ws → 1 ≤ rows.length → rows.length ≤ 100 → rules.length ≤ 100 → (∀ r ∈ rules, r.1.length ≤ 100) → Q (.ref p) H'
section
variable {P : Program} {w : World} {K : PySem.W.Frag} {mg : Str → Option Value} {base : Heap} {f : Addr} {fd : FuncData}
theorem ok_cell (bi : Bi mg) (F : Fun K "_law_cell_at" "_law_cell_at" s_law_cell_at f fd) : FnOk P w K mg base CX0 1 f fd ["script", "k"] (spCell K) := by
  refine F.ok sc_law_cell_at (fun vs H Q E h => ?_) (fun cdv A outer s H vs Q E hr h => ?_)
  · obtain ⟨a, ns, k, rfl, _⟩ := h
    rfl
  obtain ⟨a, ns, k, rfl, hS, q⟩ := h
  refine ⟨_, (pss_cons (ps_if (pt_cmpR op_lt (pv 1) (pe_callB call_len rfl bi.len bt_len (pa_cons (pv 0) pa_nil)) (nomark _)) (pss_one (ps_ret (pe_ix ix_list (pv 0) (pv 1) (fun _ _ => rfl)))) pss_nil) (pss_one (ps_ret pe_int))), ?_⟩
  simp only [tSeq, tFor_eq, tLC_eq, iRng1, iRng2, iList, iTup, iStr, tIfS, tRet, tRetN, tNext, tAsg, gName, tVar, tC, tOp, rI0, rI, tTest, tB, rEq, rNe, tCall, tCons, tNil, tCB, tLst, tTup, tAnd, tOr, tNot, tAndV, tOrV, tNotV, tIf, tDrop, tSl, tPart, tNoPart, tChain, tUn, rU, L2.start, cx_K, bk_K, cx_calm, bk_calm, lenV_str, and_assoc, Option.join, List.length_map, List.length_append, decide_eq_true_eq, Bool.false_eq_true, if_false, if_true, Bool.not_true, Bool.not_false, Bool.not_eq_true', decide_eq_false_iff_not, Bool.true_eq_false, List.length_cons, List.length_nil, List.map_cons, List.map_nil, List.replicate, List.cons_append, List.nil_append, List.append_nil, List.getElem?_cons_zero, List.getElem?_cons_succ, List.set_cons_zero, List.set_cons_succ, Nat.reduceSub, Nat.reduceAdd, Option.some.injEq, V.int.injEq, V.str.injEq, V.bl.injEq, V.ref.injEq, List.cons.injEq, and_true, true_and, exists_eq_left', exists_eq_left, exists_and_left, exists_eq_right, exists_const]
  refine ⟨_, .inl ⟨_, hS, rfl⟩, ?_⟩
  split
  · rename_i hk
    rw [List.length_map] at hk
    exact ⟨a, _, k, _, rfl, rfl, hS, ix_nat hk, q⟩
  · rename_i hk
    rw [List.length_map] at hk
    rw [List.getD_eq_getElem?_getD, List.getElem?_eq_none (by omega)] at q
    exact q
theorem letter_at (c : Int) : ∃ d : Nat, atI ("abcdefghijklmnopqrstuvwxyz" : Str).cps.toList (c % 26) = some d ∧ 97 ≤ d ∧ d ≤ 122 := by
  have h : ∀ k : Fin 26, ∃ d : Nat, ("abcdefghijklmnopqrstuvwxyz" : Str).cps.toList[k.val]? = some d ∧ 97 ≤ d ∧ d ≤ 122 := by decide +kernel
  have h1 : 0 ≤ c % 26 := Int.emod_nonneg _ (by omega)
  have h2 : c % 26 < 26 := Int.emod_lt_of_pos _ (by omega)
  have e : c % 26 = ((c % 26).toNat : Nat) := by omega
  obtain ⟨d, h3, h4⟩ := h ⟨(c % 26).toNat, by omega⟩
  refine ⟨d, ?_, h4⟩
  rw [e]
  exact atI_nat h3
theorem ok_name (bi : Bi mg) (F : Fun K "_law_name_by" "_law_name_by" s_law_name_by f fd) : FnOk P w K mg base CX0 1 f fd ["cell", "size"] spName := by
  refine F.ok sc_law_name_by (fun vs H Q E h => ?_) (fun cdv A outer s H vs Q E hr h => ?_)
  · obtain ⟨c, n, rfl, _⟩ := h
    rfl
  obtain ⟨c, n, rfl, q⟩ := h
  refine ⟨_, (pss_cons (ps_set (i := 2) sc_law_name_by.nd rfl (Or.inl rfl) pe_str) (pss_cons (ps_set (i := 3) sc_law_name_by.nd rfl (Or.inl rfl) pe_str) (pss_cons (ps_set (i := 4) sc_law_name_by.nd rfl (Or.inl rfl) (pe_op op_mod (pv 0) (pe_op op_pow pe_int pe_int))) (pss_cons (ps_for PassesOwn.never rfl (pi_range1 rfl bi.range (pa_cons (pe_op op_add pe_int (pe_op op_mod (pv 1) pe_int)) pa_nil)) (pg_name (i := 5) sc_law_name_by.nd rfl (Or.inl rfl)) (pss_cons (ps_set (i := 3) sc_law_name_by.nd rfl (Or.inl rfl) (pe_op op_add_str (pv 3) (pe_ix ix_str (pv 2) (pe_op op_mod (pv 4) pe_int) (fun _ _ => rfl)))) (pss_one (ps_set (i := 4) sc_law_name_by.nd rfl (Or.inl rfl) (pe_op op_fdiv (pv 4) pe_int))))) (pss_cons (ps_if (PW.pt (pw_or (pt_cmpR op_eq (pv 3) pe_str (nomark _)) (pw_or1 (pt_cmpR op_eq (pv 3) pe_str (nomark _))))) (pss_one (ps_set (i := 3) sc_law_name_by.nd rfl (Or.inl rfl) (pe_op op_add_str (pv 3) pe_str))) pss_nil) (pss_one (ps_ret (pv 3)))))))), ?_⟩
  refine seq_abs fun N hN => ?_
  simp only [tSeq, tFor_eq, tLC_eq, iRng1, iRng2, iList, iTup, iStr, tIfS, tRet, tRetN, tNext, tAsg, gName, tVar, tC, tOp, rI0, rI, tTest, tB, rEq, rNe, tCall, tCons, tNil, tCB, tLst, tTup, tAnd, tOr, tNot, tAndV, tOrV, tNotV, tIf, tDrop, tSl, tPart, tNoPart, tChain, tUn, rU, L2.start, cx_K, bk_K, cx_calm, bk_calm, lenV_str, and_assoc, Option.join, List.length_map, List.length_append, decide_eq_true_eq, Bool.false_eq_true, if_false, if_true, Bool.not_true, Bool.not_false, Bool.not_eq_true', decide_eq_false_iff_not, Bool.true_eq_false, List.length_cons, List.length_nil, List.map_cons, List.map_nil, List.replicate, List.cons_append, List.nil_append, List.append_nil, List.getElem?_cons_zero, List.getElem?_cons_succ, List.set_cons_zero, List.set_cons_succ, Nat.reduceSub, Nat.reduceAdd, Option.some.injEq, V.int.injEq, V.str.injEq, V.bl.injEq, V.ref.injEq, List.cons.injEq, and_true, true_and, exists_eq_left', exists_eq_left, exists_and_left, exists_eq_right, exists_const]
  refine hN _ _ ?_
  refine seq_abs fun N hN => ?_
  simp only [tSeq, tFor_eq, tLC_eq, iRng1, iRng2, iList, iTup, iStr, tIfS, tRet, tRetN, tNext, tAsg, gName, tVar, tC, tOp, rI0, rI, tTest, tB, rEq, rNe, tCall, tCons, tNil, tCB, tLst, tTup, tAnd, tOr, tNot, tAndV, tOrV, tNotV, tIf, tDrop, tSl, tPart, tNoPart, tChain, tUn, rU, L2.start, cx_K, bk_K, cx_calm, bk_calm, lenV_str, and_assoc, Option.join, List.length_map, List.length_append, decide_eq_true_eq, Bool.false_eq_true, if_false, if_true, Bool.not_true, Bool.not_false, Bool.not_eq_true', decide_eq_false_iff_not, Bool.true_eq_false, List.length_cons, List.length_nil, List.map_cons, List.map_nil, List.replicate, List.cons_append, List.nil_append, List.append_nil, List.getElem?_cons_zero, List.getElem?_cons_succ, List.set_cons_zero, List.set_cons_succ, Nat.reduceSub, Nat.reduceAdd, Option.some.injEq, V.int.injEq, V.str.injEq, V.bl.injEq, V.ref.injEq, List.cons.injEq, and_true, true_and, exists_eq_left', exists_eq_left, exists_and_left, exists_eq_right, exists_const]
  refine hN _ _ ?_
  refine seq_abs fun N hN => ?_
  simp only [tSeq, tFor_eq, tLC_eq, iRng1, iRng2, iList, iTup, iStr, tIfS, tRet, tRetN, tNext, tAsg, gName, tVar, tC, tOp, rI0, rI, tTest, tB, rEq, rNe, tCall, tCons, tNil, tCB, tLst, tTup, tAnd, tOr, tNot, tAndV, tOrV, tNotV, tIf, tDrop, tSl, tPart, tNoPart, tChain, tUn, rU, L2.start, cx_K, bk_K, cx_calm, bk_calm, lenV_str, and_assoc, Option.join, List.length_map, List.length_append, decide_eq_true_eq, Bool.false_eq_true, if_false, if_true, Bool.not_true, Bool.not_false, Bool.not_eq_true', decide_eq_false_iff_not, Bool.true_eq_false, List.length_cons, List.length_nil, List.map_cons, List.map_nil, List.replicate, List.cons_append, List.nil_append, List.append_nil, List.getElem?_cons_zero, List.getElem?_cons_succ, List.set_cons_zero, List.set_cons_succ, Nat.reduceSub, Nat.reduceAdd, Option.some.injEq, V.int.injEq, V.str.injEq, V.bl.injEq, V.ref.injEq, List.cons.injEq, and_true, true_and, exists_eq_left', exists_eq_left, exists_and_left, exists_eq_right, exists_const]
  refine ⟨⟨by decide, by decide, by decide⟩, by decide, hN _ _ ?_⟩
  generalize c % 26 ^ Int.toNat 8 = r0
  have hm : 0 ≤ n % 8 ∧ n % 8 < 8 := by omega
  have e0 : ("" : Str).cps.toList = [] := by decide +kernel
  refine seq_join (fun σ H' => H' = H ∧ ∃ (z : Str) (a b : Option V), z.length = 1 + (n % 8).toNat ∧ (∀ d ∈ z.cps.toList, 97 ≤ d ∧ d ≤ 122) ∧ σ = [some (V.int c), some (V.int n), some (V.str "abcdefghijklmnopqrstuvwxyz"), some (V.str z), a, b]) (fun N hN => ?_) (fun σ H' h => ?_)
  · simp only [tSeq, tFor_eq, tLC_eq, iRng1, iRng2, iList, iTup, iStr, tIfS, tRet, tRetN, tNext, tAsg, gName, tVar, tC, tOp, rI0, rI, tTest, tB, rEq, rNe, tCall, tCons, tNil, tCB, tLst, tTup, tAnd, tOr, tNot, tAndV, tOrV, tNotV, tIf, tDrop, tSl, tPart, tNoPart, tChain, tUn, rU, L2.start, cx_K, bk_K, cx_calm, bk_calm, lenV_str, and_assoc, Option.join, List.length_map, List.length_append, decide_eq_true_eq, Bool.false_eq_true, if_false, if_true, Bool.not_true, Bool.not_false, Bool.not_eq_true', decide_eq_false_iff_not, Bool.true_eq_false, List.length_cons, List.length_nil, List.map_cons, List.map_nil, List.replicate, List.cons_append, List.nil_append, List.append_nil, List.getElem?_cons_zero, List.getElem?_cons_succ, List.set_cons_zero, List.set_cons_succ, Nat.reduceSub, Nat.reduceAdd, Option.some.injEq, V.int.injEq, V.str.injEq, V.bl.injEq, V.ref.injEq, List.cons.injEq, and_true, true_and, exists_eq_left', exists_eq_left, exists_and_left, exists_eq_right, exists_const]
    refine ⟨by decide, by omega, by omega, fw_range (n := (1 + n % 8).toNat) (fun i σ H' => H' = H ∧ ∃ (z : Str) (r : Int) (o : Option V), z.length = i ∧ (∀ d ∈ z.cps.toList, 97 ≤ d ∧ d ≤ 122) ∧ σ = [some (V.int c), some (V.int n), some (V.str "abcdefghijklmnopqrstuvwxyz"), some (V.str z), some (V.int r), o])
      ⟨rfl, _, _, _, rfl, (fun d hd => by rw [e0] at hd; cases hd), rfl⟩ (fun i σ H' hi e => ?_) (fun σ H' e => ?_)⟩
    · obtain ⟨rfl, z, r, o, hz, hl, rfl⟩ := e
      obtain ⟨d, hd, hd2⟩ := letter_at r
      simp only [tSeq, tFor_eq, tLC_eq, iRng1, iRng2, iList, iTup, iStr, tIfS, tRet, tRetN, tNext, tAsg, gName, tVar, tC, tOp, rI0, rI, tTest, tB, rEq, rNe, tCall, tCons, tNil, tCB, tLst, tTup, tAnd, tOr, tNot, tAndV, tOrV, tNotV, tIf, tDrop, tSl, tPart, tNoPart, tChain, tUn, rU, L2.start, cx_K, bk_K, cx_calm, bk_calm, lenV_str, and_assoc, Option.join, List.length_map, List.length_append, decide_eq_true_eq, Bool.false_eq_true, if_false, if_true, Bool.not_true, Bool.not_false, Bool.not_eq_true', decide_eq_false_iff_not, Bool.true_eq_false, List.length_cons, List.length_nil, List.map_cons, List.map_nil, List.replicate, List.cons_append, List.nil_append, List.append_nil, List.getElem?_cons_zero, List.getElem?_cons_succ, List.set_cons_zero, List.set_cons_succ, Nat.reduceSub, Nat.reduceAdd, Option.some.injEq, V.int.injEq, V.str.injEq, V.bl.injEq, V.ref.injEq, List.cons.injEq, and_true, true_and, exists_eq_left', exists_eq_left, exists_and_left, exists_eq_right, exists_const]
      refine ⟨by decide, _, _, d, rfl, rfl, small (by decide +kernel), hd, ?_⟩
      have e1 : (⟨#[d]⟩ : Str).length = 1 := rfl
      refine ⟨_, rfl, small (by omega), ⟨by decide, by decide⟩, rfl, _, ?_, ?_, rfl, _, rfl⟩
      · rw [len_app, hz, e1]
      · intro d' hd'
        rw [cps_app] at hd'
        rcases List.mem_append.mp hd' with h | h
        · exact hl d' h
        · have h : d' ∈ [d] := h
          rw [List.mem_singleton.mp h]
          exact hd2
    · obtain ⟨rfl, z, r, o, hz, hl, rfl⟩ := e
      exact hN _ _ ⟨rfl, z, _, _, by omega, hl, rfl⟩
  · obtain ⟨rfl, z, a, b, hz, hl, rfl⟩ := h
    refine seq_join (fun σ H'' => H'' = H' ∧ ∃ (z : Str) (a b : Option V), Nm z ∧ σ = [some (V.int c), some (V.int n), some (V.str "abcdefghijklmnopqrstuvwxyz"), some (V.str z), a, b]) (fun N hN => ?_) (fun σ H'' h => ?_)
    · simp only [tSeq, tFor_eq, tLC_eq, iRng1, iRng2, iList, iTup, iStr, tIfS, tRet, tRetN, tNext, tAsg, gName, tVar, tC, tOp, rI0, rI, tTest, tB, rEq, rNe, tCall, tCons, tNil, tCB, tLst, tTup, tAnd, tOr, tNot, tAndV, tOrV, tNotV, tIf, tDrop, tSl, tPart, tNoPart, tChain, tUn, rU, L2.start, cx_K, bk_K, cx_calm, bk_calm, lenV_str, and_assoc, Option.join, List.length_map, List.length_append, decide_eq_true_eq, Bool.false_eq_true, if_false, if_true, Bool.not_true, Bool.not_false, Bool.not_eq_true', decide_eq_false_iff_not, Bool.true_eq_false, List.length_cons, List.length_nil, List.map_cons, List.map_nil, List.replicate, List.cons_append, List.nil_append, List.append_nil, List.getElem?_cons_zero, List.getElem?_cons_succ, List.set_cons_zero, List.set_cons_succ, Nat.reduceSub, Nat.reduceAdd, Option.some.injEq, V.int.injEq, V.str.injEq, V.bl.injEq, V.ref.injEq, List.cons.injEq, and_true, true_and, exists_eq_left', exists_eq_left, exists_and_left, exists_eq_right, exists_const]
      refine ⟨rfl, ?_⟩
      have fin : ∀ z : Str, Nm z → N [some (V.int c), some (V.int n), some (V.str "abcdefghijklmnopqrstuvwxyz"), some (V.str z), a, b] H' := fun z h => hN _ _ ⟨rfl, z, _, _, h, rfl⟩
      split
      · rename_i e
        subst e
        refine ⟨small (by decide +kernel), fin _ ?_⟩
        exact ⟨by decide +kernel, by decide +kernel, by decide +kernel, by decide +kernel, by decide +kernel⟩
      · rename_i e
        refine ⟨rfl, ?_⟩
        split
        · rename_i e
          subst e
          refine ⟨small (by decide +kernel), fin _ ?_⟩
          exact ⟨by decide +kernel, by decide +kernel, by decide +kernel, by decide +kernel, by decide +kernel⟩
        · rename_i e2
          exact fin z ⟨by omega, by omega, hl, e, e2⟩
    · obtain ⟨rfl, z, a, b, hz, rfl⟩ := h
      simp only [tSeq, tFor_eq, tLC_eq, iRng1, iRng2, iList, iTup, iStr, tIfS, tRet, tRetN, tNext, tAsg, gName, tVar, tC, tOp, rI0, rI, tTest, tB, rEq, rNe, tCall, tCons, tNil, tCB, tLst, tTup, tAnd, tOr, tNot, tAndV, tOrV, tNotV, tIf, tDrop, tSl, tPart, tNoPart, tChain, tUn, rU, L2.start, cx_K, bk_K, cx_calm, bk_calm, lenV_str, and_assoc, Option.join, List.length_map, List.length_append, decide_eq_true_eq, Bool.false_eq_true, if_false, if_true, Bool.not_true, Bool.not_false, Bool.not_eq_true', decide_eq_false_iff_not, Bool.true_eq_false, List.length_cons, List.length_nil, List.map_cons, List.map_nil, List.replicate, List.cons_append, List.nil_append, List.append_nil, List.getElem?_cons_zero, List.getElem?_cons_succ, List.set_cons_zero, List.set_cons_succ, Nat.reduceSub, Nat.reduceAdd, Option.some.injEq, V.int.injEq, V.str.injEq, V.bl.injEq, V.ref.injEq, List.cons.injEq, and_true, true_and, exists_eq_left', exists_eq_left, exists_and_left, exists_eq_right, exists_const]
      exact q z hz
theorem ok_sheet_and_rules (bi : Bi mg) (h_law_name_by : Has P w K mg base 1 "_law_name_by" ["cell", "size"] spName) (F : Fun K "_law_sheet_and_rules" "_law_sheet_and_rules" s_law_sheet_and_rules f fd) : FnOk P w K mg base CX0 2 f fd ["script", "most", "many"] (spSR K) := by
  refine F.ok sc_law_sheet_and_rules (fun vs H Q E h => ?_) (fun cdv A outer s H vs Q E hr h => ?_)
  · obtain ⟨sa, ns, m, n, rfl, _⟩ := h
    rfl
  obtain ⟨sa, ns, m, n, rfl, hS, h63, q⟩ := h
  refine ⟨_, (pss_cons (ps_set (i := 3) sc_law_sheet_and_rules.nd rfl (Or.inl rfl) (pe_lst (pa_cons (pe_tup (pa_cons pe_str pa_nil)) pa_nil))) (pss_cons (ps_set (i := 4) sc_law_sheet_and_rules.nd rfl (Or.inl rfl) (pe_lst pa_nil)) (pss_cons (ps_for PassesOwn.never rfl (pi_list (pe_slice sl_list (pv 0) po_none (po_some pe_int))) (pg_name (i := 5) sc_law_sheet_and_rules.nd rfl (Or.inl rfl)) (pss_cons (ps_set (i := 6) sc_law_sheet_and_rules.nd rfl (Or.inl rfl) (pe_op op_mod (pv 5) (pe_op op_pow pe_int pe_int))) (pss_cons (ps_set (i := 7) sc_law_sheet_and_rules.nd rfl (Or.inl rfl) (pe_op op_mul pe_int (pe_callB call_len rfl bi.len bt_len (pa_cons (pv 3) pa_nil)))) (pss_cons (ps_set (i := 8) sc_law_sheet_and_rules.nd rfl (Or.inl rfl) (pe_op op_mod (pe_op op_fdiv (pe_op op_mod (pe_op op_mul (pe_op op_fdiv (pv 6) pe_int) pe_int) pe_int) pe_int) (pv 7))) (pss_cons (ps_set (i := 9) sc_law_sheet_and_rules.nd rfl (Or.inl rfl) (pe_op op_mod (pe_op op_fdiv (pe_op op_mod (pe_op op_mul (pe_op op_fdiv (pv 6) pe_int) pe_int) pe_int) pe_int) (pv 7))) (pss_cons (ps_set (i := 10) sc_law_sheet_and_rules.nd rfl (Or.inl rfl) (pe_tup (pa_cons pe_str (pa_cons (pv 8) (pa_cons (pv 9) pa_nil))))) (pss_cons (ps_if (pt_cmpR op_eq (pe_op op_mod (pv 6) pe_int) pe_int (nomark _)) (pss_one (ps_set (i := 10) sc_law_sheet_and_rules.nd rfl (Or.inl rfl) (pe_tup (pa_cons pe_str (pa_cons (pe_callH h_law_name_by (hr.mono (by omega)) rfl (pa_cons (pe_op op_fdiv (pv 6) pe_int) (pa_cons (pe_op op_mod (pe_op op_fdiv (pv 6) pe_int) pe_int) pa_nil))) pa_nil))))) pss_nil) (pss_one (ps_if (PW.pt (pw_and (pt_cmpR op_lt (pe_op op_mod (pv 6) pe_int) pe_int (nomark _)) (pw_and (pt_cmpR op_lt (pe_callB call_len rfl bi.len bt_len (pa_cons (pv 3) pa_nil)) (pv 1) (nomark _)) (pw_and1 (pt_cmpR (op_notInG hr.units) (pv 10) (pv 3) (by with_unfolding_all rfl)))))) (pss_one (ps_expr (pe_bm PySem.F.plainAttrs_list PySem.F.slot_list_append PySem.F.type_list_append mt_append (pv 3) (pa_cons (pv 10) pa_nil)))) (pss_one (ps_if (PW.pt (pw_and (pt_cmpR op_lt (pe_callB call_len rfl bi.len bt_len (pa_cons (pv 4) pa_nil)) (pv 2) (nomark _)) (pw_and1 (pt_cmpR op_eq (pe_op op_mod (pe_op op_fdiv (pv 6) pe_int) pe_int) pe_int (nomark _))))) (pss_one (ps_expr (pe_bm PySem.F.plainAttrs_list PySem.F.slot_list_append PySem.F.type_list_append mt_append (pv 4) (pa_cons (pe_lst (pa_cons (pe_lst pa_nil) (pa_cons (pe_tup (pa_cons (pv 8) (pa_cons (pv 9) pa_nil))) pa_nil))) pa_nil)))) (pss_one (ps_if (PW.pt (pw_and (pt_cmpR op_gt (pe_callB call_len rfl bi.len bt_len (pa_cons (pv 4) pa_nil)) pe_int (nomark _)) (pw_and1 (pt_cmpR op_lt (pe_callB call_len rfl bi.len bt_len (pa_cons (pe_ix ix_list (pe_ix ix_list (pv 4) (pe_un un_neg pe_int) (fun _ _ => rfl)) pe_int (fun _ _ => rfl)) pa_nil)) pe_int (nomark _))))) (pss_one (ps_expr (pe_bm PySem.F.plainAttrs_list PySem.F.slot_list_append PySem.F.type_list_append mt_append (pe_ix ix_list (pe_ix ix_list (pv 4) (pe_un un_neg pe_int) (fun _ _ => rfl)) pe_int (fun _ _ => rfl)) (pa_cons (pe_tup (pa_cons (pv 9) (pa_cons (pv 8) pa_nil))) pa_nil)))) pss_nil))))))))))))) (pss_one (ps_ret (pe_tup (pa_cons (pv 3) (pa_cons (pe_comp ["rule"] [] [] (pi_list (pv 4)) (fun _ _ _ _ nd => pg_name (i := 0) nd rfl (Or.inl rfl)) (fun _ _ _ _ => pif_nil) (fun _ _ _ _ => (pe_tup (pa_cons (pe_ix (ix_listK K) (pv 0) pe_int (fun _ _ => rfl)) (pa_cons (pe_ix (ix_listK K) (pv 0) pe_int (fun _ _ => rfl)) pa_nil))))) pa_nil)))))))), ?_⟩
  refine seq_abs fun N hN => ?_
  simp only [tSeq, tFor_eq, tLC_eq, iRng1, iRng2, iList, iTup, iStr, tIfS, tRet, tRetN, tNext, tAsg, gName, tVar, tC, tOp, rI0, rI, tTest, tB, rEq, rNe, tCall, tCons, tNil, tCB, tLst, tTup, tAnd, tOr, tNot, tAndV, tOrV, tNotV, tIf, tDrop, tSl, tPart, tNoPart, tChain, tUn, rU, L2.start, cx_K, bk_K, cx_calm, bk_calm, lenV_str, and_assoc, Option.join, List.length_map, List.length_append, decide_eq_true_eq, Bool.false_eq_true, if_false, if_true, Bool.not_true, Bool.not_false, Bool.not_eq_true', decide_eq_false_iff_not, Bool.true_eq_false, List.length_cons, List.length_nil, List.map_cons, List.map_nil, List.replicate, List.cons_append, List.nil_append, List.append_nil, List.getElem?_cons_zero, List.getElem?_cons_succ, List.set_cons_zero, List.set_cons_succ, Nat.reduceSub, Nat.reduceAdd, Option.some.injEq, V.int.injEq, V.str.injEq, V.bl.injEq, V.ref.injEq, List.cons.injEq, and_true, true_and, exists_eq_left', exists_eq_left, exists_and_left, exists_eq_right, exists_const, tBM, tBM0, rAppend, rPop, rIxL, rIxT, rIxS, rSlL, rSlT, rSlS, rCat, rCatT, tKGet, cx_w, bk_w, tDGet, tDisp, tPairs, tDNewK, cx_P]
  refine ⟨small (by simp), fun p0 hp0 => ⟨small (by simp), fun ra hra => hN _ _ ?_⟩⟩
  have e1 := same_new hp0 (.tup [.str "none"])
  have k1 : upd H p0 (.tup [.str "none"]) p0 = some (.tup [.str "none"]) := upd_same
  generalize upd H p0 (.tup [.str "none"]) = H1 at e1 k1 hra ⊢
  have e2 := same_new hra (.lst [.ref p0])
  have k2 : upd H1 ra (.lst [.ref p0]) ra = some (.lst [.ref p0]) := upd_same
  generalize upd H1 ra (.lst [.ref p0]) = H2 at e2 k2 ⊢
  refine seq_abs fun N hN => ?_
  simp only [tSeq, tFor_eq, tLC_eq, iRng1, iRng2, iList, iTup, iStr, tIfS, tRet, tRetN, tNext, tAsg, gName, tVar, tC, tOp, rI0, rI, tTest, tB, rEq, rNe, tCall, tCons, tNil, tCB, tLst, tTup, tAnd, tOr, tNot, tAndV, tOrV, tNotV, tIf, tDrop, tSl, tPart, tNoPart, tChain, tUn, rU, L2.start, cx_K, bk_K, cx_calm, bk_calm, lenV_str, and_assoc, Option.join, List.length_map, List.length_append, decide_eq_true_eq, Bool.false_eq_true, if_false, if_true, Bool.not_true, Bool.not_false, Bool.not_eq_true', decide_eq_false_iff_not, Bool.true_eq_false, List.length_cons, List.length_nil, List.map_cons, List.map_nil, List.replicate, List.cons_append, List.nil_append, List.append_nil, List.getElem?_cons_zero, List.getElem?_cons_succ, List.set_cons_zero, List.set_cons_succ, Nat.reduceSub, Nat.reduceAdd, Option.some.injEq, V.int.injEq, V.str.injEq, V.bl.injEq, V.ref.injEq, List.cons.injEq, and_true, true_and, exists_eq_left', exists_eq_left, exists_and_left, exists_eq_right, exists_const, tBM, tBM0, rAppend, rPop, rIxL, rIxT, rIxS, rSlL, rSlT, rSlS, rCat, rCatT, tKGet, cx_w, bk_w, tDGet, tDisp, tPairs, tDNewK, cx_P]
  refine ⟨small (by simp), fun rb hrb => hN _ _ ?_⟩
  have e3 := same_new hrb (.lst [])
  have k3 : upd H2 rb (.lst []) rb = some (.lst []) := upd_same
  generalize upd H2 rb (.lst []) = H3 at e3 k3 ⊢
  have e03 := (e1.trans e2).trans e3
  refine seq_join (fun σ H' => ∃ (pc : Addr) (zs : List V) (i : Nat) (us : List V) (rows : List Rw) (rs : List RC) (o1 o2 o3 o4 o5 o6 : Option V), i ≤ 63 ∧ SRI H pc zs i H' ra rb us rows rs ∧ σ = [some (V.ref sa), some (V.int m), some (V.int n), some (V.ref ra), some (V.ref rb), o1, o2, o3, o4, o5, o6]) (fun N hN => ?_) (fun σ H' h => ?_)
  · simp only [tSeq, tFor_eq, tLC_eq, iRng1, iRng2, iList, iTup, iStr, tIfS, tRet, tRetN, tNext, tAsg, gName, tVar, tC, tOp, rI0, rI, tTest, tB, rEq, rNe, tCall, tCons, tNil, tCB, tLst, tTup, tAnd, tOr, tNot, tAndV, tOrV, tNotV, tIf, tDrop, tSl, tPart, tNoPart, tChain, tUn, rU, L2.start, cx_K, bk_K, cx_calm, bk_calm, lenV_str, and_assoc, Option.join, List.length_map, List.length_append, decide_eq_true_eq, Bool.false_eq_true, if_false, if_true, Bool.not_true, Bool.not_false, Bool.not_eq_true', decide_eq_false_iff_not, Bool.true_eq_false, List.length_cons, List.length_nil, List.map_cons, List.map_nil, List.replicate, List.cons_append, List.nil_append, List.append_nil, List.getElem?_cons_zero, List.getElem?_cons_succ, List.set_cons_zero, List.set_cons_succ, Nat.reduceSub, Nat.reduceAdd, Option.some.injEq, V.int.injEq, V.str.injEq, V.bl.injEq, V.ref.injEq, List.cons.injEq, and_true, true_and, exists_eq_left', exists_eq_left, exists_and_left, exists_eq_right, exists_const, tBM, tBM0, rAppend, rPop, rIxL, rIxT, rIxS, rSlL, rSlT, rSlS, rCat, rCatT, tKGet, cx_w, bk_w, tDGet, tDisp, tPairs, tDNewK, cx_P]
    refine ⟨_, Same.seq e03 hS, fun pc hpc => ?_⟩
    rw [cut_ints]
    have hcl := cutI_len ns none (some 60)
    generalize cutI ns none (some 60) = cs at hcl
    have e4 := same_new hpc (.lst (cs.map V.int))
    have k4 : upd H3 pc (.lst (cs.map V.int)) pc = some (.lst (cs.map V.int)) := upd_same
    generalize upd H3 pc (.lst (cs.map V.int)) = H4 at e4 k4 ⊢
    have nra : H ra = none := e1.free hra
    have nrb : H rb = none := (e1.trans e2).free hrb
    refine ⟨⟨_, SqL.of k4⟩, ?_⟩
    refine fw_list (xs := cs.map V.int) (fun i σ H' => ∃ (us : List V) (rows : List Rw) (rs : List RC) (o1 o2 o3 o4 o5 o6 : Option V), SRI H pc (cs.map V.int) i H' ra rb us rows rs ∧ σ = [some (V.ref sa), some (V.int m), some (V.int n), some (V.ref ra), some (V.ref rb), o1, o2, o3, o4, o5, o6]) ?_ (fun i σ H' _ h => ?_) (fun i x σ H' hx h => ?_) (fun σ H' h => ?_)
    · refine ⟨[.ref p0], [.no], [], _, _, _, _, _, _, ⟨e03.trans e4, nra, nrb, ne_of_none k2 hrb, k4, ⟨(ne_of_none (e3 _ _ k2) hpc).symm, (ne_of_none k3 hpc).symm, (fun c z => by cases z)⟩, (e3.trans e4) _ _ k2, ⟨_, _, rfl, ⟨p0, _, rfl, ((e2.trans e3).trans e4) _ _ k1, _, _, rfl, rfl, rfl⟩, rfl⟩, by simp, by simp, e4 _ _ k3, (fun c z => by cases z), (fun c z => by cases z), List.nodup_nil, (fun c z => by cases z), by simp, (fun c z => by cases z)⟩, rfl⟩
    · obtain ⟨us, rows, rs, o1, o2, o3, o4, o5, o6, S, rfl⟩ := h
      exact SqL.of S.pk
    · obtain ⟨us, rows, rs, o1, o2, o3, o4, o5, o6, S, rfl⟩ := h
      obtain ⟨c, hc, rfl⟩ : ∃ c, cs[i]? = some c ∧ x = .int c := by
        rw [List.getElem?_map] at hx
        cases e : cs[i]? with
        | none => rw [e] at hx; cases hx
        | some n => rw [e] at hx; cases hx; exact ⟨n, rfl, rfl⟩
      have hi63 : i < 63 := by have := (List.getElem?_eq_some_iff.mp hc).1; omega
      have hul := mapLen S.rws
      show tSeq _ _ _ _ _
      refine seq_abs fun N hN => ?_
      simp only [tSeq, tFor_eq, tLC_eq, iRng1, iRng2, iList, iTup, iStr, tIfS, tRet, tRetN, tNext, tAsg, gName, tVar, tC, tOp, rI0, rI, tTest, tB, rEq, rNe, tCall, tCons, tNil, tCB, tLst, tTup, tAnd, tOr, tNot, tAndV, tOrV, tNotV, tIf, tDrop, tSl, tPart, tNoPart, tChain, tUn, rU, L2.start, cx_K, bk_K, cx_calm, bk_calm, lenV_str, and_assoc, Option.join, List.length_map, List.length_append, decide_eq_true_eq, Bool.false_eq_true, if_false, if_true, Bool.not_true, Bool.not_false, Bool.not_eq_true', decide_eq_false_iff_not, Bool.true_eq_false, List.length_cons, List.length_nil, List.map_cons, List.map_nil, List.replicate, List.cons_append, List.nil_append, List.append_nil, List.getElem?_cons_zero, List.getElem?_cons_succ, List.set_cons_zero, List.set_cons_succ, Nat.reduceSub, Nat.reduceAdd, Option.some.injEq, V.int.injEq, V.str.injEq, V.bl.injEq, V.ref.injEq, List.cons.injEq, and_true, true_and, exists_eq_left', exists_eq_left, exists_and_left, exists_eq_right, exists_const, tBM, tBM0, rAppend, rPop, rIxL, rIxT, rIxS, rSlL, rSlT, rSlS, rCat, rCatT, tKGet, cx_w, bk_w, tDGet, tDisp, tPairs, tDNewK, cx_P]
      refine ⟨⟨by decide, by decide, by decide⟩, p1018, hN _ _ ?_⟩
      generalize c % 10 ^ Int.toNat 18 = cell
      refine seq_abs fun N hN => ?_
      simp only [tSeq, tFor_eq, tLC_eq, iRng1, iRng2, iList, iTup, iStr, tIfS, tRet, tRetN, tNext, tAsg, gName, tVar, tC, tOp, rI0, rI, tTest, tB, rEq, rNe, tCall, tCons, tNil, tCB, tLst, tTup, tAnd, tOr, tNot, tAndV, tOrV, tNotV, tIf, tDrop, tSl, tPart, tNoPart, tChain, tUn, rU, L2.start, cx_K, bk_K, cx_calm, bk_calm, lenV_str, and_assoc, Option.join, List.length_map, List.length_append, decide_eq_true_eq, Bool.false_eq_true, if_false, if_true, Bool.not_true, Bool.not_false, Bool.not_eq_true', decide_eq_false_iff_not, Bool.true_eq_false, List.length_cons, List.length_nil, List.map_cons, List.map_nil, List.replicate, List.cons_append, List.nil_append, List.append_nil, List.getElem?_cons_zero, List.getElem?_cons_succ, List.set_cons_zero, List.set_cons_succ, Nat.reduceSub, Nat.reduceAdd, Option.some.injEq, V.int.injEq, V.str.injEq, V.bl.injEq, V.ref.injEq, List.cons.injEq, and_true, true_and, exists_eq_left', exists_eq_left, exists_and_left, exists_eq_right, exists_const, tBM, tBM0, rAppend, rPop, rIxL, rIxT, rIxS, rSlL, rSlT, rSlS, rCat, rCatT, tKGet, cx_w, bk_w, tDGet, tDisp, tPairs, tDNewK, cx_P]
      refine ⟨us.length, .inl ⟨_, SqL.of S.rw, rfl⟩, .inl ⟨by decide, by decide⟩, hN _ _ ?_⟩
      have htop : (0 : Int) < 2 * (us.length : Int) := by have := S.r1; omega
      generalize 2 * (us.length : Int) = top at htop
      refine seq_abs fun N hN => ?_
      simp only [tSeq, tFor_eq, tLC_eq, iRng1, iRng2, iList, iTup, iStr, tIfS, tRet, tRetN, tNext, tAsg, gName, tVar, tC, tOp, rI0, rI, tTest, tB, rEq, rNe, tCall, tCons, tNil, tCB, tLst, tTup, tAnd, tOr, tNot, tAndV, tOrV, tNotV, tIf, tDrop, tSl, tPart, tNoPart, tChain, tUn, rU, L2.start, cx_K, bk_K, cx_calm, bk_calm, lenV_str, and_assoc, Option.join, List.length_map, List.length_append, decide_eq_true_eq, Bool.false_eq_true, if_false, if_true, Bool.not_true, Bool.not_false, Bool.not_eq_true', decide_eq_false_iff_not, Bool.true_eq_false, List.length_cons, List.length_nil, List.map_cons, List.map_nil, List.replicate, List.cons_append, List.nil_append, List.append_nil, List.getElem?_cons_zero, List.getElem?_cons_succ, List.set_cons_zero, List.set_cons_succ, Nat.reduceSub, Nat.reduceAdd, Option.some.injEq, V.int.injEq, V.str.injEq, V.bl.injEq, V.ref.injEq, List.cons.injEq, and_true, true_and, exists_eq_left', exists_eq_left, exists_and_left, exists_eq_right, exists_const, tBM, tBM0, rAppend, rPop, rIxL, rIxT, rIxS, rSlL, rSlT, rSlS, rCat, rCatT, tKGet, cx_w, bk_w, tDGet, tDisp, tPairs, tDNewK, cx_P]
      refine ⟨⟨by decide, by decide⟩, .inr ⟨by decide, by decide⟩, by decide, ⟨by decide, by decide⟩, htop, hN _ _ ?_⟩
      generalize cell / 5 * 48271 % 2147483647 / 64 % top = one
      refine seq_abs fun N hN => ?_
      simp only [tSeq, tFor_eq, tLC_eq, iRng1, iRng2, iList, iTup, iStr, tIfS, tRet, tRetN, tNext, tAsg, gName, tVar, tC, tOp, rI0, rI, tTest, tB, rEq, rNe, tCall, tCons, tNil, tCB, tLst, tTup, tAnd, tOr, tNot, tAndV, tOrV, tNotV, tIf, tDrop, tSl, tPart, tNoPart, tChain, tUn, rU, L2.start, cx_K, bk_K, cx_calm, bk_calm, lenV_str, and_assoc, Option.join, List.length_map, List.length_append, decide_eq_true_eq, Bool.false_eq_true, if_false, if_true, Bool.not_true, Bool.not_false, Bool.not_eq_true', decide_eq_false_iff_not, Bool.true_eq_false, List.length_cons, List.length_nil, List.map_cons, List.map_nil, List.replicate, List.cons_append, List.nil_append, List.append_nil, List.getElem?_cons_zero, List.getElem?_cons_succ, List.set_cons_zero, List.set_cons_succ, Nat.reduceSub, Nat.reduceAdd, Option.some.injEq, V.int.injEq, V.str.injEq, V.bl.injEq, V.ref.injEq, List.cons.injEq, and_true, true_and, exists_eq_left', exists_eq_left, exists_and_left, exists_eq_right, exists_const, tBM, tBM0, rAppend, rPop, rIxL, rIxT, rIxS, rSlL, rSlT, rSlS, rCat, rCatT, tKGet, cx_w, bk_w, tDGet, tDisp, tPairs, tDNewK, cx_P]
      refine ⟨⟨by decide, by decide⟩, .inr ⟨by decide, by decide⟩, by decide, ⟨by decide, by decide⟩, htop, hN _ _ ?_⟩
      generalize cell / 5 * 39373 % 2147483629 / 1024 % top = other
      refine seq_abs fun N hN => ?_
      simp only [tSeq, tFor_eq, tLC_eq, iRng1, iRng2, iList, iTup, iStr, tIfS, tRet, tRetN, tNext, tAsg, gName, tVar, tC, tOp, rI0, rI, tTest, tB, rEq, rNe, tCall, tCons, tNil, tCB, tLst, tTup, tAnd, tOr, tNot, tAndV, tOrV, tNotV, tIf, tDrop, tSl, tPart, tNoPart, tChain, tUn, rU, L2.start, cx_K, bk_K, cx_calm, bk_calm, lenV_str, and_assoc, Option.join, List.length_map, List.length_append, decide_eq_true_eq, Bool.false_eq_true, if_false, if_true, Bool.not_true, Bool.not_false, Bool.not_eq_true', decide_eq_false_iff_not, Bool.true_eq_false, List.length_cons, List.length_nil, List.map_cons, List.map_nil, List.replicate, List.cons_append, List.nil_append, List.append_nil, List.getElem?_cons_zero, List.getElem?_cons_succ, List.set_cons_zero, List.set_cons_succ, Nat.reduceSub, Nat.reduceAdd, Option.some.injEq, V.int.injEq, V.str.injEq, V.bl.injEq, V.ref.injEq, List.cons.injEq, and_true, true_and, exists_eq_left', exists_eq_left, exists_and_left, exists_eq_right, exists_const, tBM, tBM0, rAppend, rPop, rIxL, rIxT, rIxS, rSlL, rSlT, rSlS, rCat, rCatT, tKGet, cx_w, bk_w, tDGet, tDisp, tPairs, tDNewK, cx_P]
      refine ⟨small (by simp), fun pr hpr => hN _ _ ?_⟩
      have g1 := same_new hpr (.tup [.str "both", .int one, .int other])
      have y1 : upd H' pr (.tup [.str "both", .int one, .int other]) pr = some (.tup [.str "both", .int one, .int other]) := upd_same
      generalize upd H' pr (.tup [.str "both", .int one, .int other]) = J1 at g1 y1 ⊢
      refine seq_join (fun σ H2 => Same H' H2 ∧ ∃ (rv : V) (r : Rw), DAt H2 (dRw r) rv ∧ σ = [some (V.ref sa), some (V.int m), some (V.int n), some (V.ref ra), some (V.ref rb), some (V.int c), some (V.int cell), some (V.int top), some (V.int one), some (V.int other), some rv]) (fun N hN => ?_) (fun σ H2 h => ?_)
      · simp only [tSeq, tFor_eq, tLC_eq, iRng1, iRng2, iList, iTup, iStr, tIfS, tRet, tRetN, tNext, tAsg, gName, tVar, tC, tOp, rI0, rI, tTest, tB, rEq, rNe, tCall, tCons, tNil, tCB, tLst, tTup, tAnd, tOr, tNot, tAndV, tOrV, tNotV, tIf, tDrop, tSl, tPart, tNoPart, tChain, tUn, rU, L2.start, cx_K, bk_K, cx_calm, bk_calm, lenV_str, and_assoc, Option.join, List.length_map, List.length_append, decide_eq_true_eq, Bool.false_eq_true, if_false, if_true, Bool.not_true, Bool.not_false, Bool.not_eq_true', decide_eq_false_iff_not, Bool.true_eq_false, List.length_cons, List.length_nil, List.map_cons, List.map_nil, List.replicate, List.cons_append, List.nil_append, List.append_nil, List.getElem?_cons_zero, List.getElem?_cons_succ, List.set_cons_zero, List.set_cons_succ, Nat.reduceSub, Nat.reduceAdd, Option.some.injEq, V.int.injEq, V.str.injEq, V.bl.injEq, V.ref.injEq, List.cons.injEq, and_true, true_and, exists_eq_left', exists_eq_left, exists_and_left, exists_eq_right, exists_const, tBM, tBM0, rAppend, rPop, rIxL, rIxT, rIxS, rSlL, rSlT, rSlS, rCat, rCatT, tKGet, cx_w, bk_w, tDGet, tDisp, tPairs, tDNewK, cx_P, spName]
        refine ⟨by decide, rfl, ?_⟩
        split
        · refine ⟨⟨by decide, by decide⟩, ⟨by decide, by decide⟩, by decide, fun nm gn => ⟨small (by simp), fun p2 hp2 => hN _ _ ⟨g1.trans (same_new hp2 _), _, .nm nm, ⟨p2, _, rfl, upd_same, _, _, rfl, rfl, _, _, rfl, rfl, rfl⟩, rfl⟩⟩⟩
        · exact hN _ _ ⟨g1, _, .bo one other, ⟨pr, _, rfl, y1, _, _, rfl, rfl, _, _, rfl, rfl, _, _, rfl, rfl, rfl⟩, rfl⟩
      · obtain ⟨m2, rv, r, hrv, rfl⟩ := h
        have S2 := S.go m2
        refine if_abs fun T U hT hU => ?_
        have hU' : U H2 := by
          refine hU H2 ?_
          refine if_abs fun T2 U2 hT2 hU2 => ?_
          have hU2' : U2 H2 := by
            refine hU2 H2 ?_
            simp only [tSeq, tFor_eq, tLC_eq, iRng1, iRng2, iList, iTup, iStr, tIfS, tRet, tRetN, tNext, tAsg, gName, tVar, tC, tOp, rI0, rI, tTest, tB, rEq, rNe, tCall, tCons, tNil, tCB, tLst, tTup, tAnd, tOr, tNot, tAndV, tOrV, tNotV, tIf, tDrop, tSl, tPart, tNoPart, tChain, tUn, rU, L2.start, cx_K, bk_K, cx_calm, bk_calm, lenV_str, and_assoc, Option.join, List.length_map, List.length_append, decide_eq_true_eq, Bool.false_eq_true, if_false, if_true, Bool.not_true, Bool.not_false, Bool.not_eq_true', decide_eq_false_iff_not, Bool.true_eq_false, List.length_cons, List.length_nil, List.map_cons, List.map_nil, List.replicate, List.cons_append, List.nil_append, List.append_nil, List.getElem?_cons_zero, List.getElem?_cons_succ, List.set_cons_zero, List.set_cons_succ, Nat.reduceSub, Nat.reduceAdd, Option.some.injEq, V.int.injEq, V.str.injEq, V.bl.injEq, V.ref.injEq, List.cons.injEq, and_true, true_and, exists_eq_left', exists_eq_left, exists_and_left, exists_eq_right, exists_const, tBM, tBM0, rAppend, rPop, rIxL, rIxT, rIxS, rSlL, rSlT, rSlS, rCat, rCatT, tKGet, cx_w, bk_w, tDGet, tDisp, tPairs, tDNewK, cx_P]
            refine ⟨_, .inl ⟨_, SqL.of S2.ru, rfl⟩, ?_⟩
            split
            · rename_i hpos
              have hne : rs ≠ [] := by intro z; subst z; simp at hpos
              obtain ⟨rs', c', rfl⟩ : ∃ r x, rs = r ++ [x] := ⟨rs.dropLast, rs.getLast hne, (List.dropLast_concat_getLast hne).symm⟩
              obtain ⟨ho, ⟨uc, hl, hps⟩, ht⟩ := S2.ok c' (by simp)
              have hucl := mapLen hps
              have hpl := S.s2 c' (by simp)
              have hru := S2.ru
              rw [List.map_append] at hru
              have hlast : atI ((rs'.map fun c => V.ref c.o) ++ [V.ref c'.o]) (-1) = some (.ref c'.o) := atI_last _ _
              refine ⟨_, SqL.of hru, .ref c'.o, hlast, c'.o, rfl, _, SqL.of ho, .ref c'.l, at0, uc.length, .inl ⟨_, SqL.of hl, rfl⟩, ?_⟩
              have j1 := Same.refl H2
              have S3 := S2.go j1
              split
              · refine ⟨_, SqL.of (j1 _ _ hru), .ref c'.o, hlast, c'.o, rfl, _, SqL.of (j1 _ _ ho), .ref c'.l, at0, .inl ⟨rfl, _, SqL.of (j1 _ _ hl)⟩, small (by simp), fun p6 hp6 => ?_⟩
                have j2 := same_new hp6 (.tup [.int other, .int one])
                have z2 : upd H2 p6 (.tup [.int other, .int one]) p6 = some (.tup [.int other, .int one]) := upd_same
                generalize upd H2 p6 (.tup [.int other, .int one]) = J3 at j2 z2 ⊢
                have hl3 := (j1.trans j2) _ _ hl
                exact ⟨c'.l, rfl, uc, hl3, Nat.lt_of_le_of_lt (m := 100000) (by omega) (by decide), us, rows, _, (S3.go j2).premPut (q := (other, one)) hl3 z2, _, rfl⟩
              · exact ⟨us, rows, _, S3.up, _, rfl⟩
            · exact ⟨us, rows, rs, S2.up, _, rfl⟩
          simp only [tSeq, tFor_eq, tLC_eq, iRng1, iRng2, iList, iTup, iStr, tIfS, tRet, tRetN, tNext, tAsg, gName, tVar, tC, tOp, rI0, rI, tTest, tB, rEq, rNe, tCall, tCons, tNil, tCB, tLst, tTup, tAnd, tOr, tNot, tAndV, tOrV, tNotV, tIf, tDrop, tSl, tPart, tNoPart, tChain, tUn, rU, L2.start, cx_K, bk_K, cx_calm, bk_calm, lenV_str, and_assoc, Option.join, List.length_map, List.length_append, decide_eq_true_eq, Bool.false_eq_true, if_false, if_true, Bool.not_true, Bool.not_false, Bool.not_eq_true', decide_eq_false_iff_not, Bool.true_eq_false, List.length_cons, List.length_nil, List.map_cons, List.map_nil, List.replicate, List.cons_append, List.nil_append, List.append_nil, List.getElem?_cons_zero, List.getElem?_cons_succ, List.set_cons_zero, List.set_cons_succ, Nat.reduceSub, Nat.reduceAdd, Option.some.injEq, V.int.injEq, V.str.injEq, V.bl.injEq, V.ref.injEq, List.cons.injEq, and_true, true_and, exists_eq_left', exists_eq_left, exists_and_left, exists_eq_right, exists_const, tBM, tBM0, rAppend, rPop, rIxL, rIxT, rIxS, rSlL, rSlT, rSlS, rCat, rCatT, tKGet, cx_w, bk_w, tDGet, tDisp, tPairs, tDNewK, cx_P]
          refine ⟨_, .inl ⟨_, SqL.of S2.ru, rfl⟩, ?_⟩
          split
          · refine ⟨⟨by decide, by decide⟩, by decide, rfl, ?_⟩
            split
            · refine hT2 H2 ?_
              simp only [tSeq, tFor_eq, tLC_eq, iRng1, iRng2, iList, iTup, iStr, tIfS, tRet, tRetN, tNext, tAsg, gName, tVar, tC, tOp, rI0, rI, tTest, tB, rEq, rNe, tCall, tCons, tNil, tCB, tLst, tTup, tAnd, tOr, tNot, tAndV, tOrV, tNotV, tIf, tDrop, tSl, tPart, tNoPart, tChain, tUn, rU, L2.start, cx_K, bk_K, cx_calm, bk_calm, lenV_str, and_assoc, Option.join, List.length_map, List.length_append, decide_eq_true_eq, Bool.false_eq_true, if_false, if_true, Bool.not_true, Bool.not_false, Bool.not_eq_true', decide_eq_false_iff_not, Bool.true_eq_false, List.length_cons, List.length_nil, List.map_cons, List.map_nil, List.replicate, List.cons_append, List.nil_append, List.append_nil, List.getElem?_cons_zero, List.getElem?_cons_succ, List.set_cons_zero, List.set_cons_succ, Nat.reduceSub, Nat.reduceAdd, Option.some.injEq, V.int.injEq, V.str.injEq, V.bl.injEq, V.ref.injEq, List.cons.injEq, and_true, true_and, exists_eq_left', exists_eq_left, exists_and_left, exists_eq_right, exists_const, tBM, tBM0, rAppend, rPop, rIxL, rIxT, rIxS, rSlL, rSlT, rSlS, rCat, rCatT, tKGet, cx_w, bk_w, tDGet, tDisp, tPairs, tDNewK, cx_P]
              refine ⟨.inl ⟨rfl, _, SqL.of S2.ru⟩, Nat.zero_le _, fun pl hpl => ?_⟩
              have j1 := same_new hpl (.lst [])
              have z1 : upd H2 pl (.lst []) pl = some (.lst []) := upd_same
              generalize upd H2 pl (.lst []) = J2 at j1 z1 ⊢
              refine ⟨small (by simp), fun pt hpt => ?_⟩
              have j2 := same_new hpt (.tup [.int one, .int other])
              have z2 : upd J2 pt (.tup [.int one, .int other]) pt = some (.tup [.int one, .int other]) := upd_same
              generalize upd J2 pt (.tup [.int one, .int other]) = J3 at j2 z2 ⊢
              refine ⟨small (by simp), fun po hpo => ?_⟩
              have j3 := same_new hpo (.lst [.ref pl, .ref pt])
              have z3 : upd J3 po (.lst [.ref pl, .ref pt]) po = some (.lst [.ref pl, .ref pt]) := upd_same
              have npo : H2 po = none := (j1.trans j2).free hpo
              have nol : po ≠ pl := (ne_of_none (j2 _ _ z1) hpo).symm
              generalize upd J3 po (.lst [.ref pl, .ref pt]) = J4 at j3 z3 ⊢
              have j := (j1.trans j2).trans j3
              have hsl := S.s1
              refine ⟨_, j _ _ S2.ru, Nat.lt_of_le_of_lt (m := 100000) (by rw [List.length_map]; omega) (by decide), us, rows, _, S2.rulePut (q := (one, other)) j npo hpl nol z3 ((j2.trans j3) _ _ z1) (j3 _ _ z2), _, rfl⟩
            · exact hU2'
          · exact hU2'
        simp only [tSeq, tFor_eq, tLC_eq, iRng1, iRng2, iList, iTup, iStr, tIfS, tRet, tRetN, tNext, tAsg, gName, tVar, tC, tOp, rI0, rI, tTest, tB, rEq, rNe, tCall, tCons, tNil, tCB, tLst, tTup, tAnd, tOr, tNot, tAndV, tOrV, tNotV, tIf, tDrop, tSl, tPart, tNoPart, tChain, tUn, rU, L2.start, cx_K, bk_K, cx_calm, bk_calm, lenV_str, and_assoc, Option.join, List.length_map, List.length_append, decide_eq_true_eq, Bool.false_eq_true, if_false, if_true, Bool.not_true, Bool.not_false, Bool.not_eq_true', decide_eq_false_iff_not, Bool.true_eq_false, List.length_cons, List.length_nil, List.map_cons, List.map_nil, List.replicate, List.cons_append, List.nil_append, List.append_nil, List.getElem?_cons_zero, List.getElem?_cons_succ, List.set_cons_zero, List.set_cons_succ, Nat.reduceSub, Nat.reduceAdd, Option.some.injEq, V.int.injEq, V.str.injEq, V.bl.injEq, V.ref.injEq, List.cons.injEq, and_true, true_and, exists_eq_left', exists_eq_left, exists_and_left, exists_eq_right, exists_const, tBM, tBM0, rAppend, rPop, rIxL, rIxT, rIxS, rSlL, rSlT, rSlS, rCat, rCatT, tKGet, cx_w, bk_w, tDGet, tDisp, tPairs, tDNewK, cx_P]
        refine ⟨by decide, ?_⟩
        split
        · refine ⟨_, .inl ⟨_, SqL.of S2.rw, rfl⟩, ?_⟩
          split
          · refine ⟨2, dRw r, rows.map dRw, hrv, .inl ⟨ra, _, rfl, S2.rw, S2.rws⟩, fun d hd => ?_, by decide, _, rfl, ?_⟩
            · obtain ⟨z, _, rfl⟩ := List.mem_map.mp hd
              exact fit_rw 1 z
            · split
              · refine hT H2 ?_
                simp only [tSeq, tFor_eq, tLC_eq, iRng1, iRng2, iList, iTup, iStr, tIfS, tRet, tRetN, tNext, tAsg, gName, tVar, tC, tOp, rI0, rI, tTest, tB, rEq, rNe, tCall, tCons, tNil, tCB, tLst, tTup, tAnd, tOr, tNot, tAndV, tOrV, tNotV, tIf, tDrop, tSl, tPart, tNoPart, tChain, tUn, rU, L2.start, cx_K, bk_K, cx_calm, bk_calm, lenV_str, and_assoc, Option.join, List.length_map, List.length_append, decide_eq_true_eq, Bool.false_eq_true, if_false, if_true, Bool.not_true, Bool.not_false, Bool.not_eq_true', decide_eq_false_iff_not, Bool.true_eq_false, List.length_cons, List.length_nil, List.map_cons, List.map_nil, List.replicate, List.cons_append, List.nil_append, List.append_nil, List.getElem?_cons_zero, List.getElem?_cons_succ, List.set_cons_zero, List.set_cons_succ, Nat.reduceSub, Nat.reduceAdd, Option.some.injEq, V.int.injEq, V.str.injEq, V.bl.injEq, V.ref.injEq, List.cons.injEq, and_true, true_and, exists_eq_left', exists_eq_left, exists_and_left, exists_eq_right, exists_const, tBM, tBM0, rAppend, rPop, rIxL, rIxT, rIxS, rSlL, rSlT, rSlS, rCat, rCatT, tKGet, cx_w, bk_w, tDGet, tDisp, tPairs, tDNewK, cx_P]
                have hrl := S.r2
                exact ⟨.inl ⟨rfl, _, SqL.of S2.rw⟩, _, S2.rw, Nat.lt_of_le_of_lt (m := 100000) (by omega) (by decide), _, _, _, S2.rowPut hrv, _, rfl⟩
              · exact hU'
          · exact hU'
        · exact hU'
    · obtain ⟨us, rows, rs, o1, o2, o3, o4, o5, o6, S, rfl⟩ := h
      rw [List.length_map] at S
      exact hN _ _ ⟨_, _, _, us, rows, rs, _, _, _, _, _, _, by omega, S, rfl⟩
  · obtain ⟨pc, zs, ii, us, rows, rs, o1, o2, o3, o4, o5, o6, hii, S, rfl⟩ := h
    simp only [tSeq, tFor_eq, tLC_eq, iRng1, iRng2, iList, iTup, iStr, tIfS, tRet, tRetN, tNext, tAsg, gName, tVar, tC, tOp, rI0, rI, tTest, tB, rEq, rNe, tCall, tCons, tNil, tCB, tLst, tTup, tAnd, tOr, tNot, tAndV, tOrV, tNotV, tIf, tDrop, tSl, tPart, tNoPart, tChain, tUn, rU, L2.start, cx_K, bk_K, cx_calm, bk_calm, lenV_str, and_assoc, Option.join, List.length_map, List.length_append, decide_eq_true_eq, Bool.false_eq_true, if_false, if_true, Bool.not_true, Bool.not_false, Bool.not_eq_true', decide_eq_false_iff_not, Bool.true_eq_false, List.length_cons, List.length_nil, List.map_cons, List.map_nil, List.replicate, List.cons_append, List.nil_append, List.append_nil, List.getElem?_cons_zero, List.getElem?_cons_succ, List.set_cons_zero, List.set_cons_succ, Nat.reduceSub, Nat.reduceAdd, Option.some.injEq, V.int.injEq, V.str.injEq, V.bl.injEq, V.ref.injEq, List.cons.injEq, and_true, true_and, exists_eq_left', exists_eq_left, exists_and_left, exists_eq_right, exists_const, tBM, tBM0, rAppend, rPop, rIxL, rIxT, rIxS, rSlL, rSlT, rSlS, rCat, rCatT, tKGet, cx_w, bk_w, tDGet, tDisp, tPairs, tDNewK, cx_P]
    have hrl := S.s1
    have hr2 := S.r2
    refine ⟨⟨_, SqL.of S.ru⟩, ?_⟩
    refine lc_list (xs := rs.map fun c => V.ref c.o) (fun i ys σ H2 => Same H' H2 ∧ DAts H2 ((rs.take i).map fun c => dNR (c.ps, c.q)) ys ∧ ∃ o, σ = [o]) ⟨Same.refl _, rfl, _, rfl⟩ (small (by rw [List.length_map]; omega)) (fun i ys σ H2 e => ?_) (fun i ys σ H2 e => SqL.of (e.1 _ _ S.ru)) (fun i x ys σ H2 C hx e hC => ?_) (fun ys σ H2 e p3 hp3 => ?_)
    · have := DAts.length e.2.1
      rw [List.length_map, List.length_take] at this
      omega
    · obtain ⟨es, hys, o, rfl⟩ := e
      rw [List.getElem?_map] at hx
      cases hci : rs[i]? with
      | none => rw [hci] at hx; cases hx
      | some c =>
        rw [hci] at hx
        cases hx
        obtain ⟨ho, ⟨uc, hl, hps⟩, ht⟩ := (S.ok c (List.mem_of_getElem? hci)).same es
        simp only [tSeq, tFor_eq, tLC_eq, iRng1, iRng2, iList, iTup, iStr, tIfS, tRet, tRetN, tNext, tAsg, gName, tVar, tC, tOp, rI0, rI, tTest, tB, rEq, rNe, tCall, tCons, tNil, tCB, tLst, tTup, tAnd, tOr, tNot, tAndV, tOrV, tNotV, tIf, tDrop, tSl, tPart, tNoPart, tChain, tUn, rU, L2.start, cx_K, bk_K, cx_calm, bk_calm, lenV_str, and_assoc, Option.join, List.length_map, List.length_append, decide_eq_true_eq, Bool.false_eq_true, if_false, if_true, Bool.not_true, Bool.not_false, Bool.not_eq_true', decide_eq_false_iff_not, Bool.true_eq_false, List.length_cons, List.length_nil, List.map_cons, List.map_nil, List.replicate, List.cons_append, List.nil_append, List.append_nil, List.getElem?_cons_zero, List.getElem?_cons_succ, List.set_cons_zero, List.set_cons_succ, Nat.reduceSub, Nat.reduceAdd, Option.some.injEq, V.int.injEq, V.str.injEq, V.bl.injEq, V.ref.injEq, List.cons.injEq, and_true, true_and, exists_eq_left', exists_eq_left, exists_and_left, exists_eq_right, exists_const, tBM, tBM0, rAppend, rPop, rIxL, rIxT, rIxS, rSlL, rSlT, rSlS, rCat, rCatT, tKGet, cx_w, bk_w, tDGet, tDisp, tPairs, tDNewK, cx_P]
        refine ⟨_, SqL.of ho, _, at0, _, SqL.of ho, _, at1, small (by simp), fun p hp => hC _ _ _ ?_⟩
        have g := same_new hp (.tup [.ref c.l, .ref c.t])
        refine ⟨es.trans g, mapSnoc (f := fun c : RC => dNR (c.ps, c.q)) hci (DAts.same g hys) ?_, _, rfl⟩
        exact ⟨p, _, rfl, upd_same, _, _, rfl, ⟨c.l, _, rfl, g _ _ hl, DAts.same g hps⟩, _, _, rfl, ⟨c.t, _, rfl, g _ _ ht, _, _, rfl, rfl, _, _, rfl, rfl, rfl⟩, rfl⟩
    · obtain ⟨es, hys, o, rfl⟩ := e
      rw [List.length_map, List.take_of_length_le (Nat.le_refl _)] at hys
      have g3 := same_new hp3 (.lst ys)
      have z3 : upd H2 p3 (.lst ys) p3 = some (.lst ys) := upd_same
      generalize upd H2 p3 (.lst ys) = H3' at g3 z3 ⊢
      refine ⟨small (by simp), fun p4 hp4 => ?_⟩
      have g4 := same_new hp4 (.tup [.ref ra, .ref p3])
      have gg := (es.trans g3).trans g4
      refine q p4 ra p3 us ys rows (rs.map fun c => (c.ps, c.q)) _ (S.same.trans gg) upd_same (gg _ _ S.rw) (DAts.same gg S.rws) (g4 _ _ z3) ?_ S.r1 (by omega) (by rw [List.length_map]; omega) fun r hr => ?_
      · rw [List.map_map]
        exact DAts.same (g3.trans g4) hys
      · obtain ⟨c, hc, rfl⟩ := List.mem_map.mp hr
        have := S.s2 c hc
        show c.ps.length ≤ 100
        omega
end
end C
set_option Elab.async false
set_option linter.all false
set_option maxRecDepth 100000
set_option maxHeartbeats 8000000
namespace C
open PySem L2
seal PE PT PW PA PS PSs PG PGs PI PPs PO PSet PIf
abbrev s_law_plain_line : Stmt := top 14
theorem sc_law_plain_line : FnScope ["rows", "way", "a", "n", "row"] ["rows", "way", "a"] (defScope s_law_plain_line) := ⟨rfl, rfl, rfl, by decide +kernel, rfl, by decide +kernel, by decide +kernel⟩
abbrev s_law_both_line : Stmt := top 12
theorem sc_law_both_line : FnScope ["rows", "lines", "a", "boths", "k", "left", "p", "right"] ["rows", "lines", "a"] (defScope s_law_both_line) := ⟨rfl, rfl, rfl, by decide +kernel, rfl, by decide +kernel, by decide +kernel⟩
abbrev s_law_rule_line : Stmt := top 13
theorem sc_law_rule_line : FnScope ["rules", "lines", "a", "r", "pairs", "places", "one"] ["rules", "lines", "a"] (defScope s_law_rule_line) := ⟨rfl, rfl, rfl, by decide +kernel, rfl, by decide +kernel, by decide +kernel⟩
abbrev s_law_next_line : Stmt := top 15
theorem sc_law_next_line : FnScope ["rows", "rules", "lines", "way", "a", "p", "i", "j", "some", "q"] ["rows", "rules", "lines", "way", "a"] (defScope s_law_next_line) := ⟨rfl, rfl, rfl, by decide +kernel, rfl, by decide +kernel, by decide +kernel⟩
def GW (x : Str) (as : List Wt) : Prop := (x ≠ "rule" ∧ ∃ ns : List Int, as = ns.map .n ∧ ns.length ≤ 2) ∨ (x = "rule" ∧ ∃ r ps, as = [.n r, .ps ps] ∧ ps.length ≤ 100)
def OW (as : List Wt) : Prop := as.length ≤ 3 ∧ ∀ ps, Wt.ps ps ∈ as → ps.length ≤ 300
theorem GW.ow {x : Str} {as : List Wt} (h : GW x as) : OW as := by
  rcases h with ⟨_, ns, rfl, h⟩ | ⟨_, r, ps, rfl, h⟩
  · refine ⟨by rw [List.length_map]; omega, fun ps hp => ?_⟩
    obtain ⟨n, _, e⟩ := List.mem_map.mp hp
    cases e
  · refine ⟨by simp, fun ps' hp => ?_⟩
    simp only [List.mem_cons, List.not_mem_nil, or_false] at hp
    rcases hp with e | e
    · cases e
    · cases e; omega
theorem whyAt {H : Hp} {x : Str} {as : List Wt} {v : V} (h : DAt H (dWhy x as) v) : ∃ a us, v = .ref a ∧ H a = some (.tup (.str x :: us)) ∧ WtAts H as us := by
  obtain ⟨a, vs, e1, e2, u, r, e3, h1, h2⟩ := h
  have h1 : u = .str x := h1
  subst h1 e3
  exact ⟨a, r, e1, e2, h2⟩
theorem nsAt {H : Hp} : ∀ {ns : List Int} {us : List V}, WtAts H (ns.map .n) us → us = ns.map V.int
  | [], us, h => h
  | n :: ns, us, h => by
    obtain ⟨v, r, e1, e2, e3⟩ := h
    have e2 : v = .int n := e2
    rw [e1, e2, nsAt e3]
    rfl
theorem atNs (H : Hp) : ∀ ns : List Int, WtAts H (ns.map .n) (ns.map V.int)
  | [] => rfl
  | n :: ns => ⟨_, _, rfl, rfl, atNs H ns⟩
theorem owN {ns : List Int} (h : ns.length ≤ 3) : OW (ns.map .n) := ⟨by rw [List.length_map]; exact h, fun ps hp => by
  obtain ⟨n, _, e⟩ := List.mem_map.mp hp
  cases e⟩
theorem psAt {H : Hp} {ps : List Int} {v : V} (h : DAt H (dWt (.ps ps)) v) : ∃ a, v = .ref a ∧ H a = some (.tup (ps.map V.int)) := by
  obtain ⟨a, us, e1, e2, e3⟩ := h
  have go : ∀ {ps : List Int} {us : List V}, DAts H (ps.map Dt.int) us → us = ps.map V.int := fun {ps} => by
    induction ps with
    | nil => exact fun h => h
    | cons n ns ih =>
      intro us h
      obtain ⟨v, r, e1, e2, e3⟩ := h
      have e2 : v = .int n := e2
      rw [e1, e2, ih e3]
      rfl
  rw [go e3] at e2
  exact ⟨a, e1, e2⟩
theorem atPs {H : Hp} {a : Addr} {ps : List Int} (h : H a = some (.tup (ps.map V.int))) : DAt H (dWt (.ps ps)) (.ref a) := by
  refine ⟨a, _, rfl, h, ?_⟩
  clear h
  induction ps with
  | nil => rfl
  | cons n ns ih => exact ⟨_, _, rfl, rfl, ih⟩
theorem lnAt {H : Hp} {l : Ln} {v : V} (h : DAt H (dLn l) v) : ∃ a u, v = .ref a ∧ H a = some (.tup [.int l.i, .int l.j, u]) ∧ DAt H (dWhy l.w l.as) u := by
  obtain ⟨a, vs, e1, e2, u1, r1, rfl, d1, u2, r2, rfl, d2, u3, r3, rfl, d3, d4⟩ := h
  have d1 : u1 = .int l.i := d1
  have d2 : u2 = .int l.j := d2
  have d4 : r3 = [] := d4
  subst d1 d2 d4
  exact ⟨a, u3, e1, e2, d3⟩
theorem atLn {H : Hp} {i j : Int} {x : Str} {as : List Wt} {a : Addr} {u : V} (h : H a = some (.tup [.int i, .int j, u])) (hu : DAt H (dWhy x as) u) : DAt H (dLn ⟨i, j, x, as⟩) (.ref a) :=
  ⟨a, _, rfl, h, _, _, rfl, rfl, _, _, rfl, rfl, _, _, rfl, hu, rfl⟩
theorem wts_tups {H H' : Hp} (e : TupSame H H') : ∀ {as : List Wt} {us : List V}, WtAts H as us → WtAts H' as us
  | [], us, h => h
  | .n i :: as, us, h => by
    obtain ⟨v, r, e1, e2, e3⟩ := h
    exact ⟨v, r, e1, e2, wts_tups e e3⟩
  | .ps l :: as, us, h => by
    obtain ⟨v, r, e1, e2, e3⟩ := h
    obtain ⟨a, rfl, g2⟩ := psAt e2
    exact ⟨_, r, e1, atPs (e _ _ g2), wts_tups e e3⟩
theorem ln_tups {H H' : Hp} (e : TupSame H H') {l : Ln} {v : V} (h : DAt H (dLn l) v) : DAt H' (dLn l) v := by
  obtain ⟨a, u, rfl, h1, h2⟩ := lnAt h
  obtain ⟨b, us, rfl, h3, h4⟩ := whyAt h2
  exact atLn (e _ _ h1) ⟨b, _, rfl, e _ _ h3, _, _, rfl, rfl, wts_tups e h4⟩
theorem lns_tups {H H' : Hp} (e : TupSame H H') : ∀ {ls : List Ln} {us : List V}, LnAts H ls us → LnAts H' ls us
  | [], us, h => h
  | l :: ls, us, h => by
    obtain ⟨v, r, e1, e2, e3⟩ := h
    exact ⟨v, r, e1, ln_tups e e2, lns_tups e e3⟩
theorem gwN (x : Str) (h : x ≠ "rule") (ns : List Int) (hn : ns.length ≤ 2) : GW x (ns.map .n) := .inl ⟨h, ns, rfl, hn⟩
def plc (x : Str) (as : List Wt) : List Int := if x = "rule" then (match as with | [_, .ps ps] => ps | _ => []) else as.filterMap fun a => match a with | .n i => some i | .ps _ => none
def GL (n : Nat) (x : Str) (as : List Wt) : Prop := GW x as ∧ ∀ p ∈ plc x as, 0 ≤ p ∧ p < (n : Int)
theorem plcN {x : Str} (h : x ≠ "rule") (ns : List Int) : plc x (ns.map .n) = ns := by
  unfold plc
  rw [if_neg h, List.filterMap_map]
  induction ns with
  | nil => rfl
  | cons n ns ih => simp [ih]
theorem plcR (r : Wt) (ps : List Int) : plc "rule" [r, .ps ps] = ps := by
  unfold plc
  rw [if_pos rfl]
theorem glN (n : Nat) (x : Str) (h : x ≠ "rule") (ns : List Int) (hn : ns.length ≤ 2) (hp : ∀ p ∈ ns, 0 ≤ p ∧ p < (n : Int)) : GL n x (ns.map .n) := ⟨gwN x h ns hn, by rw [plcN h]; exact hp⟩
theorem glR (n : Nat) (r : Int) (ps : List Int) (hl : ps.length ≤ 100) (hp : ∀ p ∈ ps, 0 ≤ p ∧ p < (n : Int)) : GL n "rule" [.n r, .ps ps] := ⟨.inr ⟨rfl, r, ps, rfl, hl⟩, by rw [plcR]; exact hp⟩
theorem gl1 {p n : Nat} (h : p < n) : ∀ z ∈ [(p : Int)], 0 ≤ z ∧ z < (n : Int) := fun z hz => by
  rw [List.mem_singleton.mp hz]
  omega
theorem gl2 {p q n : Nat} (h : p < n) (h' : q < n) : ∀ z ∈ [(p : Int), (q : Int)], 0 ≤ z ∧ z < (n : Int) := fun z hz => by
  simp only [List.mem_cons, List.not_mem_nil, or_false] at hz
  rcases hz with rfl | rfl <;> omega
def spPl : Sp := fun vs H Q _ => ∃ (ra : Addr) (us : List V) (rows : List Rw) (way a : Int), vs = [.ref ra, .int way, .int a] ∧ H ra = some (.lst us) ∧ RwAts H rows us ∧ 1 ≤ rows.length ∧ rows.length ≤ 100 ∧ ∀ v l H', Same H H' → DAt H' (dLn l) v → (∀ n, GL n l.w l.as) → Q v H'
theorem ret1 {G : Str → List Wt → Prop} {H : Hp} {Q : VK} (q : ∀ v l H', Same H H' → DAt H' (dLn l) v → G l.w l.as → Q v H') {H1 : Hp} (s1 : Same H H1) {i j : Int} {x : Str} {us : List V} {as : List Wt} (hu : WtAts H1 as us) (g : G x as) :
    ∀ a, H1 a = none → 3 ≤ sizeLine ∧ ∀ b, upd H1 a (.tup (.str x :: us)) b = none → Q (.ref b) (upd (upd H1 a (.tup (.str x :: us))) b (.tup [.int i, .int j, .ref a])) := fun a ha => by
  refine ⟨small (by simp), fun b hb => ?_⟩
  have s2 := same_new ha (.tup (.str x :: us))
  have s3 := same_new hb (.tup [.int i, .int j, .ref a])
  exact q _ ⟨i, j, x, as⟩ _ (s1.trans (s2.trans s3)) (atLn upd_same ⟨a, _, rfl, s3 _ _ upd_same, _, _, rfl, rfl, DAts.same (s2.trans s3) hu⟩) g
theorem mkL {H : Hp} (i j : Int) (x : Str) {a b : Addr} (ha : H a = none) (hb : upd H a (.tup [.str x]) b = none) :
    Same H (upd (upd H a (.tup [.str x])) b (.tup [.int i, .int j, .ref a])) ∧ DAt (upd (upd H a (.tup [.str x])) b (.tup [.int i, .int j, .ref a])) (dLn ⟨i, j, x, []⟩) (.ref b) := by
  have s1 := same_new ha (.tup [.str x])
  have s2 := same_new hb (.tup [.int i, .int j, .ref a])
  exact ⟨s1.trans s2, atLn upd_same ⟨a, _, rfl, s2 _ _ upd_same, _, _, rfl, rfl, rfl⟩⟩
theorem gwE : ∀ n, GL n "edge" [] := fun n => glN n "edge" (by decide) [] (by simp) (fun p z => by cases z)
theorem gwP : ∀ n, GL n "part" [] := fun n => glN n "part" (by decide) [] (by simp) (fun p z => by cases z)
theorem gwS : ∀ n, GL n "same" [] := fun n => glN n "same" (by decide) [] (by simp) (fun p z => by cases z)
section
variable {P : Program} {w : World} {K : PySem.W.Frag} {mg : Str → Option Value} {base : Heap} {f : Addr} {fd : FuncData}
theorem ok_plain_line (bi : Bi mg) (F : Fun K "_law_plain_line" "_law_plain_line" s_law_plain_line f fd) : FnOk P w K mg base CX0 1 f fd ["rows", "way", "a"] spPl := by
  refine F.ok sc_law_plain_line (fun vs H Q E h => ?_) (fun cdv A outer s H vs Q E hr h => ?_)
  · obtain ⟨ra, us, rows, way, a, rfl, _⟩ := h
    rfl
  obtain ⟨ra, us, rows, way, a, rfl, hra, hrw, h1, h100, q⟩ := h
  have hul := mapLen hrw
  refine ⟨_, (pss_cons (ps_set (i := 3) sc_law_plain_line.nd rfl (Or.inl rfl) (pe_op op_mod (pv 2) (pe_op op_mul pe_int (pe_callB call_len rfl bi.len bt_len (pa_cons (pv 0) pa_nil))))) (pss_cons (ps_if (pt_cmpR op_eq (pv 1) pe_int (nomark _)) (pss_one (ps_ret (pe_tup (pa_cons (pv 3) (pa_cons (pv 3) (pa_cons (pe_tup (pa_cons pe_str pa_nil)) pa_nil)))))) pss_nil) (pss_cons (ps_if (pt_cmpR op_eq (pv 1) pe_int (nomark _)) (pss_one (ps_ret (pe_ix ix_list (pe_lst (pa_cons (pe_tup (pa_cons pe_int (pa_cons (pv 3) (pa_cons (pe_tup (pa_cons pe_str pa_nil)) pa_nil)))) (pa_cons (pe_tup (pa_cons (pv 3) (pa_cons pe_int (pa_cons (pe_tup (pa_cons pe_str pa_nil)) pa_nil)))) pa_nil))) (pe_op op_mod (pe_op op_fdiv (pv 2) pe_int) pe_int) (fun _ _ => rfl)))) pss_nil) (pss_cons (ps_set (i := 4) sc_law_plain_line.nd rfl (Or.inl rfl) (pe_ix ix_list (pv 0) (pe_op op_fdiv (pv 3) pe_int) (fun _ _ => rfl))) (pss_cons (ps_if (pt_cmpR op_ne (pe_ix ix_tup (pv 4) pe_int (fun _ _ => rfl)) pe_str (nomark _)) (pss_one (ps_ret (pe_tup (pa_cons (pv 3) (pa_cons pe_int (pa_cons (pe_tup (pa_cons pe_str pa_nil)) pa_nil)))))) pss_nil) (pss_one (ps_ret (pe_tup (pa_cons (pe_op op_mul (pe_op op_fdiv (pv 3) pe_int) pe_int) (pa_cons (pe_ix ix_tup (pv 4) (pe_op op_add pe_int (pe_op op_mod (pe_op op_fdiv (pv 2) pe_int) pe_int)) (fun _ _ => rfl)) (pa_cons (pe_tup (pa_cons pe_str pa_nil)) pa_nil))))))))))), ?_⟩
  refine seq_abs fun N hN => ?_
  simp only [tSeq, tFor_eq, tLC_eq, iRng1, iRng2, iList, iTup, iStr, tIfS, tRet, tRetN, tNext, tAsg, gName, tVar, tC, tOp, rI0, rI, tTest, tB, rEq, rNe, tCall, tCons, tNil, tCB, tLst, tTup, tAnd, tOr, tNot, tAndV, tOrV, tNotV, tIf, tDrop, tSl, tPart, tNoPart, tChain, tUn, rU, L2.start, cx_K, bk_K, cx_calm, bk_calm, lenV_str, and_assoc, Option.join, List.length_map, List.length_append, decide_eq_true_eq, Bool.false_eq_true, if_false, if_true, Bool.not_true, Bool.not_false, Bool.not_eq_true', decide_eq_false_iff_not, Bool.true_eq_false, List.length_cons, List.length_nil, List.map_cons, List.map_nil, List.replicate, List.cons_append, List.nil_append, List.append_nil, List.getElem?_cons_zero, List.getElem?_cons_succ, List.set_cons_zero, List.set_cons_succ, Nat.reduceSub, Nat.reduceAdd, Option.some.injEq, V.int.injEq, V.str.injEq, V.bl.injEq, V.ref.injEq, List.cons.injEq, and_true, true_and, exists_eq_left', exists_eq_left, exists_and_left, exists_eq_right, exists_const, tBM, tBM0, rAppend, rPop, rIxL, rIxT, rIxS, rSlL, rSlT, rSlS, rCat, rCatT, tKGet, cx_w, bk_w, tDGet, tDisp, tPairs, tDNewK, cx_P]
  refine ⟨_, .inl ⟨_, SqL.of hra, rfl⟩, .inl ⟨by decide, by decide⟩, by omega, hN _ _ ?_⟩
  have hn := Int.emod_nonneg a (b := 2 * (us.length : Int)) (by omega)
  have hn2 := Int.emod_lt_of_pos a (b := 2 * (us.length : Int)) (by omega)
  generalize a % (2 * (us.length : Int)) = n at hn hn2
  have sm3 : 3 ≤ sizeLine := small (by simp)
  have sm1 : 1 ≤ sizeLine := small (by simp)
  refine seq_abs fun N hN => ?_
  simp only [tSeq, tFor_eq, tLC_eq, iRng1, iRng2, iList, iTup, iStr, tIfS, tRet, tRetN, tNext, tAsg, gName, tVar, tC, tOp, rI0, rI, tTest, tB, rEq, rNe, tCall, tCons, tNil, tCB, tLst, tTup, tAnd, tOr, tNot, tAndV, tOrV, tNotV, tIf, tDrop, tSl, tPart, tNoPart, tChain, tUn, rU, L2.start, cx_K, bk_K, cx_calm, bk_calm, lenV_str, and_assoc, Option.join, List.length_map, List.length_append, decide_eq_true_eq, Bool.false_eq_true, if_false, if_true, Bool.not_true, Bool.not_false, Bool.not_eq_true', decide_eq_false_iff_not, Bool.true_eq_false, List.length_cons, List.length_nil, List.map_cons, List.map_nil, List.replicate, List.cons_append, List.nil_append, List.append_nil, List.getElem?_cons_zero, List.getElem?_cons_succ, List.set_cons_zero, List.set_cons_succ, Nat.reduceSub, Nat.reduceAdd, Option.some.injEq, V.int.injEq, V.str.injEq, V.bl.injEq, V.ref.injEq, List.cons.injEq, and_true, true_and, exists_eq_left', exists_eq_left, exists_and_left, exists_eq_right, exists_const, tBM, tBM0, rAppend, rPop, rIxL, rIxT, rIxS, rSlL, rSlT, rSlS, rCat, rCatT, tKGet, cx_w, bk_w, tDGet, tDisp, tPairs, tDNewK, cx_P]
  refine ⟨rfl, ?_⟩
  by_cases w0 : way = 0
  · rw [if_pos w0]
    exact ⟨sm1, ret1 (G := fun x as => ∀ n, GL n x as) q (Same.refl H) (as := []) rfl gwS⟩
  rw [if_neg w0]
  refine hN _ _ ?_
  refine seq_abs fun N hN => ?_
  simp only [tSeq, tFor_eq, tLC_eq, iRng1, iRng2, iList, iTup, iStr, tIfS, tRet, tRetN, tNext, tAsg, gName, tVar, tC, tOp, rI0, rI, tTest, tB, rEq, rNe, tCall, tCons, tNil, tCB, tLst, tTup, tAnd, tOr, tNot, tAndV, tOrV, tNotV, tIf, tDrop, tSl, tPart, tNoPart, tChain, tUn, rU, L2.start, cx_K, bk_K, cx_calm, bk_calm, lenV_str, and_assoc, Option.join, List.length_map, List.length_append, decide_eq_true_eq, Bool.false_eq_true, if_false, if_true, Bool.not_true, Bool.not_false, Bool.not_eq_true', decide_eq_false_iff_not, Bool.true_eq_false, List.length_cons, List.length_nil, List.map_cons, List.map_nil, List.replicate, List.cons_append, List.nil_append, List.append_nil, List.getElem?_cons_zero, List.getElem?_cons_succ, List.set_cons_zero, List.set_cons_succ, Nat.reduceSub, Nat.reduceAdd, Option.some.injEq, V.int.injEq, V.str.injEq, V.bl.injEq, V.ref.injEq, List.cons.injEq, and_true, true_and, exists_eq_left', exists_eq_left, exists_and_left, exists_eq_right, exists_const, tBM, tBM0, rAppend, rPop, rIxL, rIxT, rIxS, rSlL, rSlT, rSlS, rCat, rCatT, tKGet, cx_w, bk_w, tDGet, tDisp, tPairs, tDNewK, cx_P]
  refine ⟨rfl, ?_⟩
  by_cases w1 : way = 1
  · rw [if_pos w1]
    refine ⟨sm1, fun a1 b1 => ⟨sm3, fun a2 b2 => ?_⟩⟩
    obtain ⟨s2, d2⟩ := mkL 0 n "edge" b1 b2
    generalize upd (upd H a1 (.tup [.str "edge"])) a2 (.tup [.int 0, .int n, .ref a1]) = H2 at s2 d2 ⊢
    refine ⟨sm1, fun a3 b3 => ⟨sm3, fun a4 b4 => ?_⟩⟩
    obtain ⟨s3, d3⟩ := mkL n 1 "edge" b3 b4
    replace d2 := DAt.same s3 d2
    replace s3 := s2.trans s3
    generalize upd (upd H2 a3 (.tup [.str "edge"])) a4 (.tup [.int n, .int 1, .ref a3]) = H3 at s3 d2 d3 ⊢
    refine ⟨small (by simp), fun a5 b5 => ?_⟩
    have s5 := same_new b5 (.lst [.ref a2, .ref a4])
    refine ⟨⟨by decide, by decide⟩, by decide, _, SqL.of upd_same, ?_⟩
    rcases (by omega : a / 97 % 2 = 0 ∨ a / 97 % 2 = 1) with e | e <;> rw [e]
    · exact ⟨_, at0, q _ _ _ (s3.trans s5) (DAt.same s5 d2) gwE⟩
    · exact ⟨_, at1, q _ _ _ (s3.trans s5) (DAt.same s5 d3) gwE⟩
  rw [if_neg w1]
  refine hN _ _ ?_
  refine seq_abs fun N hN => ?_
  simp only [tSeq, tFor_eq, tLC_eq, iRng1, iRng2, iList, iTup, iStr, tIfS, tRet, tRetN, tNext, tAsg, gName, tVar, tC, tOp, rI0, rI, tTest, tB, rEq, rNe, tCall, tCons, tNil, tCB, tLst, tTup, tAnd, tOr, tNot, tAndV, tOrV, tNotV, tIf, tDrop, tSl, tPart, tNoPart, tChain, tUn, rU, L2.start, cx_K, bk_K, cx_calm, bk_calm, lenV_str, and_assoc, Option.join, List.length_map, List.length_append, decide_eq_true_eq, Bool.false_eq_true, if_false, if_true, Bool.not_true, Bool.not_false, Bool.not_eq_true', decide_eq_false_iff_not, Bool.true_eq_false, List.length_cons, List.length_nil, List.map_cons, List.map_nil, List.replicate, List.cons_append, List.nil_append, List.append_nil, List.getElem?_cons_zero, List.getElem?_cons_succ, List.set_cons_zero, List.set_cons_succ, Nat.reduceSub, Nat.reduceAdd, Option.some.injEq, V.int.injEq, V.str.injEq, V.bl.injEq, V.ref.injEq, List.cons.injEq, and_true, true_and, exists_eq_left', exists_eq_left, exists_and_left, exists_eq_right, exists_const, tBM, tBM0, rAppend, rPop, rIxL, rIxT, rIxS, rSlL, rSlT, rSlS, rCat, rCatT, tKGet, cx_w, bk_w, tDGet, tDisp, tPairs, tDNewK, cx_P]
  have hi : (n / 2).toNat < us.length := by omega
  obtain ⟨r, hr1, hr2⟩ := mapGetV hrw (List.getElem?_eq_getElem hi)
  refine ⟨⟨by decide, by decide⟩, _, SqL.of hra, _, at_toNat (by omega) (List.getElem?_eq_getElem hi), hN _ _ ?_⟩
  obtain ⟨xa, x', vs, e1, hxa, hcase⟩ := RwAt.out hr2
  rw [e1]
  refine seq_abs fun N hN => ?_
  simp only [tSeq, tFor_eq, tLC_eq, iRng1, iRng2, iList, iTup, iStr, tIfS, tRet, tRetN, tNext, tAsg, gName, tVar, tC, tOp, rI0, rI, tTest, tB, rEq, rNe, tCall, tCons, tNil, tCB, tLst, tTup, tAnd, tOr, tNot, tAndV, tOrV, tNotV, tIf, tDrop, tSl, tPart, tNoPart, tChain, tUn, rU, L2.start, cx_K, bk_K, cx_calm, bk_calm, lenV_str, and_assoc, Option.join, List.length_map, List.length_append, decide_eq_true_eq, Bool.false_eq_true, if_false, if_true, Bool.not_true, Bool.not_false, Bool.not_eq_true', decide_eq_false_iff_not, Bool.true_eq_false, List.length_cons, List.length_nil, List.map_cons, List.map_nil, List.replicate, List.cons_append, List.nil_append, List.append_nil, List.getElem?_cons_zero, List.getElem?_cons_succ, List.set_cons_zero, List.set_cons_succ, Nat.reduceSub, Nat.reduceAdd, Option.some.injEq, V.int.injEq, V.str.injEq, V.bl.injEq, V.ref.injEq, List.cons.injEq, and_true, true_and, exists_eq_left', exists_eq_left, exists_and_left, exists_eq_right, exists_const, tBM, tBM0, rAppend, rPop, rIxL, rIxT, rIxS, rSlL, rSlT, rSlS, rCat, rCatT, tKGet, cx_w, bk_w, tDGet, tDisp, tPairs, tDNewK, cx_P]
  refine ⟨_, SqT.of hxa, _, at0, rfl, ?_⟩
  have two : ∀ x y c : Int, ∃ z : Int, atI [V.str "both", .int x, .int y] (1 + c % 2) = some (.int z) := fun x y c => by
    rcases (by omega : c % 2 = 0 ∨ c % 2 = 1) with e | e <;> rw [e]
    · exact ⟨x, at1⟩
    · exact ⟨y, atI_nat (j := 2) rfl⟩
  cases r with
  | no =>
    obtain ⟨rfl, rfl⟩ := hcase
    rw [if_pos (by intro z; exact absurd (V.str.inj z) (by decide +kernel))]
    exact ⟨sm1, ret1 (G := fun x as => ∀ n, GL n x as) q (Same.refl H) (as := []) rfl gwE⟩
  | nm y =>
    obtain ⟨rfl, rfl⟩ := hcase
    rw [if_pos (by intro z; exact absurd (V.str.inj z) (by decide +kernel))]
    exact ⟨sm1, ret1 (G := fun x as => ∀ n, GL n x as) q (Same.refl H) (as := []) rfl gwE⟩
  | bo x y =>
    obtain ⟨rfl, rfl⟩ := hcase
    rw [if_neg (fun z => z rfl)]
    refine hN _ _ ?_
    obtain ⟨z, hz⟩ := two x y (a / 97)
    simp only [tSeq, tFor_eq, tLC_eq, iRng1, iRng2, iList, iTup, iStr, tIfS, tRet, tRetN, tNext, tAsg, gName, tVar, tC, tOp, rI0, rI, tTest, tB, rEq, rNe, tCall, tCons, tNil, tCB, tLst, tTup, tAnd, tOr, tNot, tAndV, tOrV, tNotV, tIf, tDrop, tSl, tPart, tNoPart, tChain, tUn, rU, L2.start, cx_K, bk_K, cx_calm, bk_calm, lenV_str, and_assoc, Option.join, List.length_map, List.length_append, decide_eq_true_eq, Bool.false_eq_true, if_false, if_true, Bool.not_true, Bool.not_false, Bool.not_eq_true', decide_eq_false_iff_not, Bool.true_eq_false, List.length_cons, List.length_nil, List.map_cons, List.map_nil, List.replicate, List.cons_append, List.nil_append, List.append_nil, List.getElem?_cons_zero, List.getElem?_cons_succ, List.set_cons_zero, List.set_cons_succ, Nat.reduceSub, Nat.reduceAdd, Option.some.injEq, V.int.injEq, V.str.injEq, V.bl.injEq, V.ref.injEq, List.cons.injEq, and_true, true_and, exists_eq_left', exists_eq_left, exists_and_left, exists_eq_right, exists_const, tBM, tBM0, rAppend, rPop, rIxL, rIxT, rIxS, rSlL, rSlT, rSlS, rCat, rCatT, tKGet, cx_w, bk_w, tDGet, tDisp, tPairs, tDNewK, cx_P]
    refine ⟨⟨by decide, by decide⟩, .inr ⟨by decide, by decide⟩, ⟨by decide, by decide⟩, by decide, _, SqT.of hxa, _, hz, sm1, ret1 (G := fun x as => ∀ n, GL n x as) q (Same.refl H) (as := []) rfl gwP⟩
end
end C
set_option Elab.async false
set_option linter.all false
set_option maxRecDepth 100000
set_option maxHeartbeats 8000000
namespace C
open PySem L2
seal PE PT PW PA PS PSs PG PGs PI PPs PO PSet PIf
def LnO (n : Nat) (H : Hp) (v : V) : Prop := v = .non ∨ ∃ l, DAt H (dLn l) v ∧ GL n l.w l.as
def spBl : Sp := fun vs H Q _ => ∃ (ra la : Addr) (us ws : List V) (rows : List Rw) (ls : List Ln) (a : Int), vs = [.ref ra, .ref la, .int a] ∧ H ra = some (.lst us) ∧ RwAts H rows us ∧ rows.length ≤ 100 ∧ H la = some (.lst ws) ∧ LnAts H ls ws ∧ ls.length ≤ 100 ∧ ∀ v H', Same H H' → LnO ls.length H' v → Q v H'
section
variable {P : Program} {w : World} {K : PySem.W.Frag} {mg : Str → Option Value} {base : Heap} {f : Addr} {fd : FuncData}
theorem ok_both_line (bi : Bi mg) (F : Fun K "_law_both_line" "_law_both_line" s_law_both_line f fd) : FnOk P w K mg base CX0 1 f fd ["rows", "lines", "a"] spBl := by
  refine F.ok sc_law_both_line (fun vs H Q E h => ?_) (fun cdv A outer s H vs Q E hr h => ?_)
  · obtain ⟨ra, la, us, ws, rows, ls, a, rfl, _⟩ := h
    rfl
  obtain ⟨ra, la, us, ws, rows, ls, a, rfl, ha, hrw, h100, hla, hls, l100, q⟩ := h
  have hul := mapLen hrw
  have hwl := mapLen hls
  refine ⟨_, (pss_cons (ps_comp (i := 3) ["k"] ["rows"] [0] sc_law_both_line.nd rfl (pi_range1 rfl bi.range (pa_cons (pe_callB call_len rfl bi.len bt_len (pa_cons (pv 0) pa_nil)) pa_nil)) (fun _ _ _ _ nd => pg_name (i := 0) nd rfl (Or.inl rfl)) (fun _ _ _ _ => pif_one (pt_cmpR op_eq (pe_ix (ix_tupK K) (pe_ix (ix_listK K) (pv 1) (pv 0) (fun _ _ => rfl)) pe_int (fun _ _ => rfl)) pe_str (nomark _))) (fun _ _ _ _ => (pv 0))) (pss_cons (ps_if (pt_cmpR op_eq (pe_callB call_len rfl bi.len bt_len (pa_cons (pv 3) pa_nil)) pe_int (nomark _)) (pss_one (ps_ret pe_non)) pss_nil) (pss_cons (ps_set (i := 4) sc_law_both_line.nd rfl (Or.inr rfl) (pe_ix ix_list (pv 3) (pe_op op_mod (pv 2) (pe_callB call_len rfl bi.len bt_len (pa_cons (pv 3) pa_nil))) (fun _ _ => rfl))) (pss_cons (ps_comp (i := 5) ["p"] ["lines", "rows", "k"] [1, 0, 4] sc_law_both_line.nd rfl (pi_range1 rfl bi.range (pa_cons (pe_callB call_len rfl bi.len bt_len (pa_cons (pv 1) pa_nil)) pa_nil)) (fun _ _ _ _ nd => pg_name (i := 0) nd rfl (Or.inl rfl)) (fun _ _ _ _ => pif_one (pt_cmpR op_eq (pe_ix (ix_tupK K) (pe_ix (ix_listK K) (pv 1) (pv 0) (fun _ _ => rfl)) pe_int (fun _ _ => rfl)) (pe_ix (ix_tupK K) (pe_ix (ix_listK K) (pv 2) (pv 3) (fun _ _ => rfl)) pe_int (fun _ _ => rfl)) (nomark _))) (fun _ _ _ _ => (pv 0))) (pss_cons (ps_if (pt_cmpR op_eq (pe_callB call_len rfl bi.len bt_len (pa_cons (pv 5) pa_nil)) pe_int (nomark _)) (pss_one (ps_ret pe_non)) pss_nil) (pss_cons (ps_set (i := 6) sc_law_both_line.nd rfl (Or.inr rfl) (pe_ix ix_list (pv 5) (pe_op op_mod (pe_op op_fdiv (pv 2) pe_int) (pe_callB call_len rfl bi.len bt_len (pa_cons (pv 5) pa_nil))) (fun _ _ => rfl))) (pss_cons (ps_comp (i := 7) ["q"] ["lines", "p", "rows", "k"] [1, 6, 0, 4] sc_law_both_line.nd rfl (pi_range1 rfl bi.range (pa_cons (pe_callB call_len rfl bi.len bt_len (pa_cons (pv 1) pa_nil)) pa_nil)) (fun _ _ _ _ nd => pg_name (i := 0) nd rfl (Or.inl rfl)) (fun _ _ _ _ => pif_one (PW.pt (pw_and (pt_cmpR op_eq (pe_ix (ix_tupK K) (pe_ix (ix_listK K) (pv 1) (pv 0) (fun _ _ => rfl)) pe_int (fun _ _ => rfl)) (pe_ix (ix_tupK K) (pe_ix (ix_listK K) (pv 1) (pv 2) (fun _ _ => rfl)) pe_int (fun _ _ => rfl)) (nomark _)) (pw_and1 (pt_cmpR op_eq (pe_ix (ix_tupK K) (pe_ix (ix_listK K) (pv 1) (pv 0) (fun _ _ => rfl)) pe_int (fun _ _ => rfl)) (pe_ix (ix_tupK K) (pe_ix (ix_listK K) (pv 3) (pv 4) (fun _ _ => rfl)) pe_int (fun _ _ => rfl)) (nomark _)))))) (fun _ _ _ _ => (pv 0))) (pss_cons (ps_if (pt_cmpR op_eq (pe_callB call_len rfl bi.len bt_len (pa_cons (pv 7) pa_nil)) pe_int (nomark _)) (pss_one (ps_ret pe_non)) pss_nil) (pss_one (ps_ret (pe_tup (pa_cons (pe_ix ix_tup (pe_ix ix_list (pv 1) (pv 6) (fun _ _ => rfl)) pe_int (fun _ _ => rfl)) (pa_cons (pe_op op_mul pe_int (pv 4)) (pa_cons (pe_tup (pa_cons pe_str (pa_cons (pv 6) (pa_cons (pe_ix ix_list (pv 7) pe_int (fun _ _ => rfl)) pa_nil)))) pa_nil)))))))))))))), ?_⟩
  refine seq_abs fun N hN => ?_
  simp only [tSeq, tFor_eq, tLC_eq, iRng1, iRng2, iList, iTup, iStr, tIfS, tRet, tRetN, tNext, tAsg, gName, tVar, tC, tOp, rI0, rI, tTest, tB, rEq, rNe, tCall, tCons, tNil, tCB, tLst, tTup, tAnd, tOr, tNot, tAndV, tOrV, tNotV, tIf, tDrop, tSl, tPart, tNoPart, tChain, tUn, rU, L2.start, cx_K, bk_K, cx_calm, bk_calm, lenV_str, and_assoc, Option.join, List.length_map, List.length_append, decide_eq_true_eq, Bool.false_eq_true, if_false, if_true, Bool.not_true, Bool.not_false, Bool.not_eq_true', decide_eq_false_iff_not, Bool.true_eq_false, List.length_cons, List.length_nil, List.map_cons, List.map_nil, List.replicate, List.cons_append, List.nil_append, List.append_nil, List.getElem?_cons_zero, List.getElem?_cons_succ, List.set_cons_zero, List.set_cons_succ, Nat.reduceSub, Nat.reduceAdd, Option.some.injEq, V.int.injEq, V.str.injEq, V.bl.injEq, V.ref.injEq, List.cons.injEq, and_true, true_and, exists_eq_left', exists_eq_left, exists_and_left, exists_eq_right, exists_const, tBM, tBM0, rAppend, rPop, rIxL, rIxT, rIxS, rSlL, rSlT, rSlS, rCat, rCatT, tKGet, cx_w, bk_w, tDGet, tDisp, tPairs, tDNewK, cx_P]
  refine ⟨us.length, .inl ⟨_, SqL.of ha, rfl⟩, by omega, by omega, ?_⟩
  refine lc_rangeIf (lo := 0) (n := (us.length : Int).toNat) (fun i ys σ H' => H' = H ∧ ys.length ≤ i ∧ (∃ ks : List Nat, ys = ks.map (fun k : Nat => V.int k) ∧ ∀ k ∈ ks, ∃ i j, rows[k]? = some (.bo i j)) ∧ ∃ o, σ = [o, some (V.ref ra)]) ⟨rfl, Nat.le_refl _, ⟨[], rfl, fun k z => by cases z⟩, _, rfl⟩ (small (by omega)) (fun i ys σ H' e => e.2.1) (fun i ys σ H' C D hi e hC hD => ?_) (fun ys σ H' e p3 hp3 => ?_)
  · obtain ⟨rfl, hl, ⟨ks, rfl, hks⟩, o, rfl⟩ := e
    have hi' : i < us.length := by omega
    obtain ⟨r, hr1, hr2⟩ := mapGetV hrw (List.getElem?_eq_getElem hi')
    obtain ⟨xa, x', vs, e1, hxa, hcase⟩ := RwAt.out hr2
    simp only [tSeq, tFor_eq, tLC_eq, iRng1, iRng2, iList, iTup, iStr, tIfS, tRet, tRetN, tNext, tAsg, gName, tVar, tC, tOp, rI0, rI, tTest, tB, rEq, rNe, tCall, tCons, tNil, tCB, tLst, tTup, tAnd, tOr, tNot, tAndV, tOrV, tNotV, tIf, tDrop, tSl, tPart, tNoPart, tChain, tUn, rU, L2.start, cx_K, bk_K, cx_calm, bk_calm, lenV_str, and_assoc, Option.join, List.length_map, List.length_append, decide_eq_true_eq, Bool.false_eq_true, if_false, if_true, Bool.not_true, Bool.not_false, Bool.not_eq_true', decide_eq_false_iff_not, Bool.true_eq_false, List.length_cons, List.length_nil, List.map_cons, List.map_nil, List.replicate, List.cons_append, List.nil_append, List.append_nil, List.getElem?_cons_zero, List.getElem?_cons_succ, List.set_cons_zero, List.set_cons_succ, Nat.reduceSub, Nat.reduceAdd, Option.some.injEq, V.int.injEq, V.str.injEq, V.bl.injEq, V.ref.injEq, List.cons.injEq, and_true, true_and, exists_eq_left', exists_eq_left, exists_and_left, exists_eq_right, exists_const, tBM, tBM0, rAppend, rPop, rIxL, rIxT, rIxS, rSlL, rSlT, rSlS, rCat, rCatT, tKGet, cx_w, bk_w, tDGet, tDisp, tPairs, tDNewK, cx_P]
    refine ⟨_, SqL.of ha, _, at_toNat (by omega) (by rw [show (0 + (i : Int)).toNat = i by omega, List.getElem?_eq_getElem hi', e1]), xa, rfl, _, SqT.of hxa, _, at0, rfl, ?_⟩
    cases r with
    | bo u v =>
      obtain ⟨rfl, rfl⟩ := hcase
      rw [if_pos rfl]
      refine hC _ _ _ ⟨rfl, by simp at hl ⊢; omega, ⟨ks ++ [i], by rw [List.map_append]; simp, fun k hk => ?_⟩, _, rfl⟩
      rcases List.mem_append.mp hk with hk | hk
      · exact hks k hk
      · rw [List.mem_singleton.mp hk]; exact ⟨u, v, hr1⟩
    | no =>
      obtain ⟨rfl, rfl⟩ := hcase
      rw [if_neg (by intro z; exact absurd (V.str.inj z) (by decide +kernel))]
      exact hD _ _ ⟨rfl, by omega, ⟨ks, rfl, hks⟩, _, rfl⟩
    | nm y =>
      obtain ⟨rfl, rfl⟩ := hcase
      rw [if_neg (by intro z; exact absurd (V.str.inj z) (by decide +kernel))]
      exact hD _ _ ⟨rfl, by omega, ⟨ks, rfl, hks⟩, _, rfl⟩
  · obtain ⟨rfl, hl, ⟨ks, rfl, hks⟩, o, rfl⟩ := e
    refine hN _ _ ?_
    have g := same_new hp3 (.lst (ks.map fun k : Nat => V.int k))
    have z3 : upd H' p3 (.lst (ks.map fun k : Nat => V.int k)) p3 = some (.lst (ks.map fun k : Nat => V.int k)) := upd_same
    generalize upd H' p3 (.lst (ks.map fun k : Nat => V.int k)) = H3 at g z3 ⊢
    refine seq_abs fun N hN => ?_
    simp only [tSeq, tFor_eq, tLC_eq, iRng1, iRng2, iList, iTup, iStr, tIfS, tRet, tRetN, tNext, tAsg, gName, tVar, tC, tOp, rI0, rI, tTest, tB, rEq, rNe, tCall, tCons, tNil, tCB, tLst, tTup, tAnd, tOr, tNot, tAndV, tOrV, tNotV, tIf, tDrop, tSl, tPart, tNoPart, tChain, tUn, rU, L2.start, cx_K, bk_K, cx_calm, bk_calm, lenV_str, and_assoc, Option.join, List.length_map, List.length_append, decide_eq_true_eq, Bool.false_eq_true, if_false, if_true, Bool.not_true, Bool.not_false, Bool.not_eq_true', decide_eq_false_iff_not, Bool.true_eq_false, List.length_cons, List.length_nil, List.map_cons, List.map_nil, List.replicate, List.cons_append, List.nil_append, List.append_nil, List.getElem?_cons_zero, List.getElem?_cons_succ, List.set_cons_zero, List.set_cons_succ, Nat.reduceSub, Nat.reduceAdd, Option.some.injEq, V.int.injEq, V.str.injEq, V.bl.injEq, V.ref.injEq, List.cons.injEq, and_true, true_and, exists_eq_left', exists_eq_left, exists_and_left, exists_eq_right, exists_const, tBM, tBM0, rAppend, rPop, rIxL, rIxT, rIxS, rSlL, rSlT, rSlS, rCat, rCatT, tKGet, cx_w, bk_w, tDGet, tDisp, tPairs, tDNewK, cx_P]
    refine ⟨_, .inl ⟨_, SqL.of z3, rfl⟩, rfl, ?_⟩
    by_cases h0 : ks.length = 0
    · rw [if_pos (by rw [List.length_map]; omega)]
      exact q _ _ g (.inl rfl)
    rw [if_neg (by rw [List.length_map]; omega)]
    refine hN _ _ ?_
    refine seq_abs fun N hN => ?_
    simp only [tSeq, tFor_eq, tLC_eq, iRng1, iRng2, iList, iTup, iStr, tIfS, tRet, tRetN, tNext, tAsg, gName, tVar, tC, tOp, rI0, rI, tTest, tB, rEq, rNe, tCall, tCons, tNil, tCB, tLst, tTup, tAnd, tOr, tNot, tAndV, tOrV, tNotV, tIf, tDrop, tSl, tPart, tNoPart, tChain, tUn, rU, L2.start, cx_K, bk_K, cx_calm, bk_calm, lenV_str, and_assoc, Option.join, List.length_map, List.length_append, decide_eq_true_eq, Bool.false_eq_true, if_false, if_true, Bool.not_true, Bool.not_false, Bool.not_eq_true', decide_eq_false_iff_not, Bool.true_eq_false, List.length_cons, List.length_nil, List.map_cons, List.map_nil, List.replicate, List.cons_append, List.nil_append, List.append_nil, List.getElem?_cons_zero, List.getElem?_cons_succ, List.set_cons_zero, List.set_cons_succ, Nat.reduceSub, Nat.reduceAdd, Option.some.injEq, V.int.injEq, V.str.injEq, V.bl.injEq, V.ref.injEq, List.cons.injEq, and_true, true_and, exists_eq_left', exists_eq_left, exists_and_left, exists_eq_right, exists_const, tBM, tBM0, rAppend, rPop, rIxL, rIxT, rIxS, rSlL, rSlT, rSlS, rCat, rCatT, tKGet, cx_w, bk_w, tDGet, tDisp, tPairs, tDNewK, cx_P]
    refine ⟨_, .inl ⟨_, SqL.of z3, rfl⟩, by rw [List.length_map]; omega, _, SqL.of z3, ?_⟩
    rw [List.length_map]
    have hk : 0 ≤ a % (ks.length : Int) ∧ a % (ks.length : Int) < ks.length := ⟨Int.emod_nonneg _ (by omega), Int.emod_lt_of_pos _ (by omega)⟩
    generalize a % (ks.length : Int) = m at hk
    have hm : m.toNat < ks.length := by omega
    refine ⟨_, at_toNat hk.1 (by rw [List.getElem?_map, List.getElem?_eq_getElem hm]; rfl), hN _ _ ?_⟩
    obtain ⟨bi', bj, hbo⟩ := hks _ (List.getElem_mem hm)
    generalize ks[m.toNat] = k at hbo
    obtain ⟨bv, hb1, hb2⟩ := DAts.get (d := dRw (.bo bi' bj)) hrw (by rw [List.getElem?_map, hbo]; rfl)
    obtain ⟨xa, x', vs, rfl, hxa, rfl, rfl⟩ := RwAt.out hb2
    replace ha := g _ _ ha
    replace hxa := g _ _ hxa
    replace hla := g _ _ hla
    replace hls := DAts.same g hls
    clear hks h0 z3 hN
    have at2 : ∀ {a b c : V}, atI [a, b, c] 2 = some c := atI_nat (j := 2) rfl
    have line : ∀ {p : Nat}, p < ls.length → ∃ (l : Ln) (b : Addr) (u : V), ws[p]? = some (.ref b) ∧ H3 b = some (.tup [.int l.i, .int l.j, u]) := fun {p} hp => by
      obtain ⟨v, h1, h2⟩ := DAts.get (d := dLn ls[p]) hls (by rw [List.getElem?_map, List.getElem?_eq_getElem hp]; rfl)
      obtain ⟨b, u, rfl, h3, _⟩ := lnAt h2
      exact ⟨_, b, u, h1, h3⟩
    refine seq_abs fun N hN => ?_
    simp only [tSeq, tFor_eq, tLC_eq, iRng1, iRng2, iList, iTup, iStr, tIfS, tRet, tRetN, tNext, tAsg, gName, tVar, tC, tOp, rI0, rI, tTest, tB, rEq, rNe, tCall, tCons, tNil, tCB, tLst, tTup, tAnd, tOr, tNot, tAndV, tOrV, tNotV, tIf, tDrop, tSl, tPart, tNoPart, tChain, tUn, rU, L2.start, cx_K, bk_K, cx_calm, bk_calm, lenV_str, and_assoc, Option.join, List.length_map, List.length_append, decide_eq_true_eq, Bool.false_eq_true, if_false, if_true, Bool.not_true, Bool.not_false, Bool.not_eq_true', decide_eq_false_iff_not, Bool.true_eq_false, List.length_cons, List.length_nil, List.map_cons, List.map_nil, List.replicate, List.cons_append, List.nil_append, List.append_nil, List.getElem?_cons_zero, List.getElem?_cons_succ, List.set_cons_zero, List.set_cons_succ, Nat.reduceSub, Nat.reduceAdd, Option.some.injEq, V.int.injEq, V.str.injEq, V.bl.injEq, V.ref.injEq, List.cons.injEq, and_true, true_and, exists_eq_left', exists_eq_left, exists_and_left, exists_eq_right, exists_const, tBM, tBM0, rAppend, rPop, rIxL, rIxT, rIxS, rSlL, rSlT, rSlS, rCat, rCatT, tKGet, cx_w, bk_w, tDGet, tDisp, tPairs, tDNewK, cx_P]
    refine ⟨ws.length, .inl ⟨_, SqL.of hla, rfl⟩, by omega, by omega, ?_⟩
    refine lc_rangeIf (lo := 0) (n := (ws.length : Int).toNat) (fun i ys σ H' => H' = H3 ∧ ys.length ≤ i ∧ (∃ ks : List Nat, ys = ks.map (fun k : Nat => V.int k) ∧ ∀ k ∈ ks, k < ls.length) ∧ ∃ o, σ = [o, some (V.ref la), some (V.ref ra), some (V.int k)]) ⟨rfl, Nat.le_refl _, ⟨[], rfl, fun k z => by cases z⟩, _, rfl⟩ (small (by omega)) (fun i ys σ H' e => e.2.1) (fun i ys σ H' C D hi e hC hD => ?_) (fun ys σ H' e p4 hp4 => ?_)
    · obtain ⟨rfl, hl, ⟨ks, rfl, hks⟩, o, rfl⟩ := e
      have hi' : i < ls.length := by omega
      obtain ⟨l, b, u, h1, h2⟩ := line hi'
      simp only [tSeq, tFor_eq, tLC_eq, iRng1, iRng2, iList, iTup, iStr, tIfS, tRet, tRetN, tNext, tAsg, gName, tVar, tC, tOp, rI0, rI, tTest, tB, rEq, rNe, tCall, tCons, tNil, tCB, tLst, tTup, tAnd, tOr, tNot, tAndV, tOrV, tNotV, tIf, tDrop, tSl, tPart, tNoPart, tChain, tUn, rU, L2.start, cx_K, bk_K, cx_calm, bk_calm, lenV_str, and_assoc, Option.join, List.length_map, List.length_append, decide_eq_true_eq, Bool.false_eq_true, if_false, if_true, Bool.not_true, Bool.not_false, Bool.not_eq_true', decide_eq_false_iff_not, Bool.true_eq_false, List.length_cons, List.length_nil, List.map_cons, List.map_nil, List.replicate, List.cons_append, List.nil_append, List.append_nil, List.getElem?_cons_zero, List.getElem?_cons_succ, List.set_cons_zero, List.set_cons_succ, Nat.reduceSub, Nat.reduceAdd, Option.some.injEq, V.int.injEq, V.str.injEq, V.bl.injEq, V.ref.injEq, List.cons.injEq, and_true, true_and, exists_eq_left', exists_eq_left, exists_and_left, exists_eq_right, exists_const, tBM, tBM0, rAppend, rPop, rIxL, rIxT, rIxS, rSlL, rSlT, rSlS, rCat, rCatT, tKGet, cx_w, bk_w, tDGet, tDisp, tPairs, tDNewK, cx_P]
      refine ⟨_, SqL.of hla, _, at_toNat (by omega) (by rw [show (0 + (i : Int)).toNat = i by omega]; exact h1), b, rfl, _, SqT.of h2, _, at1, _, SqL.of ha, _, atI_nat hb1, xa, rfl, _, SqT.of hxa, _, at1, rfl, ?_⟩
      split
      · refine hC _ _ _ ⟨rfl, by simp at hl ⊢; omega, ⟨ks ++ [i], by rw [List.map_append]; simp, fun k hk => ?_⟩, _, rfl⟩
        rcases List.mem_append.mp hk with hk | hk
        · exact hks k hk
        · rw [List.mem_singleton.mp hk]; exact hi'
      · exact hD _ _ ⟨rfl, by omega, ⟨ks, rfl, hks⟩, _, rfl⟩
    obtain ⟨rfl, hl, ⟨ks, rfl, hks⟩, o, rfl⟩ := e
    refine hN _ _ ?_
    have g4 := same_new hp4 (.lst (ks.map fun k : Nat => V.int k))
    have z4 : upd H' p4 (.lst (ks.map fun k : Nat => V.int k)) p4 = some (.lst (ks.map fun k : Nat => V.int k)) := upd_same
    generalize upd H' p4 (.lst (ks.map fun k : Nat => V.int k)) = H4 at g4 z4 ⊢
    refine seq_abs fun N hN => ?_
    simp only [tSeq, tFor_eq, tLC_eq, iRng1, iRng2, iList, iTup, iStr, tIfS, tRet, tRetN, tNext, tAsg, gName, tVar, tC, tOp, rI0, rI, tTest, tB, rEq, rNe, tCall, tCons, tNil, tCB, tLst, tTup, tAnd, tOr, tNot, tAndV, tOrV, tNotV, tIf, tDrop, tSl, tPart, tNoPart, tChain, tUn, rU, L2.start, cx_K, bk_K, cx_calm, bk_calm, lenV_str, and_assoc, Option.join, List.length_map, List.length_append, decide_eq_true_eq, Bool.false_eq_true, if_false, if_true, Bool.not_true, Bool.not_false, Bool.not_eq_true', decide_eq_false_iff_not, Bool.true_eq_false, List.length_cons, List.length_nil, List.map_cons, List.map_nil, List.replicate, List.cons_append, List.nil_append, List.append_nil, List.getElem?_cons_zero, List.getElem?_cons_succ, List.set_cons_zero, List.set_cons_succ, Nat.reduceSub, Nat.reduceAdd, Option.some.injEq, V.int.injEq, V.str.injEq, V.bl.injEq, V.ref.injEq, List.cons.injEq, and_true, true_and, exists_eq_left', exists_eq_left, exists_and_left, exists_eq_right, exists_const, tBM, tBM0, rAppend, rPop, rIxL, rIxT, rIxS, rSlL, rSlT, rSlS, rCat, rCatT, tKGet, cx_w, bk_w, tDGet, tDisp, tPairs, tDNewK, cx_P]
    refine ⟨_, .inl ⟨_, SqL.of z4, rfl⟩, rfl, ?_⟩
    by_cases h0 : ks.length = 0
    · rw [if_pos (by rw [List.length_map]; omega)]
      exact q _ _ (g.trans g4) (.inl rfl)
    rw [if_neg (by rw [List.length_map]; omega)]
    refine hN _ _ ?_
    refine seq_abs fun N hN => ?_
    simp only [tSeq, tFor_eq, tLC_eq, iRng1, iRng2, iList, iTup, iStr, tIfS, tRet, tRetN, tNext, tAsg, gName, tVar, tC, tOp, rI0, rI, tTest, tB, rEq, rNe, tCall, tCons, tNil, tCB, tLst, tTup, tAnd, tOr, tNot, tAndV, tOrV, tNotV, tIf, tDrop, tSl, tPart, tNoPart, tChain, tUn, rU, L2.start, cx_K, bk_K, cx_calm, bk_calm, lenV_str, and_assoc, Option.join, List.length_map, List.length_append, decide_eq_true_eq, Bool.false_eq_true, if_false, if_true, Bool.not_true, Bool.not_false, Bool.not_eq_true', decide_eq_false_iff_not, Bool.true_eq_false, List.length_cons, List.length_nil, List.map_cons, List.map_nil, List.replicate, List.cons_append, List.nil_append, List.append_nil, List.getElem?_cons_zero, List.getElem?_cons_succ, List.set_cons_zero, List.set_cons_succ, Nat.reduceSub, Nat.reduceAdd, Option.some.injEq, V.int.injEq, V.str.injEq, V.bl.injEq, V.ref.injEq, List.cons.injEq, and_true, true_and, exists_eq_left', exists_eq_left, exists_and_left, exists_eq_right, exists_const, tBM, tBM0, rAppend, rPop, rIxL, rIxT, rIxS, rSlL, rSlT, rSlS, rCat, rCatT, tKGet, cx_w, bk_w, tDGet, tDisp, tPairs, tDNewK, cx_P]
    refine ⟨⟨by decide, by decide⟩, _, .inl ⟨_, SqL.of z4, rfl⟩, by rw [List.length_map]; omega, _, SqL.of z4, ?_⟩
    rw [List.length_map]
    have hk' : 0 ≤ a / 3 % (ks.length : Int) ∧ a / 3 % (ks.length : Int) < ks.length := ⟨Int.emod_nonneg _ (by omega), Int.emod_lt_of_pos _ (by omega)⟩
    generalize a / 3 % (ks.length : Int) = m at hk'
    have hm : m.toNat < ks.length := by omega
    refine ⟨_, at_toNat hk'.1 (by rw [List.getElem?_map, List.getElem?_eq_getElem hm]; rfl), hN _ _ ?_⟩
    have hp : ks[m.toNat] < ls.length := hks _ (List.getElem_mem hm)
    generalize ks[m.toNat] = p at hp
    obtain ⟨pl, pb, pu, hp1, hp2⟩ := line hp
    replace ha := g4 _ _ ha
    replace hxa := g4 _ _ hxa
    replace hla := g4 _ _ hla
    replace hp2 := g4 _ _ hp2
    have g5 := g.trans g4
    clear hks h0 z4 hN
    refine seq_abs fun N hN => ?_
    simp only [tSeq, tFor_eq, tLC_eq, iRng1, iRng2, iList, iTup, iStr, tIfS, tRet, tRetN, tNext, tAsg, gName, tVar, tC, tOp, rI0, rI, tTest, tB, rEq, rNe, tCall, tCons, tNil, tCB, tLst, tTup, tAnd, tOr, tNot, tAndV, tOrV, tNotV, tIf, tDrop, tSl, tPart, tNoPart, tChain, tUn, rU, L2.start, cx_K, bk_K, cx_calm, bk_calm, lenV_str, and_assoc, Option.join, List.length_map, List.length_append, decide_eq_true_eq, Bool.false_eq_true, if_false, if_true, Bool.not_true, Bool.not_false, Bool.not_eq_true', decide_eq_false_iff_not, Bool.true_eq_false, List.length_cons, List.length_nil, List.map_cons, List.map_nil, List.replicate, List.cons_append, List.nil_append, List.append_nil, List.getElem?_cons_zero, List.getElem?_cons_succ, List.set_cons_zero, List.set_cons_succ, Nat.reduceSub, Nat.reduceAdd, Option.some.injEq, V.int.injEq, V.str.injEq, V.bl.injEq, V.ref.injEq, List.cons.injEq, and_true, true_and, exists_eq_left', exists_eq_left, exists_and_left, exists_eq_right, exists_const, tBM, tBM0, rAppend, rPop, rIxL, rIxT, rIxS, rSlL, rSlT, rSlS, rCat, rCatT, tKGet, cx_w, bk_w, tDGet, tDisp, tPairs, tDNewK, cx_P]
    refine ⟨ws.length, .inl ⟨_, SqL.of hla, rfl⟩, by omega, by omega, ?_⟩
    refine lc_rangeIf (lo := 0) (n := (ws.length : Int).toNat) (fun i ys σ H' => H' = H4 ∧ ys.length ≤ i ∧ (∃ ks : List Nat, ys = ks.map (fun k : Nat => V.int k) ∧ ∀ k ∈ ks, k < ls.length) ∧ ∃ o, σ = [o, some (V.ref la), some (V.int p), some (V.ref ra), some (V.int k)]) ⟨rfl, Nat.le_refl _, ⟨[], rfl, fun k z => by cases z⟩, _, rfl⟩ (small (by omega)) (fun i ys σ H' e => e.2.1) (fun i ys σ H'' C D hi e hC hD => ?_) (fun ys σ H'' e p5 hp5 => ?_)
    · obtain ⟨rfl, hl, ⟨ks, rfl, hks2⟩, o, rfl⟩ := e
      have hi' : i < ls.length := by omega
      obtain ⟨l, b, u, h1, h2⟩ := line hi'
      replace h2 := g4 _ _ h2
      have hat : ∀ {v : V}, ws[i]? = some v → atI ws (0 + (i : Int)) = some v := fun h => at_toNat (by omega) (by rw [show (0 + (i : Int)).toNat = i by omega]; exact h)
      simp only [tSeq, tFor_eq, tLC_eq, iRng1, iRng2, iList, iTup, iStr, tIfS, tRet, tRetN, tNext, tAsg, gName, tVar, tC, tOp, rI0, rI, tTest, tB, rEq, rNe, tCall, tCons, tNil, tCB, tLst, tTup, tAnd, tOr, tNot, tAndV, tOrV, tNotV, tIf, tDrop, tSl, tPart, tNoPart, tChain, tUn, rU, L2.start, cx_K, bk_K, cx_calm, bk_calm, lenV_str, and_assoc, Option.join, List.length_map, List.length_append, decide_eq_true_eq, Bool.false_eq_true, if_false, if_true, Bool.not_true, Bool.not_false, Bool.not_eq_true', decide_eq_false_iff_not, Bool.true_eq_false, List.length_cons, List.length_nil, List.map_cons, List.map_nil, List.replicate, List.cons_append, List.nil_append, List.append_nil, List.getElem?_cons_zero, List.getElem?_cons_succ, List.set_cons_zero, List.set_cons_succ, Nat.reduceSub, Nat.reduceAdd, Option.some.injEq, V.int.injEq, V.str.injEq, V.bl.injEq, V.ref.injEq, List.cons.injEq, and_true, true_and, exists_eq_left', exists_eq_left, exists_and_left, exists_eq_right, exists_const, tBM, tBM0, rAppend, rPop, rIxL, rIxT, rIxS, rSlL, rSlT, rSlS, rCat, rCatT, tKGet, cx_w, bk_w, tDGet, tDisp, tPairs, tDNewK, cx_P]
      refine ⟨_, SqL.of hla, _, hat h1, b, rfl, _, SqT.of h2, _, at0, _, SqL.of hla, _, atI_nat hp1, pb, rfl, _, SqT.of hp2, _, at0, rfl, ?_⟩
      split
      · refine ⟨_, SqL.of hla, _, hat h1, b, rfl, _, SqT.of h2, _, at1, _, SqL.of ha, _, atI_nat hb1, xa, rfl, _, SqT.of hxa, _, at2, rfl, ?_⟩
        split
        · refine hC _ _ _ ⟨rfl, by simp at hl ⊢; omega, ⟨ks ++ [i], by rw [List.map_append]; simp, fun k hk => ?_⟩, _, rfl⟩
          rcases List.mem_append.mp hk with hk | hk
          · exact hks2 k hk
          · rw [List.mem_singleton.mp hk]; exact hi'
        · exact hD _ _ ⟨rfl, by omega, ⟨ks, rfl, hks2⟩, _, rfl⟩
      · exact hD _ _ ⟨rfl, by omega, ⟨ks, rfl, hks2⟩, _, rfl⟩
    obtain ⟨rfl, hl, ⟨ks', rfl, hks2⟩, o, rfl⟩ := e
    refine hN _ _ ?_
    have g6 := same_new hp5 (.lst (ks'.map fun k : Nat => V.int k))
    have z6 : upd H'' p5 (.lst (ks'.map fun k : Nat => V.int k)) p5 = some (.lst (ks'.map fun k : Nat => V.int k)) := upd_same
    generalize upd H'' p5 (.lst (ks'.map fun k : Nat => V.int k)) = H6 at g6 z6 ⊢
    refine seq_abs fun N hN => ?_
    simp only [tSeq, tFor_eq, tLC_eq, iRng1, iRng2, iList, iTup, iStr, tIfS, tRet, tRetN, tNext, tAsg, gName, tVar, tC, tOp, rI0, rI, tTest, tB, rEq, rNe, tCall, tCons, tNil, tCB, tLst, tTup, tAnd, tOr, tNot, tAndV, tOrV, tNotV, tIf, tDrop, tSl, tPart, tNoPart, tChain, tUn, rU, L2.start, cx_K, bk_K, cx_calm, bk_calm, lenV_str, and_assoc, Option.join, List.length_map, List.length_append, decide_eq_true_eq, Bool.false_eq_true, if_false, if_true, Bool.not_true, Bool.not_false, Bool.not_eq_true', decide_eq_false_iff_not, Bool.true_eq_false, List.length_cons, List.length_nil, List.map_cons, List.map_nil, List.replicate, List.cons_append, List.nil_append, List.append_nil, List.getElem?_cons_zero, List.getElem?_cons_succ, List.set_cons_zero, List.set_cons_succ, Nat.reduceSub, Nat.reduceAdd, Option.some.injEq, V.int.injEq, V.str.injEq, V.bl.injEq, V.ref.injEq, List.cons.injEq, and_true, true_and, exists_eq_left', exists_eq_left, exists_and_left, exists_eq_right, exists_const, tBM, tBM0, rAppend, rPop, rIxL, rIxT, rIxS, rSlL, rSlT, rSlS, rCat, rCatT, tKGet, cx_w, bk_w, tDGet, tDisp, tPairs, tDNewK, cx_P]
    refine ⟨_, .inl ⟨_, SqL.of z6, rfl⟩, rfl, ?_⟩
    cases ks' with
    | nil =>
      rw [if_pos (by rfl)]
      exact q _ _ (g5.trans g6) (.inl rfl)
    | cons k1 ks' =>
      rw [if_neg (by simp; omega)]
      refine hN _ _ ?_
      simp only [tSeq, tFor_eq, tLC_eq, iRng1, iRng2, iList, iTup, iStr, tIfS, tRet, tRetN, tNext, tAsg, gName, tVar, tC, tOp, rI0, rI, tTest, tB, rEq, rNe, tCall, tCons, tNil, tCB, tLst, tTup, tAnd, tOr, tNot, tAndV, tOrV, tNotV, tIf, tDrop, tSl, tPart, tNoPart, tChain, tUn, rU, L2.start, cx_K, bk_K, cx_calm, bk_calm, lenV_str, and_assoc, Option.join, List.length_map, List.length_append, decide_eq_true_eq, Bool.false_eq_true, if_false, if_true, Bool.not_true, Bool.not_false, Bool.not_eq_true', decide_eq_false_iff_not, Bool.true_eq_false, List.length_cons, List.length_nil, List.map_cons, List.map_nil, List.replicate, List.cons_append, List.nil_append, List.append_nil, List.getElem?_cons_zero, List.getElem?_cons_succ, List.set_cons_zero, List.set_cons_succ, Nat.reduceSub, Nat.reduceAdd, Option.some.injEq, V.int.injEq, V.str.injEq, V.bl.injEq, V.ref.injEq, List.cons.injEq, and_true, true_and, exists_eq_left', exists_eq_left, exists_and_left, exists_eq_right, exists_const, tBM, tBM0, rAppend, rPop, rIxL, rIxT, rIxS, rSlL, rSlT, rSlS, rCat, rCatT, tKGet, cx_w, bk_w, tDGet, tDisp, tPairs, tDNewK, cx_P]
      refine ⟨_, SqL.of (g6 _ _ hla), _, atI_nat hp1, pb, rfl, _, SqT.of (g6 _ _ hp2), _, at0, .inl ⟨by decide, by decide⟩, _, SqL.of z6, _, at0, small (by simp), ?_⟩
      exact ret1 (fun v l H' s d w => q v H' s (.inr ⟨l, d, w⟩)) (g5.trans g6) (as := [.n p, .n k1]) (atNs _ [(p : Int), k1]) (glN _ "both" (by decide) [(p : Int), k1] (by simp) (gl2 hp (hks2 k1 List.mem_cons_self)))
end
end C
set_option Elab.async false
set_option linter.all false
set_option maxRecDepth 100000
set_option maxHeartbeats 8000000
namespace C
open PySem L2
seal PE PT PW PA PS PSs PG PGs PI PPs PO PSet PIf
def spRl : Sp := fun vs H Q _ => ∃ (ru la : Addr) (us ws : List V) (rules : List NRul) (ls : List Ln) (a : Int), vs = [.ref ru, .ref la, .int a] ∧ H ru = some (.lst us) ∧ DAts H (rules.map dNR) us ∧ rules.length ≤ 100 ∧ (∀ r ∈ rules, r.1.length ≤ 100) ∧ H la = some (.lst ws) ∧ LnAts H ls ws ∧ ls.length ≤ 100 ∧ ∀ v H', Same H H' → LnO ls.length H' v → Q v H'
theorem first_at {d : Dt} : ∀ {ds : List Dt}, (ds.any fun e => deq e d) = true → ∃ j, (∃ d', ds[j]? = some d' ∧ deq d' d = true) ∧ ∀ (m : Nat) (d' : Dt), m < j → ds[m]? = some d' → deq d' d = false
  | [], h => by cases h
  | e :: ds, h => by
    by_cases he : deq e d = true
    · exact ⟨0, ⟨e, rfl, he⟩, fun m d' hm _ => by omega⟩
    · have h' : (ds.any fun e => deq e d) = true := by
        rw [List.any_cons, Bool.or_eq_true] at h
        rcases h with h | h
        · exact absurd h he
        · exact h
      obtain ⟨j, ⟨d', h1, h2⟩, h3⟩ := first_at h'
      refine ⟨j + 1, ⟨d', h1, h2⟩, fun m d' hm hd => ?_⟩
      cases m with
      | zero =>
        cases hd
        exact Bool.eq_false_iff.mpr he
      | succ m => exact h3 m d' (by omega) hd
section
variable {P : Program} {w : World} {K : PySem.W.Frag} {mg : Str → Option Value} {base : Heap} {f : Addr} {fd : FuncData}
theorem ok_rule_line (bi : Bi mg) (F : Fun K "_law_rule_line" "_law_rule_line" s_law_rule_line f fd) : FnOk P w K mg base CX0 1 f fd ["rules", "lines", "a"] spRl := by
  refine F.ok sc_law_rule_line (fun vs H Q E h => ?_) (fun cdv A outer s H vs Q E hr h => ?_)
  · obtain ⟨ru, la, us, ws, rules, ls, a, rfl, _⟩ := h
    rfl
  obtain ⟨ru, la, us, ws, rules, ls, a, rfl, hru, hrl, u100, p100, hla, hls, l100, q⟩ := h
  have hul := mapLen hrl
  have hwl := mapLen hls
  refine ⟨_, (pss_cons (ps_if (pt_cmpR op_eq (pe_callB call_len rfl bi.len bt_len (pa_cons (pv 0) pa_nil)) pe_int (nomark _)) (pss_one (ps_ret pe_non)) pss_nil) (pss_cons (ps_set (i := 3) sc_law_rule_line.nd rfl (Or.inl rfl) (pe_op op_mod (pv 2) (pe_callB call_len rfl bi.len bt_len (pa_cons (pv 0) pa_nil)))) (pss_cons (ps_comp (i := 4) ["line"] [] [] sc_law_rule_line.nd rfl (pi_list (pv 1)) (fun _ _ _ _ nd => pg_name (i := 0) nd rfl (Or.inl rfl)) (fun _ _ _ _ => pif_nil) (fun _ _ _ _ => (pe_tup (pa_cons (pe_ix (ix_tupK K) (pv 0) pe_int (fun _ _ => rfl)) (pa_cons (pe_ix (ix_tupK K) (pv 0) pe_int (fun _ _ => rfl)) pa_nil))))) (pss_cons (ps_set (i := 5) sc_law_rule_line.nd rfl (Or.inl rfl) (pe_lst pa_nil)) (pss_cons (ps_for PassesOwn.never rfl (pi_list (pe_ix ix_tup (pe_ix ix_list (pv 0) (pv 3) (fun _ _ => rfl)) pe_int (fun _ _ => rfl))) (pg_name (i := 6) sc_law_rule_line.nd rfl (Or.inl rfl)) (pss_cons (ps_if (pt_cmpR (op_notInG hr.units) (pv 6) (pv 4) (by with_unfolding_all rfl)) (pss_one (ps_ret pe_non)) pss_nil) (pss_one (ps_expr (pe_bm PySem.F.plainAttrs_list PySem.F.slot_list_append PySem.F.type_list_append mt_append (pv 5) (pa_cons (pe_bm PySem.F.plainAttrs_list PySem.F.slot_list_index PySem.F.type_list_index (mt_indexG hr.units) (pv 4) (pa_cons (pv 6) pa_nil)) pa_nil)))))) (pss_one (ps_ret (pe_tup (pa_cons (pe_ix ix_tup (pe_ix ix_tup (pe_ix ix_list (pv 0) (pv 3) (fun _ _ => rfl)) pe_int (fun _ _ => rfl)) pe_int (fun _ _ => rfl)) (pa_cons (pe_ix ix_tup (pe_ix ix_tup (pe_ix ix_list (pv 0) (pv 3) (fun _ _ => rfl)) pe_int (fun _ _ => rfl)) pe_int (fun _ _ => rfl)) (pa_cons (pe_tup (pa_cons pe_str (pa_cons (pv 3) (pa_cons (pe_callTy call_tuple_of rfl bi.tuple bt_tuple (pa_cons (pv 5) pa_nil)) pa_nil)))) pa_nil))))))))))), ?_⟩
  refine seq_abs fun N hN => ?_
  simp only [tSeq, tFor_eq, tLC_eq, iRng1, iRng2, iList, iTup, iStr, tIfS, tRet, tRetN, tNext, tAsg, gName, tVar, tC, tOp, rI0, rI, tTest, tB, rEq, rNe, tCall, tCons, tNil, tCB, tLst, tTup, tAnd, tOr, tNot, tAndV, tOrV, tNotV, tIf, tDrop, tSl, tPart, tNoPart, tChain, tUn, rU, L2.start, cx_K, bk_K, cx_calm, bk_calm, lenV_str, and_assoc, Option.join, List.length_map, List.length_append, decide_eq_true_eq, Bool.false_eq_true, if_false, if_true, Bool.not_true, Bool.not_false, Bool.not_eq_true', decide_eq_false_iff_not, Bool.true_eq_false, List.length_cons, List.length_nil, List.map_cons, List.map_nil, List.replicate, List.cons_append, List.nil_append, List.append_nil, List.getElem?_cons_zero, List.getElem?_cons_succ, List.set_cons_zero, List.set_cons_succ, Nat.reduceSub, Nat.reduceAdd, Option.some.injEq, V.int.injEq, V.str.injEq, V.bl.injEq, V.ref.injEq, List.cons.injEq, and_true, true_and, exists_eq_left', exists_eq_left, exists_and_left, exists_eq_right, exists_const, tBM, tBM0, rAppend, rPop, rIxL, rIxT, rIxS, rSlL, rSlT, rSlS, rCat, rCatT, tKGet, cx_w, bk_w, tDGet, tDisp, tPairs, tDNewK, cx_P]
  refine ⟨_, .inl ⟨_, SqL.of hru, rfl⟩, rfl, ?_⟩
  by_cases h0 : us.length = 0
  · rw [if_pos (by omega)]
    exact q _ _ (Same.refl H) (.inl rfl)
  rw [if_neg (by omega)]
  refine hN _ _ ?_
  refine seq_abs fun N hN => ?_
  simp only [tSeq, tFor_eq, tLC_eq, iRng1, iRng2, iList, iTup, iStr, tIfS, tRet, tRetN, tNext, tAsg, gName, tVar, tC, tOp, rI0, rI, tTest, tB, rEq, rNe, tCall, tCons, tNil, tCB, tLst, tTup, tAnd, tOr, tNot, tAndV, tOrV, tNotV, tIf, tDrop, tSl, tPart, tNoPart, tChain, tUn, rU, L2.start, cx_K, bk_K, cx_calm, bk_calm, lenV_str, and_assoc, Option.join, List.length_map, List.length_append, decide_eq_true_eq, Bool.false_eq_true, if_false, if_true, Bool.not_true, Bool.not_false, Bool.not_eq_true', decide_eq_false_iff_not, Bool.true_eq_false, List.length_cons, List.length_nil, List.map_cons, List.map_nil, List.replicate, List.cons_append, List.nil_append, List.append_nil, List.getElem?_cons_zero, List.getElem?_cons_succ, List.set_cons_zero, List.set_cons_succ, Nat.reduceSub, Nat.reduceAdd, Option.some.injEq, V.int.injEq, V.str.injEq, V.bl.injEq, V.ref.injEq, List.cons.injEq, and_true, true_and, exists_eq_left', exists_eq_left, exists_and_left, exists_eq_right, exists_const, tBM, tBM0, rAppend, rPop, rIxL, rIxT, rIxS, rSlL, rSlT, rSlS, rCat, rCatT, tKGet, cx_w, bk_w, tDGet, tDisp, tPairs, tDNewK, cx_P]
  refine ⟨_, .inl ⟨_, SqL.of hru, rfl⟩, by omega, hN _ _ ?_⟩
  have hm : ∃ m : Nat, m < rules.length ∧ a % (us.length : Int) = m := by
    have e1 := Int.emod_nonneg a (b := (us.length : Int)) (by omega)
    have e2 := Int.emod_lt_of_pos a (b := (us.length : Int)) (by omega)
    exact ⟨(a % (us.length : Int)).toNat, by omega, by omega⟩
  obtain ⟨r, hr', er⟩ := hm
  rw [er]
  obtain ⟨rv, hr1, hr2⟩ := DAts.get (d := dNR rules[r]) hrl (by rw [List.getElem?_map, List.getElem?_eq_getElem hr']; rfl)
  have hp9 := p100 rules[r] (List.getElem_mem hr')
  generalize rules[r] = rule at hr2 hp9
  obtain ⟨a9, l9, b9, pus, rfl, ka9, kl9, kp9, kb9⟩ := nrAt hr2
  have hpl := mapLen kp9
  refine seq_abs fun N hN => ?_
  simp only [tSeq, tFor_eq, tLC_eq, iRng1, iRng2, iList, iTup, iStr, tIfS, tRet, tRetN, tNext, tAsg, gName, tVar, tC, tOp, rI0, rI, tTest, tB, rEq, rNe, tCall, tCons, tNil, tCB, tLst, tTup, tAnd, tOr, tNot, tAndV, tOrV, tNotV, tIf, tDrop, tSl, tPart, tNoPart, tChain, tUn, rU, L2.start, cx_K, bk_K, cx_calm, bk_calm, lenV_str, and_assoc, Option.join, List.length_map, List.length_append, decide_eq_true_eq, Bool.false_eq_true, if_false, if_true, Bool.not_true, Bool.not_false, Bool.not_eq_true', decide_eq_false_iff_not, Bool.true_eq_false, List.length_cons, List.length_nil, List.map_cons, List.map_nil, List.replicate, List.cons_append, List.nil_append, List.append_nil, List.getElem?_cons_zero, List.getElem?_cons_succ, List.set_cons_zero, List.set_cons_succ, Nat.reduceSub, Nat.reduceAdd, Option.some.injEq, V.int.injEq, V.str.injEq, V.bl.injEq, V.ref.injEq, List.cons.injEq, and_true, true_and, exists_eq_left', exists_eq_left, exists_and_left, exists_eq_right, exists_const, tBM, tBM0, rAppend, rPop, rIxL, rIxT, rIxS, rSlL, rSlT, rSlS, rCat, rCatT, tKGet, cx_w, bk_w, tDGet, tDisp, tPairs, tDNewK, cx_P]
  refine ⟨⟨_, SqL.of hla⟩, ?_⟩
  refine lc_list (xs := ws) (fun i ys σ H2 => Same H H2 ∧ DAts H2 ((ls.take i).map fun l => dPr (l.i, l.j)) ys ∧ ∃ o, σ = [o]) ⟨Same.refl _, rfl, _, rfl⟩ (small (by omega)) (fun i ys σ H2 e => ?_) (fun i ys σ H2 e => SqL.of (e.1 _ _ hla)) (fun i x ys σ H2 C hx e hC => ?_) (fun ys σ H2 e pp hpp => ?_)
  · have := DAts.length e.2.1
    rw [List.length_map, List.length_take] at this
    omega
  · obtain ⟨es, hys, o, rfl⟩ := e
    obtain ⟨l, hl1, hl2⟩ := mapGetV hls hx
    obtain ⟨b, u, rfl, hb, _⟩ := lnAt hl2
    replace hb := es _ _ hb
    simp only [tSeq, tFor_eq, tLC_eq, iRng1, iRng2, iList, iTup, iStr, tIfS, tRet, tRetN, tNext, tAsg, gName, tVar, tC, tOp, rI0, rI, tTest, tB, rEq, rNe, tCall, tCons, tNil, tCB, tLst, tTup, tAnd, tOr, tNot, tAndV, tOrV, tNotV, tIf, tDrop, tSl, tPart, tNoPart, tChain, tUn, rU, L2.start, cx_K, bk_K, cx_calm, bk_calm, lenV_str, and_assoc, Option.join, List.length_map, List.length_append, decide_eq_true_eq, Bool.false_eq_true, if_false, if_true, Bool.not_true, Bool.not_false, Bool.not_eq_true', decide_eq_false_iff_not, Bool.true_eq_false, List.length_cons, List.length_nil, List.map_cons, List.map_nil, List.replicate, List.cons_append, List.nil_append, List.append_nil, List.getElem?_cons_zero, List.getElem?_cons_succ, List.set_cons_zero, List.set_cons_succ, Nat.reduceSub, Nat.reduceAdd, Option.some.injEq, V.int.injEq, V.str.injEq, V.bl.injEq, V.ref.injEq, List.cons.injEq, and_true, true_and, exists_eq_left', exists_eq_left, exists_and_left, exists_eq_right, exists_const, tBM, tBM0, rAppend, rPop, rIxL, rIxT, rIxS, rSlL, rSlT, rSlS, rCat, rCatT, tKGet, cx_w, bk_w, tDGet, tDisp, tPairs, tDNewK, cx_P]
    refine ⟨_, SqT.of hb, _, at0, _, SqT.of hb, _, at1, small (by simp), fun p1 h1 => hC _ _ _ ?_⟩
    have s1 := same_new h1 (.tup [.int l.i, .int l.j])
    exact ⟨es.trans s1, mapSnoc (f := fun l : Ln => dPr (l.i, l.j)) hl1 (DAts.same s1 hys) ⟨p1, _, rfl, upd_same, _, _, rfl, rfl, _, _, rfl, rfl, rfl⟩, _, rfl⟩
  obtain ⟨es, hys, o, rfl⟩ := e
  rw [hwl, List.take_of_length_le (Nat.le_refl _)] at hys
  refine hN _ _ ?_
  have s2 := same_new hpp (.lst ys)
  have kpp : upd H2 pp (.lst ys) pp = some (.lst ys) := upd_same
  replace es := es.trans s2
  replace hys := DAts.same s2 hys
  generalize upd H2 pp (.lst ys) = H3 at es kpp hys ⊢
  clear hN s2 hpp
  refine seq_abs fun N hN => ?_
  simp only [tSeq, tFor_eq, tLC_eq, iRng1, iRng2, iList, iTup, iStr, tIfS, tRet, tRetN, tNext, tAsg, gName, tVar, tC, tOp, rI0, rI, tTest, tB, rEq, rNe, tCall, tCons, tNil, tCB, tLst, tTup, tAnd, tOr, tNot, tAndV, tOrV, tNotV, tIf, tDrop, tSl, tPart, tNoPart, tChain, tUn, rU, L2.start, cx_K, bk_K, cx_calm, bk_calm, lenV_str, and_assoc, Option.join, List.length_map, List.length_append, decide_eq_true_eq, Bool.false_eq_true, if_false, if_true, Bool.not_true, Bool.not_false, Bool.not_eq_true', decide_eq_false_iff_not, Bool.true_eq_false, List.length_cons, List.length_nil, List.map_cons, List.map_nil, List.replicate, List.cons_append, List.nil_append, List.append_nil, List.getElem?_cons_zero, List.getElem?_cons_succ, List.set_cons_zero, List.set_cons_succ, Nat.reduceSub, Nat.reduceAdd, Option.some.injEq, V.int.injEq, V.str.injEq, V.bl.injEq, V.ref.injEq, List.cons.injEq, and_true, true_and, exists_eq_left', exists_eq_left, exists_and_left, exists_eq_right, exists_const, tBM, tBM0, rAppend, rPop, rIxL, rIxT, rIxS, rSlL, rSlT, rSlS, rCat, rCatT, tKGet, cx_w, bk_w, tDGet, tDisp, tPairs, tDNewK, cx_P]
  refine ⟨small (by simp), fun pl npl => hN _ _ ?_⟩
  have s4 := same_new npl (.lst [])
  have kpl : upd H3 pl (.lst []) pl = some (.lst []) := upd_same
  generalize upd H3 pl (.lst []) = H4 at s4 kpl ⊢
  clear hN
  refine seq_join (fun σ H' => ∃ (zs : List Int) (o : Option V), Same H3 H' ∧ H' pl = some (.lst (zs.map V.int)) ∧ zs.length = pus.length ∧ (∀ z ∈ zs, 0 ≤ z ∧ z < (ls.length : Int)) ∧ σ = [some (V.ref ru), some (V.ref la), some (V.int a), some (V.int r), some (V.ref pp), some (V.ref pl), o]) (fun N hN => ?_) (fun σ H' h => ?_)
  · simp only [tSeq, tFor_eq, tLC_eq, iRng1, iRng2, iList, iTup, iStr, tIfS, tRet, tRetN, tNext, tAsg, gName, tVar, tC, tOp, rI0, rI, tTest, tB, rEq, rNe, tCall, tCons, tNil, tCB, tLst, tTup, tAnd, tOr, tNot, tAndV, tOrV, tNotV, tIf, tDrop, tSl, tPart, tNoPart, tChain, tUn, rU, L2.start, cx_K, bk_K, cx_calm, bk_calm, lenV_str, and_assoc, Option.join, List.length_map, List.length_append, decide_eq_true_eq, Bool.false_eq_true, if_false, if_true, Bool.not_true, Bool.not_false, Bool.not_eq_true', decide_eq_false_iff_not, Bool.true_eq_false, List.length_cons, List.length_nil, List.map_cons, List.map_nil, List.replicate, List.cons_append, List.nil_append, List.append_nil, List.getElem?_cons_zero, List.getElem?_cons_succ, List.set_cons_zero, List.set_cons_succ, Nat.reduceSub, Nat.reduceAdd, Option.some.injEq, V.int.injEq, V.str.injEq, V.bl.injEq, V.ref.injEq, List.cons.injEq, and_true, true_and, exists_eq_left', exists_eq_left, exists_and_left, exists_eq_right, exists_const, tBM, tBM0, rAppend, rPop, rIxL, rIxT, rIxS, rSlL, rSlT, rSlS, rCat, rCatT, tKGet, cx_w, bk_w, tDGet, tDisp, tPairs, tDNewK, cx_P]
    refine ⟨_, SqL.of (s4 _ _ (es _ _ hru)), _, atI_nat hr1, a9, rfl, _, SqT.of (s4 _ _ (es _ _ ka9)), _, at0, l9, rfl, ⟨_, SqL.of (s4 _ _ (es _ _ kl9))⟩, ?_⟩
    refine fw_list (xs := pus) (fun i σ H' => ∃ (zs : List Int) (o : Option V), Same H3 H' ∧ H' pl = some (.lst (zs.map V.int)) ∧ zs.length = i ∧ (∀ z ∈ zs, 0 ≤ z ∧ z < (ls.length : Int)) ∧ σ = [some (V.ref ru), some (V.ref la), some (V.int a), some (V.int r), some (V.ref pp), some (V.ref pl), o]) ⟨[], _, s4, kpl, rfl, (fun z hz => by cases hz), rfl⟩ (fun i σ H' _ h => ?_) (fun i x σ H' hx h => ?_) (fun σ H' h => ?_)
    · obtain ⟨zs, o, s5, _⟩ := h
      exact SqL.of (s5 _ _ (es _ _ kl9))
    · obtain ⟨zs, o, s5, k5, hz, hzz, rfl⟩ := h
      have hi9 := (List.getElem?_eq_some_iff.mp hx).1
      obtain ⟨pr, _, hpr⟩ := mapGetV kp9 hx
      replace hpr := DAt.same (es.trans s5) hpr
      show tSeq _ _ _ _ _
      refine seq_abs fun N hN => ?_
      simp only [tSeq, tFor_eq, tLC_eq, iRng1, iRng2, iList, iTup, iStr, tIfS, tRet, tRetN, tNext, tAsg, gName, tVar, tC, tOp, rI0, rI, tTest, tB, rEq, rNe, tCall, tCons, tNil, tCB, tLst, tTup, tAnd, tOr, tNot, tAndV, tOrV, tNotV, tIf, tDrop, tSl, tPart, tNoPart, tChain, tUn, rU, L2.start, cx_K, bk_K, cx_calm, bk_calm, lenV_str, and_assoc, Option.join, List.length_map, List.length_append, decide_eq_true_eq, Bool.false_eq_true, if_false, if_true, Bool.not_true, Bool.not_false, Bool.not_eq_true', decide_eq_false_iff_not, Bool.true_eq_false, List.length_cons, List.length_nil, List.map_cons, List.map_nil, List.replicate, List.cons_append, List.nil_append, List.append_nil, List.getElem?_cons_zero, List.getElem?_cons_succ, List.set_cons_zero, List.set_cons_succ, Nat.reduceSub, Nat.reduceAdd, Option.some.injEq, V.int.injEq, V.str.injEq, V.bl.injEq, V.ref.injEq, List.cons.injEq, and_true, true_and, exists_eq_left', exists_eq_left, exists_and_left, exists_eq_right, exists_const, tBM, tBM0, rAppend, rPop, rIxL, rIxT, rIxS, rSlL, rSlT, rSlS, rCat, rCatT, tKGet, cx_w, bk_w, tDGet, tDisp, tPairs, tDNewK, cx_P]
      have fit : ∀ e ∈ ls.map fun l => dPr (l.i, l.j), DFit 1 e := fun e he => by
        obtain ⟨l, _, rfl⟩ := List.mem_map.mp he
        exact fit_pr 0 _
      have k5' := s5 _ _ kpp
      have hys5 := DAts.same s5 hys
      refine ⟨1, dPr pr, ls.map (fun l => dPr (l.i, l.j)), hpr, .inl ⟨pp, _, rfl, k5', hys5⟩, fit, by omega, _, rfl, ?_⟩
      cases hany : (ls.map fun l => dPr (l.i, l.j)).any fun e => deq e (dPr pr) with
      | false =>
        rw [if_pos (by decide)]
        exact q _ _ (es.trans s5) (.inl rfl)
      | true =>
        rw [if_neg (by decide)]
        refine hN _ _ ?_
        obtain ⟨jj, hj1, hj2⟩ := first_at hany
        simp only [tSeq, tFor_eq, tLC_eq, iRng1, iRng2, iList, iTup, iStr, tIfS, tRet, tRetN, tNext, tAsg, gName, tVar, tC, tOp, rI0, rI, tTest, tB, rEq, rNe, tCall, tCons, tNil, tCB, tLst, tTup, tAnd, tOr, tNot, tAndV, tOrV, tNotV, tIf, tDrop, tSl, tPart, tNoPart, tChain, tUn, rU, L2.start, cx_K, bk_K, cx_calm, bk_calm, lenV_str, and_assoc, Option.join, List.length_map, List.length_append, decide_eq_true_eq, Bool.false_eq_true, if_false, if_true, Bool.not_true, Bool.not_false, Bool.not_eq_true', decide_eq_false_iff_not, Bool.true_eq_false, List.length_cons, List.length_nil, List.map_cons, List.map_nil, List.replicate, List.cons_append, List.nil_append, List.append_nil, List.getElem?_cons_zero, List.getElem?_cons_succ, List.set_cons_zero, List.set_cons_succ, Nat.reduceSub, Nat.reduceAdd, Option.some.injEq, V.int.injEq, V.str.injEq, V.bl.injEq, V.ref.injEq, List.cons.injEq, and_true, true_and, exists_eq_left', exists_eq_left, exists_and_left, exists_eq_right, exists_const, tBM, tBM0, rAppend, rPop, rIxL, rIxT, rIxS, rSlL, rSlT, rSlS, rCat, rCatT, tKGet, cx_w, bk_w, tDGet, tDisp, tPairs, tDNewK, cx_P]
        refine ⟨.inl ⟨rfl, _, SqL.of k5⟩, .inl ⟨rfl, _, SqL.of k5'⟩, ?_⟩
        refine ⟨pp, ys, ls.map (fun l => dPr (l.i, l.j)), x, dPr pr, 1, jj, rfl, rfl, k5', hys5, hpr, fit, by omega, by rw [List.length_map]; omega, hj1, hj2, ?_⟩
        refine ⟨_, k5, small1000 (by rw [List.length_map]; omega), s5.upd npl, zs ++ [(jj : Int)], ?_, by simp [hz], fun z hz' => ?_, _, rfl⟩
        · rw [upd_same, List.map_append]
          rfl
        · rcases List.mem_append.mp hz' with hz' | hz'
          · exact hzz z hz'
          · obtain ⟨d', hj, _⟩ := hj1
            have := (List.getElem?_eq_some_iff.mp hj).1
            rw [List.length_map] at this
            rw [List.mem_singleton.mp hz']
            omega
    · obtain ⟨zs, o, s5, k5, hz, hzz, rfl⟩ := h
      exact hN _ _ ⟨zs, o, s5, k5, hz, hzz, rfl⟩
  obtain ⟨zs, o, s5, k5, hz, hzz, rfl⟩ := h
  simp only [tSeq, tFor_eq, tLC_eq, iRng1, iRng2, iList, iTup, iStr, tIfS, tRet, tRetN, tNext, tAsg, gName, tVar, tC, tOp, rI0, rI, tTest, tB, rEq, rNe, tCall, tCons, tNil, tCB, tLst, tTup, tAnd, tOr, tNot, tAndV, tOrV, tNotV, tIf, tDrop, tSl, tPart, tNoPart, tChain, tUn, rU, L2.start, cx_K, bk_K, cx_calm, bk_calm, lenV_str, and_assoc, Option.join, List.length_map, List.length_append, decide_eq_true_eq, Bool.false_eq_true, if_false, if_true, Bool.not_true, Bool.not_false, Bool.not_eq_true', decide_eq_false_iff_not, Bool.true_eq_false, List.length_cons, List.length_nil, List.map_cons, List.map_nil, List.replicate, List.cons_append, List.nil_append, List.append_nil, List.getElem?_cons_zero, List.getElem?_cons_succ, List.set_cons_zero, List.set_cons_succ, Nat.reduceSub, Nat.reduceAdd, Option.some.injEq, V.int.injEq, V.str.injEq, V.bl.injEq, V.ref.injEq, List.cons.injEq, and_true, true_and, exists_eq_left', exists_eq_left, exists_and_left, exists_eq_right, exists_const, tBM, tBM0, rAppend, rPop, rIxL, rIxT, rIxS, rSlL, rSlT, rSlS, rCat, rCatT, tKGet, cx_w, bk_w, tDGet, tDisp, tPairs, tDNewK, cx_P]
  have e5 := es.trans s5
  refine ⟨_, SqL.of (e5 _ _ hru), _, atI_nat hr1, a9, rfl, _, SqT.of (e5 _ _ ka9), _, at1, b9, rfl, _, SqT.of (e5 _ _ kb9), _, at0, _, SqL.of (e5 _ _ hru), _, atI_nat hr1, a9, rfl, _, SqT.of (e5 _ _ ka9), _, at1, b9, rfl, _, SqT.of (e5 _ _ kb9), _, at1, _, .inl ⟨SqL.of k5, fun pt hpt => ⟨small (by simp), ?_⟩⟩⟩
  have s6 := same_new hpt (.tup (zs.map V.int))
  exact ret1 (fun v l H' s d w => q v H' s (.inr ⟨l, d, w⟩)) (e5.trans s6) (as := [.n r, .ps zs]) ⟨_, _, rfl, rfl, _, _, rfl, atPs upd_same, rfl⟩ (glR _ r zs (by omega) hzz)
end
end C
set_option Elab.async false
set_option linter.all false
set_option maxRecDepth 100000
set_option maxHeartbeats 8000000
namespace C
open PySem L2
seal PE PT PW PA PS PSs PG PGs PI PPs PO PSet PIf
def spNx : Sp := fun vs H Q _ => ∃ (ra ru la : Addr) (us vs' ws : List V) (rows : List Rw) (rules : List NRul) (ls : List Ln) (way a : Int), vs = [.ref ra, .ref ru, .ref la, .int way, .int a] ∧ H ra = some (.lst us) ∧ RwAts H rows us ∧ 1 ≤ rows.length ∧ rows.length ≤ 100 ∧ H ru = some (.lst vs') ∧ DAts H (rules.map dNR) vs' ∧ rules.length ≤ 100 ∧ (∀ r ∈ rules, r.1.length ≤ 100) ∧ H la = some (.lst ws) ∧ LnAts H ls ws ∧ ls.length ≤ 100 ∧ ∀ v H', Same H H' → LnO ls.length H' v → Q v H'
section
variable {P : Program} {w : World} {K : PySem.W.Frag} {mg : Str → Option Value} {base : Heap} {f : Addr} {fd : FuncData}
theorem ok_next_line (bi : Bi mg) (h_law_turned : Has P w K mg base 1 "_law_turned" ["n"] spTurned) (h_law_plain_line : Has P w K mg base 1 "_law_plain_line" ["rows", "way", "a"] spPl) (h_law_rule_line : Has P w K mg base 1 "_law_rule_line" ["rules", "lines", "a"] spRl) (h_law_both_line : Has P w K mg base 1 "_law_both_line" ["rows", "lines", "a"] spBl)
    (F : Fun K "_law_next_line" "_law_next_line" s_law_next_line f fd) : FnOk P w K mg base CX0 2 f fd ["rows", "rules", "lines", "way", "a"] spNx := by
  refine F.ok sc_law_next_line (fun vs H Q E h => ?_) (fun cdv A outer s H vs Q E hr h => ?_)
  · obtain ⟨ra, ru, la, us, vs', ws, rows, rules, ls, way, a, rfl, _⟩ := h
    rfl
  obtain ⟨ra, ru, la, us, vs', ws, rows, rules, ls, way, a, rfl, hra, hrw, r1, r100, hru, hrl, u100, p100, hla, hls, l100, q⟩ := h
  have hul := mapLen hrw
  have hwl := mapLen hls
  have q1 : ∀ v l H', Same H H' → DAt H' (dLn l) v → GL ls.length l.w l.as → Q v H' := fun v l H' s d w => q v H' s (.inr ⟨l, d, w⟩)
  have line : ∀ {p : Nat}, p < ls.length → ∃ (l : Ln) (b : Addr) (u : V), ws[p]? = some (.ref b) ∧ H b = some (.tup [.int l.i, .int l.j, u]) := fun {p} hp => by
    obtain ⟨v, h1, h2⟩ := DAts.get (d := dLn ls[p]) hls (by rw [List.getElem?_map, List.getElem?_eq_getElem hp]; rfl)
    obtain ⟨b, u, rfl, h3, _⟩ := lnAt h2
    exact ⟨_, b, u, h1, h3⟩
  refine ⟨_, (pss_cons (ps_if (PW.pt (pw_or (pt_cmpR op_lt (pv 3) pe_int (nomark _)) (pw_or1 (pt_cmpR op_eq (pe_callB call_len rfl bi.len bt_len (pa_cons (pv 2) pa_nil)) pe_int (nomark _))))) (pss_one (ps_ret (pe_callH h_law_plain_line (hr.mono (by omega)) rfl (pa_cons (pv 0) (pa_cons (pe_op op_mod (pv 3) pe_int) (pa_cons (pv 4) pa_nil)))))) pss_nil) (pss_cons (ps_if (pt_cmpR op_lt (pv 3) pe_int (nomark _)) (pss_one (ps_ret (pe_callH h_law_rule_line (hr.mono (by omega)) rfl (pa_cons (pv 1) (pa_cons (pv 2) (pa_cons (pv 4) pa_nil)))))) pss_nil) (pss_cons (ps_if (pt_cmpR op_eq (pv 3) pe_int (nomark _)) (pss_one (ps_ret (pe_callH h_law_both_line (hr.mono (by omega)) rfl (pa_cons (pv 0) (pa_cons (pv 2) (pa_cons (pv 4) pa_nil)))))) pss_nil) (pss_cons (ps_set (i := 5) sc_law_next_line.nd rfl (Or.inl rfl) (pe_op op_mod (pv 4) (pe_callB call_len rfl bi.len bt_len (pa_cons (pv 2) pa_nil)))) (pss_cons (ps_set (i := 6) sc_law_next_line.nd rfl (Or.inl rfl) (pe_ix ix_tup (pe_ix ix_list (pv 2) (pv 5) (fun _ _ => rfl)) pe_int (fun _ _ => rfl))) (pss_cons (ps_set (i := 7) sc_law_next_line.nd rfl (Or.inr rfl) (pe_ix ix_tup (pe_ix ix_list (pv 2) (pv 5) (fun _ _ => rfl)) pe_int (fun _ _ => rfl))) (pss_cons (ps_if (pt_cmpR op_eq (pv 3) pe_int (nomark _)) (pss_one (ps_ret (pe_tup (pa_cons (pe_callH h_law_turned (hr.mono (by omega)) rfl (pa_cons (pv 7) pa_nil)) (pa_cons (pe_callH h_law_turned (hr.mono (by omega)) rfl (pa_cons (pv 6) pa_nil)) (pa_cons (pe_tup (pa_cons pe_str (pa_cons (pv 5) pa_nil))) pa_nil)))))) pss_nil) (pss_cons (ps_if (PW.pt (pw_and (pt_cmpR op_eq (pv 3) pe_int (nomark _)) (pw_and1 (pt_cmpR op_eq (pv 7) (pe_callH h_law_turned (hr.mono (by omega)) rfl (pa_cons (pv 6) pa_nil)) (nomark _))))) (pss_one (ps_ret (pe_tup (pa_cons (pv 6) (pa_cons (pe_op op_mod (pe_op op_fdiv (pv 4) pe_int) (pe_op op_mul pe_int (pe_callB call_len rfl bi.len bt_len (pa_cons (pv 0) pa_nil)))) (pa_cons (pe_tup (pa_cons pe_str (pa_cons (pv 5) pa_nil))) pa_nil)))))) pss_nil) (pss_cons (ps_comp (i := 8) ["q"] ["j", "lines"] [7, 2] sc_law_next_line.nd rfl (pi_range1 rfl bi.range (pa_cons (pe_callB call_len rfl bi.len bt_len (pa_cons (pv 2) pa_nil)) pa_nil)) (fun _ _ _ _ nd => pg_name (i := 0) nd rfl (Or.inl rfl)) (fun _ _ _ _ => pif_one (pt_cmpR op_eq (pe_ix (ix_tupK K) (pe_ix (ix_listK K) (pv 2) (pv 0) (fun _ _ => rfl)) pe_int (fun _ _ => rfl)) (pv 1) (nomark _))) (fun _ _ _ _ => (pv 0))) (pss_cons (ps_if (pt_cmpR op_eq (pe_callB call_len rfl bi.len bt_len (pa_cons (pv 8) pa_nil)) pe_int (nomark _)) (pss_one (ps_ret pe_non)) pss_nil) (pss_cons (ps_set (i := 9) sc_law_next_line.nd rfl (Or.inl rfl) (pe_ix ix_list (pv 8) (pe_op op_mod (pe_op op_fdiv (pv 4) pe_int) (pe_callB call_len rfl bi.len bt_len (pa_cons (pv 8) pa_nil))) (fun _ _ => rfl))) (pss_one (ps_ret (pe_tup (pa_cons (pv 6) (pa_cons (pe_ix ix_tup (pe_ix ix_list (pv 2) (pv 9) (fun _ _ => rfl)) pe_int (fun _ _ => rfl)) (pa_cons (pe_tup (pa_cons pe_str (pa_cons (pv 5) (pa_cons (pv 9) pa_nil)))) pa_nil))))))))))))))))), ?_⟩
  have plain : ∀ way' : Int, spPl [.ref ra, .int way', .int a] H Q E0 := fun way' => ⟨ra, us, rows, _, a, rfl, hra, hrw, r1, r100, fun v l H' s d w => q1 v l H' s d (w _)⟩
  refine seq_abs fun N hN => ?_
  simp only [tSeq, tFor_eq, tLC_eq, iRng1, iRng2, iList, iTup, iStr, tIfS, tRet, tRetN, tNext, tAsg, gName, tVar, tC, tOp, rI0, rI, tTest, tB, rEq, rNe, tCall, tCons, tNil, tCB, tLst, tTup, tAnd, tOr, tNot, tAndV, tOrV, tNotV, tIf, tDrop, tSl, tPart, tNoPart, tChain, tUn, rU, L2.start, cx_K, bk_K, cx_calm, bk_calm, lenV_str, and_assoc, Option.join, List.length_map, List.length_append, decide_eq_true_eq, Bool.false_eq_true, if_false, if_true, Bool.not_true, Bool.not_false, Bool.not_eq_true', decide_eq_false_iff_not, Bool.true_eq_false, List.length_cons, List.length_nil, List.map_cons, List.map_nil, List.replicate, List.cons_append, List.nil_append, List.append_nil, List.getElem?_cons_zero, List.getElem?_cons_succ, List.set_cons_zero, List.set_cons_succ, Nat.reduceSub, Nat.reduceAdd, Option.some.injEq, V.int.injEq, V.str.injEq, V.bl.injEq, V.ref.injEq, List.cons.injEq, and_true, true_and, exists_eq_left', exists_eq_left, exists_and_left, exists_eq_right, exists_const, tBM, tBM0, rAppend, rPop, rIxL, rIxT, rIxS, rSlL, rSlT, rSlS, rCat, rCatT, tKGet, cx_w, bk_w, tDGet, tDisp, tPairs, tDNewK, cx_P]
  by_cases w3 : way < 3
  · rw [if_pos w3]
    exact ⟨by decide, plain _⟩
  rw [if_neg w3]
  refine ⟨_, .inl ⟨_, SqL.of hla, rfl⟩, rfl, ?_⟩
  by_cases l0 : ws.length = 0
  · rw [if_pos (by omega)]
    exact ⟨by decide, plain _⟩
  rw [if_neg (by omega)]
  refine hN _ _ ?_
  refine seq_abs fun N hN => ?_
  simp only [tSeq, tFor_eq, tLC_eq, iRng1, iRng2, iList, iTup, iStr, tIfS, tRet, tRetN, tNext, tAsg, gName, tVar, tC, tOp, rI0, rI, tTest, tB, rEq, rNe, tCall, tCons, tNil, tCB, tLst, tTup, tAnd, tOr, tNot, tAndV, tOrV, tNotV, tIf, tDrop, tSl, tPart, tNoPart, tChain, tUn, rU, L2.start, cx_K, bk_K, cx_calm, bk_calm, lenV_str, and_assoc, Option.join, List.length_map, List.length_append, decide_eq_true_eq, Bool.false_eq_true, if_false, if_true, Bool.not_true, Bool.not_false, Bool.not_eq_true', decide_eq_false_iff_not, Bool.true_eq_false, List.length_cons, List.length_nil, List.map_cons, List.map_nil, List.replicate, List.cons_append, List.nil_append, List.append_nil, List.getElem?_cons_zero, List.getElem?_cons_succ, List.set_cons_zero, List.set_cons_succ, Nat.reduceSub, Nat.reduceAdd, Option.some.injEq, V.int.injEq, V.str.injEq, V.bl.injEq, V.ref.injEq, List.cons.injEq, and_true, true_and, exists_eq_left', exists_eq_left, exists_and_left, exists_eq_right, exists_const, tBM, tBM0, rAppend, rPop, rIxL, rIxT, rIxS, rSlL, rSlT, rSlS, rCat, rCatT, tKGet, cx_w, bk_w, tDGet, tDisp, tPairs, tDNewK, cx_P]
  by_cases w5 : way < 5
  · rw [if_pos w5]
    exact ⟨ru, la, vs', ws, rules, ls, a, rfl, hru, hrl, u100, p100, hla, hls, l100, q⟩
  rw [if_neg w5]
  refine hN _ _ ?_
  refine seq_abs fun N hN => ?_
  simp only [tSeq, tFor_eq, tLC_eq, iRng1, iRng2, iList, iTup, iStr, tIfS, tRet, tRetN, tNext, tAsg, gName, tVar, tC, tOp, rI0, rI, tTest, tB, rEq, rNe, tCall, tCons, tNil, tCB, tLst, tTup, tAnd, tOr, tNot, tAndV, tOrV, tNotV, tIf, tDrop, tSl, tPart, tNoPart, tChain, tUn, rU, L2.start, cx_K, bk_K, cx_calm, bk_calm, lenV_str, and_assoc, Option.join, List.length_map, List.length_append, decide_eq_true_eq, Bool.false_eq_true, if_false, if_true, Bool.not_true, Bool.not_false, Bool.not_eq_true', decide_eq_false_iff_not, Bool.true_eq_false, List.length_cons, List.length_nil, List.map_cons, List.map_nil, List.replicate, List.cons_append, List.nil_append, List.append_nil, List.getElem?_cons_zero, List.getElem?_cons_succ, List.set_cons_zero, List.set_cons_succ, Nat.reduceSub, Nat.reduceAdd, Option.some.injEq, V.int.injEq, V.str.injEq, V.bl.injEq, V.ref.injEq, List.cons.injEq, and_true, true_and, exists_eq_left', exists_eq_left, exists_and_left, exists_eq_right, exists_const, tBM, tBM0, rAppend, rPop, rIxL, rIxT, rIxS, rSlL, rSlT, rSlS, rCat, rCatT, tKGet, cx_w, bk_w, tDGet, tDisp, tPairs, tDNewK, cx_P]
  refine ⟨rfl, ?_⟩
  by_cases w6 : way = 5
  · rw [if_pos w6]
    exact ⟨ra, la, us, ws, rows, ls, a, rfl, hra, hrw, r100, hla, hls, l100, q⟩
  rw [if_neg w6]
  refine hN _ _ ?_
  refine seq_abs fun N hN => ?_
  simp only [tSeq, tFor_eq, tLC_eq, iRng1, iRng2, iList, iTup, iStr, tIfS, tRet, tRetN, tNext, tAsg, gName, tVar, tC, tOp, rI0, rI, tTest, tB, rEq, rNe, tCall, tCons, tNil, tCB, tLst, tTup, tAnd, tOr, tNot, tAndV, tOrV, tNotV, tIf, tDrop, tSl, tPart, tNoPart, tChain, tUn, rU, L2.start, cx_K, bk_K, cx_calm, bk_calm, lenV_str, and_assoc, Option.join, List.length_map, List.length_append, decide_eq_true_eq, Bool.false_eq_true, if_false, if_true, Bool.not_true, Bool.not_false, Bool.not_eq_true', decide_eq_false_iff_not, Bool.true_eq_false, List.length_cons, List.length_nil, List.map_cons, List.map_nil, List.replicate, List.cons_append, List.nil_append, List.append_nil, List.getElem?_cons_zero, List.getElem?_cons_succ, List.set_cons_zero, List.set_cons_succ, Nat.reduceSub, Nat.reduceAdd, Option.some.injEq, V.int.injEq, V.str.injEq, V.bl.injEq, V.ref.injEq, List.cons.injEq, and_true, true_and, exists_eq_left', exists_eq_left, exists_and_left, exists_eq_right, exists_const, tBM, tBM0, rAppend, rPop, rIxL, rIxT, rIxS, rSlL, rSlT, rSlS, rCat, rCatT, tKGet, cx_w, bk_w, tDGet, tDisp, tPairs, tDNewK, cx_P]
  refine ⟨_, .inl ⟨_, SqL.of hla, rfl⟩, by omega, hN _ _ ?_⟩
  have hm : ∃ m : Nat, m < ls.length ∧ a % (ws.length : Int) = m := by
    have e1 := Int.emod_nonneg a (b := (ws.length : Int)) (by omega)
    have e2 := Int.emod_lt_of_pos a (b := (ws.length : Int)) (by omega)
    exact ⟨(a % (ws.length : Int)).toNat, by omega, by omega⟩
  obtain ⟨p, hp, ep⟩ := hm
  rw [ep]
  obtain ⟨pl, pb, pu, hp1, hp2⟩ := line hp
  refine seq_abs fun N hN => ?_
  simp only [tSeq, tFor_eq, tLC_eq, iRng1, iRng2, iList, iTup, iStr, tIfS, tRet, tRetN, tNext, tAsg, gName, tVar, tC, tOp, rI0, rI, tTest, tB, rEq, rNe, tCall, tCons, tNil, tCB, tLst, tTup, tAnd, tOr, tNot, tAndV, tOrV, tNotV, tIf, tDrop, tSl, tPart, tNoPart, tChain, tUn, rU, L2.start, cx_K, bk_K, cx_calm, bk_calm, lenV_str, and_assoc, Option.join, List.length_map, List.length_append, decide_eq_true_eq, Bool.false_eq_true, if_false, if_true, Bool.not_true, Bool.not_false, Bool.not_eq_true', decide_eq_false_iff_not, Bool.true_eq_false, List.length_cons, List.length_nil, List.map_cons, List.map_nil, List.replicate, List.cons_append, List.nil_append, List.append_nil, List.getElem?_cons_zero, List.getElem?_cons_succ, List.set_cons_zero, List.set_cons_succ, Nat.reduceSub, Nat.reduceAdd, Option.some.injEq, V.int.injEq, V.str.injEq, V.bl.injEq, V.ref.injEq, List.cons.injEq, and_true, true_and, exists_eq_left', exists_eq_left, exists_and_left, exists_eq_right, exists_const, tBM, tBM0, rAppend, rPop, rIxL, rIxT, rIxS, rSlL, rSlT, rSlS, rCat, rCatT, tKGet, cx_w, bk_w, tDGet, tDisp, tPairs, tDNewK, cx_P]
  refine ⟨_, SqL.of hla, _, atI_nat hp1, pb, rfl, _, SqT.of hp2, _, at0, hN _ _ ?_⟩
  refine seq_abs fun N hN => ?_
  simp only [tSeq, tFor_eq, tLC_eq, iRng1, iRng2, iList, iTup, iStr, tIfS, tRet, tRetN, tNext, tAsg, gName, tVar, tC, tOp, rI0, rI, tTest, tB, rEq, rNe, tCall, tCons, tNil, tCB, tLst, tTup, tAnd, tOr, tNot, tAndV, tOrV, tNotV, tIf, tDrop, tSl, tPart, tNoPart, tChain, tUn, rU, L2.start, cx_K, bk_K, cx_calm, bk_calm, lenV_str, and_assoc, Option.join, List.length_map, List.length_append, decide_eq_true_eq, Bool.false_eq_true, if_false, if_true, Bool.not_true, Bool.not_false, Bool.not_eq_true', decide_eq_false_iff_not, Bool.true_eq_false, List.length_cons, List.length_nil, List.map_cons, List.map_nil, List.replicate, List.cons_append, List.nil_append, List.append_nil, List.getElem?_cons_zero, List.getElem?_cons_succ, List.set_cons_zero, List.set_cons_succ, Nat.reduceSub, Nat.reduceAdd, Option.some.injEq, V.int.injEq, V.str.injEq, V.bl.injEq, V.ref.injEq, List.cons.injEq, and_true, true_and, exists_eq_left', exists_eq_left, exists_and_left, exists_eq_right, exists_const, tBM, tBM0, rAppend, rPop, rIxL, rIxT, rIxS, rSlL, rSlT, rSlS, rCat, rCatT, tKGet, cx_w, bk_w, tDGet, tDisp, tPairs, tDNewK, cx_P]
  refine ⟨_, SqL.of hla, _, atI_nat hp1, pb, rfl, _, SqT.of hp2, _, at1, hN _ _ ?_⟩
  refine seq_abs fun N hN => ?_
  simp only [tSeq, tFor_eq, tLC_eq, iRng1, iRng2, iList, iTup, iStr, tIfS, tRet, tRetN, tNext, tAsg, gName, tVar, tC, tOp, rI0, rI, tTest, tB, rEq, rNe, tCall, tCons, tNil, tCB, tLst, tTup, tAnd, tOr, tNot, tAndV, tOrV, tNotV, tIf, tDrop, tSl, tPart, tNoPart, tChain, tUn, rU, L2.start, cx_K, bk_K, cx_calm, bk_calm, lenV_str, and_assoc, Option.join, List.length_map, List.length_append, decide_eq_true_eq, Bool.false_eq_true, if_false, if_true, Bool.not_true, Bool.not_false, Bool.not_eq_true', decide_eq_false_iff_not, Bool.true_eq_false, List.length_cons, List.length_nil, List.map_cons, List.map_nil, List.replicate, List.cons_append, List.nil_append, List.append_nil, List.getElem?_cons_zero, List.getElem?_cons_succ, List.set_cons_zero, List.set_cons_succ, Nat.reduceSub, Nat.reduceAdd, Option.some.injEq, V.int.injEq, V.str.injEq, V.bl.injEq, V.ref.injEq, List.cons.injEq, and_true, true_and, exists_eq_left', exists_eq_left, exists_and_left, exists_eq_right, exists_const, tBM, tBM0, rAppend, rPop, rIxL, rIxT, rIxS, rSlL, rSlT, rSlS, rCat, rCatT, tKGet, cx_w, bk_w, tDGet, tDisp, tPairs, tDNewK, cx_P]
  refine ⟨rfl, ?_⟩
  by_cases w7 : way = 6
  · rw [if_pos w7]
    refine ⟨_, rfl, _, rfl, small (by simp), ?_⟩
    exact ret1 q1 (Same.refl H) (as := [.n p]) (atNs _ [(p : Int)]) (glN _ "turn" (by decide) [(p : Int)] (by simp) (gl1 hp))
  rw [if_neg w7]
  refine hN _ _ ?_
  refine seq_abs fun N hN => ?_
  simp only [tSeq, tFor_eq, tLC_eq, iRng1, iRng2, iList, iTup, iStr, tIfS, tRet, tRetN, tNext, tAsg, gName, tVar, tC, tOp, rI0, rI, tTest, tB, rEq, rNe, tCall, tCons, tNil, tCB, tLst, tTup, tAnd, tOr, tNot, tAndV, tOrV, tNotV, tIf, tDrop, tSl, tPart, tNoPart, tChain, tUn, rU, L2.start, cx_K, bk_K, cx_calm, bk_calm, lenV_str, and_assoc, Option.join, List.length_map, List.length_append, decide_eq_true_eq, Bool.false_eq_true, if_false, if_true, Bool.not_true, Bool.not_false, Bool.not_eq_true', decide_eq_false_iff_not, Bool.true_eq_false, List.length_cons, List.length_nil, List.map_cons, List.map_nil, List.replicate, List.cons_append, List.nil_append, List.append_nil, List.getElem?_cons_zero, List.getElem?_cons_succ, List.set_cons_zero, List.set_cons_succ, Nat.reduceSub, Nat.reduceAdd, Option.some.injEq, V.int.injEq, V.str.injEq, V.bl.injEq, V.ref.injEq, List.cons.injEq, and_true, true_and, exists_eq_left', exists_eq_left, exists_and_left, exists_eq_right, exists_const, tBM, tBM0, rAppend, rPop, rIxL, rIxT, rIxS, rSlL, rSlT, rSlS, rCat, rCatT, tKGet, cx_w, bk_w, tDGet, tDisp, tPairs, tDNewK, cx_P]
  refine ⟨rfl, ?_⟩
  suffices rest : N [some (V.ref ra), some (V.ref ru), some (V.ref la), some (V.int way), some (V.int a), some (V.int p), some (V.int pl.i), some (V.int pl.j), none, none] H by
    by_cases w8 : way = 7
    · rw [if_pos w8]
      refine ⟨_, rfl, rfl, ?_⟩
      split
      · refine ⟨⟨by decide, by decide⟩, _, .inl ⟨_, SqL.of hra, rfl⟩, .inl ⟨by decide, by decide⟩, by omega, small (by simp), ?_⟩
        exact ret1 q1 (Same.refl H) (as := [.n p]) (atNs _ [(p : Int)]) (glN _ "clash" (by decide) [(p : Int)] (by simp) (gl1 hp))
      · exact rest
    · rw [if_neg w8]
      exact rest
  refine hN _ _ ?_
  refine seq_abs fun N hN => ?_
  simp only [tSeq, tFor_eq, tLC_eq, iRng1, iRng2, iList, iTup, iStr, tIfS, tRet, tRetN, tNext, tAsg, gName, tVar, tC, tOp, rI0, rI, tTest, tB, rEq, rNe, tCall, tCons, tNil, tCB, tLst, tTup, tAnd, tOr, tNot, tAndV, tOrV, tNotV, tIf, tDrop, tSl, tPart, tNoPart, tChain, tUn, rU, L2.start, cx_K, bk_K, cx_calm, bk_calm, lenV_str, and_assoc, Option.join, List.length_map, List.length_append, decide_eq_true_eq, Bool.false_eq_true, if_false, if_true, Bool.not_true, Bool.not_false, Bool.not_eq_true', decide_eq_false_iff_not, Bool.true_eq_false, List.length_cons, List.length_nil, List.map_cons, List.map_nil, List.replicate, List.cons_append, List.nil_append, List.append_nil, List.getElem?_cons_zero, List.getElem?_cons_succ, List.set_cons_zero, List.set_cons_succ, Nat.reduceSub, Nat.reduceAdd, Option.some.injEq, V.int.injEq, V.str.injEq, V.bl.injEq, V.ref.injEq, List.cons.injEq, and_true, true_and, exists_eq_left', exists_eq_left, exists_and_left, exists_eq_right, exists_const, tBM, tBM0, rAppend, rPop, rIxL, rIxT, rIxS, rSlL, rSlT, rSlS, rCat, rCatT, tKGet, cx_w, bk_w, tDGet, tDisp, tPairs, tDNewK, cx_P]
  refine ⟨ws.length, .inl ⟨_, SqL.of hla, rfl⟩, by omega, by omega, ?_⟩
  refine lc_rangeIf (lo := 0) (n := (ws.length : Int).toNat) (fun i ys σ H' => H' = H ∧ ys.length ≤ i ∧ (∃ ks : List Nat, ys = ks.map (fun k : Nat => V.int k) ∧ ∀ k ∈ ks, k < ls.length) ∧ ∃ o, σ = [o, some (V.int pl.j), some (V.ref la)]) ⟨rfl, Nat.le_refl _, ⟨[], rfl, fun k z => by cases z⟩, _, rfl⟩ (small (by omega)) (fun i ys σ H' e => e.2.1) (fun i ys σ H' C D hi e hC hD => ?_) (fun ys σ H' e p4 hp4 => ?_)
  · obtain ⟨rfl, hl, ⟨ks, rfl, hks⟩, o, rfl⟩ := e
    have hi' : i < ls.length := by omega
    obtain ⟨l, b, u, h1, h2⟩ := line hi'
    simp only [tSeq, tFor_eq, tLC_eq, iRng1, iRng2, iList, iTup, iStr, tIfS, tRet, tRetN, tNext, tAsg, gName, tVar, tC, tOp, rI0, rI, tTest, tB, rEq, rNe, tCall, tCons, tNil, tCB, tLst, tTup, tAnd, tOr, tNot, tAndV, tOrV, tNotV, tIf, tDrop, tSl, tPart, tNoPart, tChain, tUn, rU, L2.start, cx_K, bk_K, cx_calm, bk_calm, lenV_str, and_assoc, Option.join, List.length_map, List.length_append, decide_eq_true_eq, Bool.false_eq_true, if_false, if_true, Bool.not_true, Bool.not_false, Bool.not_eq_true', decide_eq_false_iff_not, Bool.true_eq_false, List.length_cons, List.length_nil, List.map_cons, List.map_nil, List.replicate, List.cons_append, List.nil_append, List.append_nil, List.getElem?_cons_zero, List.getElem?_cons_succ, List.set_cons_zero, List.set_cons_succ, Nat.reduceSub, Nat.reduceAdd, Option.some.injEq, V.int.injEq, V.str.injEq, V.bl.injEq, V.ref.injEq, List.cons.injEq, and_true, true_and, exists_eq_left', exists_eq_left, exists_and_left, exists_eq_right, exists_const, tBM, tBM0, rAppend, rPop, rIxL, rIxT, rIxS, rSlL, rSlT, rSlS, rCat, rCatT, tKGet, cx_w, bk_w, tDGet, tDisp, tPairs, tDNewK, cx_P]
    refine ⟨_, SqL.of hla, _, at_toNat (by omega) (by rw [show (0 + (i : Int)).toNat = i by omega]; exact h1), b, rfl, _, SqT.of h2, _, at0, rfl, ?_⟩
    split
    · refine hC _ _ _ ⟨rfl, by simp at hl ⊢; omega, ⟨ks ++ [i], by rw [List.map_append]; simp, fun k hk => ?_⟩, _, rfl⟩
      rcases List.mem_append.mp hk with hk | hk
      · exact hks k hk
      · rw [List.mem_singleton.mp hk]; exact hi'
    · exact hD _ _ ⟨rfl, by omega, ⟨ks, rfl, hks⟩, _, rfl⟩
  obtain ⟨rfl, hl, ⟨ks, rfl, hks⟩, o, rfl⟩ := e
  refine hN _ _ ?_
  have g4 := same_new hp4 (.lst (ks.map fun k : Nat => V.int k))
  have z4 : upd H' p4 (.lst (ks.map fun k : Nat => V.int k)) p4 = some (.lst (ks.map fun k : Nat => V.int k)) := upd_same
  generalize upd H' p4 (.lst (ks.map fun k : Nat => V.int k)) = H4 at g4 z4 ⊢
  refine seq_abs fun N hN => ?_
  simp only [tSeq, tFor_eq, tLC_eq, iRng1, iRng2, iList, iTup, iStr, tIfS, tRet, tRetN, tNext, tAsg, gName, tVar, tC, tOp, rI0, rI, tTest, tB, rEq, rNe, tCall, tCons, tNil, tCB, tLst, tTup, tAnd, tOr, tNot, tAndV, tOrV, tNotV, tIf, tDrop, tSl, tPart, tNoPart, tChain, tUn, rU, L2.start, cx_K, bk_K, cx_calm, bk_calm, lenV_str, and_assoc, Option.join, List.length_map, List.length_append, decide_eq_true_eq, Bool.false_eq_true, if_false, if_true, Bool.not_true, Bool.not_false, Bool.not_eq_true', decide_eq_false_iff_not, Bool.true_eq_false, List.length_cons, List.length_nil, List.map_cons, List.map_nil, List.replicate, List.cons_append, List.nil_append, List.append_nil, List.getElem?_cons_zero, List.getElem?_cons_succ, List.set_cons_zero, List.set_cons_succ, Nat.reduceSub, Nat.reduceAdd, Option.some.injEq, V.int.injEq, V.str.injEq, V.bl.injEq, V.ref.injEq, List.cons.injEq, and_true, true_and, exists_eq_left', exists_eq_left, exists_and_left, exists_eq_right, exists_const, tBM, tBM0, rAppend, rPop, rIxL, rIxT, rIxS, rSlL, rSlT, rSlS, rCat, rCatT, tKGet, cx_w, bk_w, tDGet, tDisp, tPairs, tDNewK, cx_P]
  refine ⟨_, .inl ⟨_, SqL.of z4, rfl⟩, rfl, ?_⟩
  by_cases h0 : ks.length = 0
  · rw [if_pos (by rw [List.length_map]; omega)]
    exact q _ _ g4 (.inl rfl)
  rw [if_neg (by rw [List.length_map]; omega)]
  refine hN _ _ ?_
  refine seq_abs fun N hN => ?_
  simp only [tSeq, tFor_eq, tLC_eq, iRng1, iRng2, iList, iTup, iStr, tIfS, tRet, tRetN, tNext, tAsg, gName, tVar, tC, tOp, rI0, rI, tTest, tB, rEq, rNe, tCall, tCons, tNil, tCB, tLst, tTup, tAnd, tOr, tNot, tAndV, tOrV, tNotV, tIf, tDrop, tSl, tPart, tNoPart, tChain, tUn, rU, L2.start, cx_K, bk_K, cx_calm, bk_calm, lenV_str, and_assoc, Option.join, List.length_map, List.length_append, decide_eq_true_eq, Bool.false_eq_true, if_false, if_true, Bool.not_true, Bool.not_false, Bool.not_eq_true', decide_eq_false_iff_not, Bool.true_eq_false, List.length_cons, List.length_nil, List.map_cons, List.map_nil, List.replicate, List.cons_append, List.nil_append, List.append_nil, List.getElem?_cons_zero, List.getElem?_cons_succ, List.set_cons_zero, List.set_cons_succ, Nat.reduceSub, Nat.reduceAdd, Option.some.injEq, V.int.injEq, V.str.injEq, V.bl.injEq, V.ref.injEq, List.cons.injEq, and_true, true_and, exists_eq_left', exists_eq_left, exists_and_left, exists_eq_right, exists_const, tBM, tBM0, rAppend, rPop, rIxL, rIxT, rIxS, rSlL, rSlT, rSlS, rCat, rCatT, tKGet, cx_w, bk_w, tDGet, tDisp, tPairs, tDNewK, cx_P]
  refine ⟨⟨by decide, by decide⟩, _, .inl ⟨_, SqL.of z4, rfl⟩, by rw [List.length_map]; omega, _, SqL.of z4, ?_⟩
  rw [List.length_map]
  have hk' : 0 ≤ a / 61 % (ks.length : Int) ∧ a / 61 % (ks.length : Int) < ks.length := ⟨Int.emod_nonneg _ (by omega), Int.emod_lt_of_pos _ (by omega)⟩
  generalize a / 61 % (ks.length : Int) = m at hk'
  have hm : m.toNat < ks.length := by omega
  refine ⟨_, at_toNat hk'.1 (by rw [List.getElem?_map, List.getElem?_eq_getElem hm]; rfl), hN _ _ ?_⟩
  have hq : ks[m.toNat] < ls.length := hks _ (List.getElem_mem hm)
  generalize ks[m.toNat] = q' at hq
  obtain ⟨ql, qb, qu, hq1, hq2⟩ := line hq
  simp only [tSeq, tFor_eq, tLC_eq, iRng1, iRng2, iList, iTup, iStr, tIfS, tRet, tRetN, tNext, tAsg, gName, tVar, tC, tOp, rI0, rI, tTest, tB, rEq, rNe, tCall, tCons, tNil, tCB, tLst, tTup, tAnd, tOr, tNot, tAndV, tOrV, tNotV, tIf, tDrop, tSl, tPart, tNoPart, tChain, tUn, rU, L2.start, cx_K, bk_K, cx_calm, bk_calm, lenV_str, and_assoc, Option.join, List.length_map, List.length_append, decide_eq_true_eq, Bool.false_eq_true, if_false, if_true, Bool.not_true, Bool.not_false, Bool.not_eq_true', decide_eq_false_iff_not, Bool.true_eq_false, List.length_cons, List.length_nil, List.map_cons, List.map_nil, List.replicate, List.cons_append, List.nil_append, List.append_nil, List.getElem?_cons_zero, List.getElem?_cons_succ, List.set_cons_zero, List.set_cons_succ, Nat.reduceSub, Nat.reduceAdd, Option.some.injEq, V.int.injEq, V.str.injEq, V.bl.injEq, V.ref.injEq, List.cons.injEq, and_true, true_and, exists_eq_left', exists_eq_left, exists_and_left, exists_eq_right, exists_const, tBM, tBM0, rAppend, rPop, rIxL, rIxT, rIxS, rSlL, rSlT, rSlS, rCat, rCatT, tKGet, cx_w, bk_w, tDGet, tDisp, tPairs, tDNewK, cx_P]
  refine ⟨_, SqL.of (g4 _ _ hla), _, atI_nat hq1, qb, rfl, _, SqT.of (g4 _ _ hq2), _, at1, small (by simp), ?_⟩
  exact ret1 q1 g4 (as := [.n p, .n q']) (atNs _ [(p : Int), q']) (glN _ "chain" (by decide) [(p : Int), q'] (by simp) (gl2 hp hq))
end
end C
set_option Elab.async false
set_option linter.all false
set_option maxRecDepth 100000
set_option maxHeartbeats 8000000
namespace C
open PySem L2
seal PE PT PW PA PS PSs PG PGs PI PPs PO PSet PIf
abbrev s_law_derived : Stmt := top 16
theorem sc_law_derived : FnScope ["rows", "rules", "script", "lines", "raw", "cell", "line"] ["rows", "rules", "script"] (defScope s_law_derived) := ⟨rfl, rfl, rfl, by decide +kernel, rfl, by decide +kernel, by decide +kernel⟩
def spDe (K : PySem.W.Frag) : Sp := fun vs H Q _ => ∃ (ra ru sa : Addr) (us vs' : List V) (ns : List Int) (rows : List Rw) (rules : List NRul), vs = [.ref ra, .ref ru, .ref sa] ∧ H ra = some (.lst us) ∧ RwAts H rows us ∧ 1 ≤ rows.length ∧ rows.length ≤ 100 ∧ H ru = some (.lst vs') ∧ DAts H (rules.map dNR) vs' ∧ rules.length ≤ 100 ∧ (∀ r ∈ rules, r.1.length ≤ 100) ∧ SqL K H sa (ns.map V.int) ∧ ns.length ≤ 63 ∧
  ∀ la ws ls H', Same H H' → H la = none → H' la = some (.lst ws) → LnAts H' ls ws → ls.length ≤ 63 → (∀ (i : Nat) (l : Ln), ls[i]? = some l → GL i l.w l.as) → Q (.ref la) H'
section
variable {P : Program} {w : World} {K : PySem.W.Frag} {mg : Str → Option Value} {base : Heap} {f : Addr} {fd : FuncData}
theorem ok_derived (bi : Bi mg) (h_law_next_line : Has P w K mg base 2 "_law_next_line" ["rows", "rules", "lines", "way", "a"] spNx)
    (F : Fun K "_law_derived" "_law_derived" s_law_derived f fd) : FnOk P w K mg base CX0 3 f fd ["rows", "rules", "script"] (spDe K) := by
  refine F.ok sc_law_derived (fun vs H Q E h => ?_) (fun cdv A outer s H vs Q E hr h => ?_)
  · obtain ⟨ra, ru, sa, us, vs', ns, rows, rules, rfl, _⟩ := h
    rfl
  obtain ⟨ra, ru, sa, us, vs', ns, rows, rules, rfl, hra, hrw, r1, r100, hru, hrl, u100, p100, hS, n63, q⟩ := h
  refine ⟨_, (pss_cons (ps_set (i := 3) sc_law_derived.nd rfl (Or.inl rfl) (pe_lst pa_nil)) (pss_cons (ps_for PassesOwn.never rfl (pi_list (pe_slice sl_list (pv 2) po_none (po_some pe_int))) (pg_name (i := 4) sc_law_derived.nd rfl (Or.inl rfl)) (pss_cons (ps_set (i := 5) sc_law_derived.nd rfl (Or.inl rfl) (pe_op op_mod (pv 4) (pe_op op_pow pe_int pe_int))) (pss_cons (ps_set (i := 6) sc_law_derived.nd rfl (Or.inl rfl) (pe_callH h_law_next_line (hr.mono (by omega)) rfl (pa_cons (pv 0) (pa_cons (pv 1) (pa_cons (pv 3) (pa_cons (pe_op op_mod (pv 5) pe_int) (pa_cons (pe_op op_mod (pe_op op_mul (pe_op op_fdiv (pv 5) pe_int) pe_int) pe_int) pa_nil))))))) (pss_one (ps_if (PW.pt (pw_and (pt_cmpR op_notN (pv 6) pe_non (nomark _)) (pw_and1 (pt_cmpR (op_notInG hr.units) (pe_tup (pa_cons (pe_ix ix_tup (pv 6) pe_int (fun _ _ => rfl)) (pa_cons (pe_ix ix_tup (pv 6) pe_int (fun _ _ => rfl)) pa_nil))) (pe_comp ["one"] [] [] (pi_list (pv 3)) (fun _ _ _ _ nd => pg_name (i := 0) nd rfl (Or.inl rfl)) (fun _ _ _ _ => pif_nil) (fun _ _ _ _ => (pe_tup (pa_cons (pe_ix (ix_tupK K) (pv 0) pe_int (fun _ _ => rfl)) (pa_cons (pe_ix (ix_tupK K) (pv 0) pe_int (fun _ _ => rfl)) pa_nil))))) (by with_unfolding_all rfl))))) (pss_one (ps_expr (pe_bm PySem.F.plainAttrs_list PySem.F.slot_list_append PySem.F.type_list_append mt_append (pv 3) (pa_cons (pv 6) pa_nil)))) pss_nil))))) (pss_one (ps_ret (pv 3))))), ?_⟩
  refine seq_abs fun N hN => ?_
  simp only [tSeq, tFor_eq, tLC_eq, iRng1, iRng2, iList, iTup, iStr, tIfS, tRet, tRetN, tNext, tAsg, gName, tVar, tC, tOp, rI0, rI, tTest, tB, rEq, rNe, tCall, tCons, tNil, tCB, tLst, tTup, tAnd, tOr, tNot, tAndV, tOrV, tNotV, tIf, tDrop, tSl, tPart, tNoPart, tChain, tUn, rU, L2.start, cx_K, bk_K, cx_calm, bk_calm, lenV_str, and_assoc, Option.join, List.length_map, List.length_append, decide_eq_true_eq, Bool.false_eq_true, if_false, if_true, Bool.not_true, Bool.not_false, Bool.not_eq_true', decide_eq_false_iff_not, Bool.true_eq_false, List.length_cons, List.length_nil, List.map_cons, List.map_nil, List.replicate, List.cons_append, List.nil_append, List.append_nil, List.getElem?_cons_zero, List.getElem?_cons_succ, List.set_cons_zero, List.set_cons_succ, Nat.reduceSub, Nat.reduceAdd, Option.some.injEq, V.int.injEq, V.str.injEq, V.bl.injEq, V.ref.injEq, List.cons.injEq, and_true, true_and, exists_eq_left', exists_eq_left, exists_and_left, exists_eq_right, exists_const, tBM, tBM0, rAppend, rPop, rIxL, rIxT, rIxS, rSlL, rSlT, rSlS, rCat, rCatT, tKGet, cx_w, bk_w, tDGet, tDisp, tPairs, tDNewK, cx_P]
  refine ⟨small (by simp), fun la nla => hN _ _ ?_⟩
  have s1 := same_new nla (.lst [])
  have kla : upd H la (.lst []) la = some (.lst []) := upd_same
  generalize upd H la (.lst []) = H1 at s1 kla ⊢
  clear hN
  refine seq_join (fun σ H' => ∃ (ws : List V) (ls : List Ln) (o1 o2 o3 : Option V), Same H H' ∧ H' la = some (.lst ws) ∧ LnAts H' ls ws ∧ ls.length ≤ 63 ∧ (∀ (i : Nat) (l : Ln), ls[i]? = some l → GL i l.w l.as) ∧ σ = [some (V.ref ra), some (V.ref ru), some (V.ref sa), some (V.ref la), o1, o2, o3]) (fun N hN => ?_) (fun σ H' h => ?_)
  · simp only [tSeq, tFor_eq, tLC_eq, iRng1, iRng2, iList, iTup, iStr, tIfS, tRet, tRetN, tNext, tAsg, gName, tVar, tC, tOp, rI0, rI, tTest, tB, rEq, rNe, tCall, tCons, tNil, tCB, tLst, tTup, tAnd, tOr, tNot, tAndV, tOrV, tNotV, tIf, tDrop, tSl, tPart, tNoPart, tChain, tUn, rU, L2.start, cx_K, bk_K, cx_calm, bk_calm, lenV_str, and_assoc, Option.join, List.length_map, List.length_append, decide_eq_true_eq, Bool.false_eq_true, if_false, if_true, Bool.not_true, Bool.not_false, Bool.not_eq_true', decide_eq_false_iff_not, Bool.true_eq_false, List.length_cons, List.length_nil, List.map_cons, List.map_nil, List.replicate, List.cons_append, List.nil_append, List.append_nil, List.getElem?_cons_zero, List.getElem?_cons_succ, List.set_cons_zero, List.set_cons_succ, Nat.reduceSub, Nat.reduceAdd, Option.some.injEq, V.int.injEq, V.str.injEq, V.bl.injEq, V.ref.injEq, List.cons.injEq, and_true, true_and, exists_eq_left', exists_eq_left, exists_and_left, exists_eq_right, exists_const, tBM, tBM0, rAppend, rPop, rIxL, rIxT, rIxS, rSlL, rSlT, rSlS, rCat, rCatT, tKGet, cx_w, bk_w, tDGet, tDisp, tPairs, tDNewK, cx_P]
    refine ⟨_, Same.seq s1 hS, fun pc hpc => ?_⟩
    rw [cut_ints]
    have hcl := cutI_len ns none (some 60)
    generalize cutI ns none (some 60) = cs at hcl
    have e4 := same_new hpc (.lst (cs.map V.int))
    have k4 : upd H1 pc (.lst (cs.map V.int)) pc = some (.lst (cs.map V.int)) := upd_same
    have npc : pc ≠ la := (ne_of_none kla hpc).symm
    replace kla := e4 _ _ kla
    replace s1 := s1.trans e4
    generalize upd H1 pc (.lst (cs.map V.int)) = H4 at s1 k4 kla ⊢
    clear hpc e4
    refine ⟨⟨_, SqL.of k4⟩, ?_⟩
    refine fw_list (xs := cs.map V.int) (fun i σ H' => ∃ (ws : List V) (ls : List Ln) (o1 o2 o3 : Option V), Same H H' ∧ H' pc = some (.lst (cs.map V.int)) ∧ H' la = some (.lst ws) ∧ LnAts H' ls ws ∧ ls.length ≤ i ∧ (∀ (i : Nat) (l : Ln), ls[i]? = some l → GL i l.w l.as) ∧ σ = [some (V.ref ra), some (V.ref ru), some (V.ref sa), some (V.ref la), o1, o2, o3]) ⟨[], [], _, _, _, s1, k4, kla, rfl, Nat.le_refl _, (fun i l z => by cases z), rfl⟩ (fun i σ H' _ h => ?_) (fun i x σ H' hx h => ?_) (fun σ H' h => ?_)
    · obtain ⟨ws, ls, o1, o2, o3, s5, k5, _⟩ := h
      exact SqL.of k5
    · obtain ⟨ws, ls, o1, o2, o3, s5, k5, kl5, hls, hn, hg, rfl⟩ := h
      obtain ⟨c, hc, rfl⟩ : ∃ c, cs[i]? = some c ∧ x = .int c := by
        rw [List.getElem?_map] at hx
        cases e : cs[i]? with
        | none => rw [e] at hx; cases hx
        | some n => rw [e] at hx; cases hx; exact ⟨n, rfl, rfl⟩
      have hi63 : i < 63 := by have := (List.getElem?_eq_some_iff.mp hc).1; omega
      have hwl := mapLen hls
      show tSeq _ _ _ _ _
      refine seq_abs fun N hN => ?_
      simp only [tSeq, tFor_eq, tLC_eq, iRng1, iRng2, iList, iTup, iStr, tIfS, tRet, tRetN, tNext, tAsg, gName, tVar, tC, tOp, rI0, rI, tTest, tB, rEq, rNe, tCall, tCons, tNil, tCB, tLst, tTup, tAnd, tOr, tNot, tAndV, tOrV, tNotV, tIf, tDrop, tSl, tPart, tNoPart, tChain, tUn, rU, L2.start, cx_K, bk_K, cx_calm, bk_calm, lenV_str, and_assoc, Option.join, List.length_map, List.length_append, decide_eq_true_eq, Bool.false_eq_true, if_false, if_true, Bool.not_true, Bool.not_false, Bool.not_eq_true', decide_eq_false_iff_not, Bool.true_eq_false, List.length_cons, List.length_nil, List.map_cons, List.map_nil, List.replicate, List.cons_append, List.nil_append, List.append_nil, List.getElem?_cons_zero, List.getElem?_cons_succ, List.set_cons_zero, List.set_cons_succ, Nat.reduceSub, Nat.reduceAdd, Option.some.injEq, V.int.injEq, V.str.injEq, V.bl.injEq, V.ref.injEq, List.cons.injEq, and_true, true_and, exists_eq_left', exists_eq_left, exists_and_left, exists_eq_right, exists_const, tBM, tBM0, rAppend, rPop, rIxL, rIxT, rIxS, rSlL, rSlT, rSlS, rCat, rCatT, tKGet, cx_w, bk_w, tDGet, tDisp, tPairs, tDNewK, cx_P]
      refine ⟨⟨by decide, by decide, by decide⟩, p1018, hN _ _ ?_⟩
      generalize c % 10 ^ Int.toNat 18 = cell
      refine seq_abs fun N hN => ?_
      simp only [tSeq, tFor_eq, tLC_eq, iRng1, iRng2, iList, iTup, iStr, tIfS, tRet, tRetN, tNext, tAsg, gName, tVar, tC, tOp, rI0, rI, tTest, tB, rEq, rNe, tCall, tCons, tNil, tCB, tLst, tTup, tAnd, tOr, tNot, tAndV, tOrV, tNotV, tIf, tDrop, tSl, tPart, tNoPart, tChain, tUn, rU, L2.start, cx_K, bk_K, cx_calm, bk_calm, lenV_str, and_assoc, Option.join, List.length_map, List.length_append, decide_eq_true_eq, Bool.false_eq_true, if_false, if_true, Bool.not_true, Bool.not_false, Bool.not_eq_true', decide_eq_false_iff_not, Bool.true_eq_false, List.length_cons, List.length_nil, List.map_cons, List.map_nil, List.replicate, List.cons_append, List.nil_append, List.append_nil, List.getElem?_cons_zero, List.getElem?_cons_succ, List.set_cons_zero, List.set_cons_succ, Nat.reduceSub, Nat.reduceAdd, Option.some.injEq, V.int.injEq, V.str.injEq, V.bl.injEq, V.ref.injEq, List.cons.injEq, and_true, true_and, exists_eq_left', exists_eq_left, exists_and_left, exists_eq_right, exists_const, tBM, tBM0, rAppend, rPop, rIxL, rIxT, rIxS, rSlL, rSlT, rSlS, rCat, rCatT, tKGet, cx_w, bk_w, tDGet, tDisp, tPairs, tDNewK, cx_P]
      refine ⟨by decide, ⟨by decide, by decide⟩, .inr ⟨by decide, by decide⟩, by decide, ?_⟩
      refine ⟨ra, ru, la, us, vs', ws, rows, rules, ls, _, _, rfl, s5 _ _ hra, DAts.same s5 hrw, r1, r100, s5 _ _ hru, DAts.same s5 hrl, u100, p100, kl5, hls, by omega, fun v H6 s6 ho => hN _ _ ?_⟩
      replace s5 := s5.trans s6
      replace k5 := s6 _ _ k5
      replace kl5 := s6 _ _ kl5
      replace hls := DAts.same s6 hls
      clear hN s6
      rcases ho with rfl | ⟨l, hv, hgl⟩
      · simp only [tSeq, tFor_eq, tLC_eq, iRng1, iRng2, iList, iTup, iStr, tIfS, tRet, tRetN, tNext, tAsg, gName, tVar, tC, tOp, rI0, rI, tTest, tB, rEq, rNe, tCall, tCons, tNil, tCB, tLst, tTup, tAnd, tOr, tNot, tAndV, tOrV, tNotV, tIf, tDrop, tSl, tPart, tNoPart, tChain, tUn, rU, L2.start, cx_K, bk_K, cx_calm, bk_calm, lenV_str, and_assoc, Option.join, List.length_map, List.length_append, decide_eq_true_eq, Bool.false_eq_true, if_false, if_true, Bool.not_true, Bool.not_false, Bool.not_eq_true', decide_eq_false_iff_not, Bool.true_eq_false, List.length_cons, List.length_nil, List.map_cons, List.map_nil, List.replicate, List.cons_append, List.nil_append, List.append_nil, List.getElem?_cons_zero, List.getElem?_cons_succ, List.set_cons_zero, List.set_cons_succ, Nat.reduceSub, Nat.reduceAdd, Option.some.injEq, V.int.injEq, V.str.injEq, V.bl.injEq, V.ref.injEq, List.cons.injEq, and_true, true_and, exists_eq_left', exists_eq_left, exists_and_left, exists_eq_right, exists_const, tBM, tBM0, rAppend, rPop, rIxL, rIxT, rIxS, rSlL, rSlT, rSlS, rCat, rCatT, tKGet, cx_w, bk_w, tDGet, tDisp, tPairs, tDNewK, cx_P]
        rw [if_neg (by simp)]
        exact ⟨s5, k5, ws, kl5, ls, hls, by omega, hg, _, rfl⟩
      obtain ⟨b, u, rfl, hb, _⟩ := lnAt hv
      simp only [tSeq, tFor_eq, tLC_eq, iRng1, iRng2, iList, iTup, iStr, tIfS, tRet, tRetN, tNext, tAsg, gName, tVar, tC, tOp, rI0, rI, tTest, tB, rEq, rNe, tCall, tCons, tNil, tCB, tLst, tTup, tAnd, tOr, tNot, tAndV, tOrV, tNotV, tIf, tDrop, tSl, tPart, tNoPart, tChain, tUn, rU, L2.start, cx_K, bk_K, cx_calm, bk_calm, lenV_str, and_assoc, Option.join, List.length_map, List.length_append, decide_eq_true_eq, Bool.false_eq_true, if_false, if_true, Bool.not_true, Bool.not_false, Bool.not_eq_true', decide_eq_false_iff_not, Bool.true_eq_false, List.length_cons, List.length_nil, List.map_cons, List.map_nil, List.replicate, List.cons_append, List.nil_append, List.append_nil, List.getElem?_cons_zero, List.getElem?_cons_succ, List.set_cons_zero, List.set_cons_succ, Nat.reduceSub, Nat.reduceAdd, Option.some.injEq, V.int.injEq, V.str.injEq, V.bl.injEq, V.ref.injEq, List.cons.injEq, and_true, true_and, exists_eq_left', exists_eq_left, exists_and_left, exists_eq_right, exists_const, tBM, tBM0, rAppend, rPop, rIxL, rIxT, rIxS, rSlL, rSlT, rSlS, rCat, rCatT, tKGet, cx_w, bk_w, tDGet, tDisp, tPairs, tDNewK, cx_P]
      rw [if_pos (by intro z; cases z)]
      refine ⟨_, SqT.of hb, _, at0, _, SqT.of hb, _, at1, small (by simp), fun p7 h7 => ?_⟩
      have s7 := same_new h7 (.tup [.int l.i, .int l.j])
      have k7 : DAt (upd H6 p7 (.tup [.int l.i, .int l.j])) (dPr (l.i, l.j)) (.ref p7) := ⟨p7, _, rfl, upd_same, _, _, rfl, rfl, _, _, rfl, rfl, rfl⟩
      replace s5 := s5.trans s7
      replace k5 := s7 _ _ k5
      replace kl5 := s7 _ _ kl5
      replace hls := DAts.same s7 hls
      replace hv := DAt.same s7 hv
      generalize upd H6 p7 (.tup [.int l.i, .int l.j]) = H7 at s5 k5 kl5 hls hv k7 ⊢
      clear s7 h7 hb
      refine ⟨⟨_, SqL.of kl5⟩, ?_⟩
      refine lc_list (xs := ws) (fun i ys σ H2 => Same H7 H2 ∧ DAts H2 ((ls.take i).map fun l => dPr (l.i, l.j)) ys ∧ ∃ o, σ = [o]) ⟨Same.refl _, rfl, _, rfl⟩ (small (by omega)) (fun i ys σ H2 e => ?_) (fun i ys σ H2 e => SqL.of (e.1 _ _ kl5)) (fun i x ys σ H2 C hx e hC => ?_) (fun ys σ H2 e pp hpp => ?_)
      · have := DAts.length e.2.1
        rw [List.length_map, List.length_take] at this
        omega
      · obtain ⟨es, hys, o, rfl⟩ := e
        obtain ⟨l, hl1, hl2⟩ := mapGetV hls hx
        obtain ⟨b, u, rfl, hb, _⟩ := lnAt hl2
        replace hb := es _ _ hb
        simp only [tSeq, tFor_eq, tLC_eq, iRng1, iRng2, iList, iTup, iStr, tIfS, tRet, tRetN, tNext, tAsg, gName, tVar, tC, tOp, rI0, rI, tTest, tB, rEq, rNe, tCall, tCons, tNil, tCB, tLst, tTup, tAnd, tOr, tNot, tAndV, tOrV, tNotV, tIf, tDrop, tSl, tPart, tNoPart, tChain, tUn, rU, L2.start, cx_K, bk_K, cx_calm, bk_calm, lenV_str, and_assoc, Option.join, List.length_map, List.length_append, decide_eq_true_eq, Bool.false_eq_true, if_false, if_true, Bool.not_true, Bool.not_false, Bool.not_eq_true', decide_eq_false_iff_not, Bool.true_eq_false, List.length_cons, List.length_nil, List.map_cons, List.map_nil, List.replicate, List.cons_append, List.nil_append, List.append_nil, List.getElem?_cons_zero, List.getElem?_cons_succ, List.set_cons_zero, List.set_cons_succ, Nat.reduceSub, Nat.reduceAdd, Option.some.injEq, V.int.injEq, V.str.injEq, V.bl.injEq, V.ref.injEq, List.cons.injEq, and_true, true_and, exists_eq_left', exists_eq_left, exists_and_left, exists_eq_right, exists_const, tBM, tBM0, rAppend, rPop, rIxL, rIxT, rIxS, rSlL, rSlT, rSlS, rCat, rCatT, tKGet, cx_w, bk_w, tDGet, tDisp, tPairs, tDNewK, cx_P]
        refine ⟨_, SqT.of hb, _, at0, _, SqT.of hb, _, at1, small (by simp), fun p1 h1 => hC _ _ _ ?_⟩
        have s1 := same_new h1 (.tup [.int l.i, .int l.j])
        exact ⟨es.trans s1, mapSnoc (f := fun l : Ln => dPr (l.i, l.j)) hl1 (DAts.same s1 hys) ⟨p1, _, rfl, upd_same, _, _, rfl, rfl, _, _, rfl, rfl, rfl⟩, _, rfl⟩
      obtain ⟨es, hys, o, rfl⟩ := e
      rw [hwl, List.take_of_length_le (Nat.le_refl _)] at hys
      have s8 := same_new hpp (.lst ys)
      have k8 : upd H2 pp (.lst ys) pp = some (.lst ys) := upd_same
      replace es := es.trans s8
      replace hys := DAts.same s8 hys
      generalize upd H2 pp (.lst ys) = H8 at es k8 hys ⊢
      clear s8 hpp
      have fit : ∀ e ∈ ls.map fun l => dPr (l.i, l.j), DFit 1 e := fun e he => by
        obtain ⟨l, _, rfl⟩ := List.mem_map.mp he
        exact fit_pr 0 _
      refine ⟨1, dPr (l.i, l.j), ls.map (fun l => dPr (l.i, l.j)), DAt.same es k7, .inl ⟨pp, _, rfl, k8, hys⟩, fit, by omega, _, rfl, ?_⟩
      replace s5 := s5.trans es
      replace k5 := es _ _ k5
      replace kl5 := es _ _ kl5
      replace hls := DAts.same es hls
      replace hv := DAt.same es hv
      split
      · have tu : TupSame H8 (upd H8 la (.lst (ws ++ [.ref b]))) := (TupSame.refl _).upd_lst kl5
        refine ⟨.inl ⟨rfl, _, SqL.of kl5⟩, _, kl5, small1000 (by omega), s5.upd nla, by rw [upd_ne npc]; exact k5, _, upd_same, ls ++ [l], lns_tups tu ?_, by simp; omega, fun i' l' hl' => ?_, _, rfl⟩
        · unfold LnAts
          rw [List.map_append]
          exact DAts.append hls (DAts.one hv)
        · by_cases hlt : i' < ls.length
          · rw [List.getElem?_append_left hlt] at hl'
            exact hg i' l' hl'
          · rw [List.getElem?_append_right (by omega)] at hl'
            have e0 : i' - ls.length = 0 := by
              have := (List.getElem?_eq_some_iff.mp hl').1
              simp at this
              omega
            have ei : i' = ls.length := by omega
            subst ei
            rw [e0] at hl'
            cases hl'
            exact hgl
      · exact ⟨s5, k5, ws, kl5, ls, hls, by omega, hg, _, rfl⟩
    · obtain ⟨ws, ls, o1, o2, o3, s5, k5, kl5, hls, hn, hg, rfl⟩ := h
      rw [List.length_map] at hn
      exact hN _ _ ⟨ws, ls, o1, o2, o3, s5, kl5, hls, by omega, hg, rfl⟩
  · obtain ⟨ws, ls, o1, o2, o3, s5, k5, hls, hn, hg, rfl⟩ := h
    simp only [tSeq, tFor_eq, tLC_eq, iRng1, iRng2, iList, iTup, iStr, tIfS, tRet, tRetN, tNext, tAsg, gName, tVar, tC, tOp, rI0, rI, tTest, tB, rEq, rNe, tCall, tCons, tNil, tCB, tLst, tTup, tAnd, tOr, tNot, tAndV, tOrV, tNotV, tIf, tDrop, tSl, tPart, tNoPart, tChain, tUn, rU, L2.start, cx_K, bk_K, cx_calm, bk_calm, lenV_str, and_assoc, Option.join, List.length_map, List.length_append, decide_eq_true_eq, Bool.false_eq_true, if_false, if_true, Bool.not_true, Bool.not_false, Bool.not_eq_true', decide_eq_false_iff_not, Bool.true_eq_false, List.length_cons, List.length_nil, List.map_cons, List.map_nil, List.replicate, List.cons_append, List.nil_append, List.append_nil, List.getElem?_cons_zero, List.getElem?_cons_succ, List.set_cons_zero, List.set_cons_succ, Nat.reduceSub, Nat.reduceAdd, Option.some.injEq, V.int.injEq, V.str.injEq, V.bl.injEq, V.ref.injEq, List.cons.injEq, and_true, true_and, exists_eq_left', exists_eq_left, exists_and_left, exists_eq_right, exists_const, tBM, tBM0, rAppend, rPop, rIxL, rIxT, rIxS, rSlL, rSlT, rSlS, rCat, rCatT, tKGet, cx_w, bk_w, tDGet, tDisp, tPairs, tDNewK, cx_P]
    exact q la ws ls _ s5 nla k5 hls hn hg
end
end C
set_option Elab.async false
set_option linter.all false
set_option maxRecDepth 100000
set_option maxHeartbeats 8000000
namespace C
open PySem L2
seal PE PT PW PA PS PSs PG PGs PI PPs PO PSet PIf
abbrev s_lines_named : Stmt := top 1
theorem sc_lines_named : FnScope ["why"] ["why"] (defScope s_lines_named) := ⟨rfl, rfl, rfl, by decide +kernel, rfl, by decide +kernel, by decide +kernel⟩
abbrev s_renamed : Stmt := top 2
theorem sc_renamed : FnScope ["why", "places"] ["why", "places"] (defScope s_renamed) := ⟨rfl, rfl, rfl, by decide +kernel, rfl, by decide +kernel, by decide +kernel⟩
abbrev s_line_for : Stmt := top 3
theorem sc_line_for : FnScope ["lines", "i", "j", "k", "line"] ["lines", "i", "j"] (defScope s_line_for) := ⟨rfl, rfl, rfl, by decide +kernel, rfl, by decide +kernel, by decide +kernel⟩
abbrev s_hung_on : Stmt := top 4
theorem sc_hung_on : FnScope ["lines", "k", "needed", "n", "p"] ["lines", "k"] (defScope s_hung_on) := ⟨rfl, rfl, rfl, by decide +kernel, rfl, by decide +kernel, by decide +kernel⟩
abbrev s_paper : Stmt := top 5
theorem sc_paper : FnScope ["lines", "i", "j", "k", "kept", "places"] ["lines", "i", "j"] (defScope s_paper) := ⟨rfl, rfl, rfl, by decide +kernel, rfl, by decide +kernel, by decide +kernel⟩
abbrev s_law_places : Stmt := top 17
theorem sc_law_places : FnScope ["why"] ["why"] (defScope s_law_places) := ⟨rfl, rfl, rfl, by decide +kernel, rfl, by decide +kernel, by decide +kernel⟩
abbrev s_law_due : Stmt := top 18
theorem sc_law_due : FnScope ["lines", "last", "wanted", "k", "p", "kept", "made", "why", "new"] ["lines", "last"] (defScope s_law_due) := ⟨rfl, rfl, rfl, by decide +kernel, rfl, by decide +kernel, by decide +kernel⟩
def addAll (ks ps : List Int) : List Int := ps.foldl (fun ks p => if p ∈ ks then ks else ks ++ [p]) ks
theorem addAll_cons (ks : List Int) (p : Int) (ps : List Int) : addAll ks (p :: ps) = addAll (if p ∈ ks then ks else ks ++ [p]) ps := rfl
theorem addAll_snoc (ks ps : List Int) (p : Int) : addAll ks (ps ++ [p]) = if p ∈ addAll ks ps then addAll ks ps else addAll ks ps ++ [p] := by
  unfold addAll
  rw [List.foldl_append]
  rfl
theorem mem_addAll (z : Int) : ∀ (ps ks : List Int), z ∈ addAll ks ps ↔ z ∈ ks ∨ z ∈ ps
  | [], ks => by simp [addAll]
  | p :: ps, ks => by
    rw [addAll_cons, mem_addAll z ps]
    by_cases h : p ∈ ks
    · rw [if_pos h, List.mem_cons]
      constructor
      · rintro (h1 | h1)
        · exact .inl h1
        · exact .inr (.inr h1)
      · rintro (h1 | rfl | h1)
        · exact .inl h1
        · exact .inl h
        · exact .inr h1
    · rw [if_neg h, List.mem_append, List.mem_singleton, List.mem_cons]
      constructor
      · rintro ((h1 | h1) | h1)
        · exact .inl h1
        · exact .inr (.inl h1)
        · exact .inr (.inr h1)
      · rintro (h1 | h1 | h1)
        · exact .inl (.inl h1)
        · exact .inl (.inr h1)
        · exact .inr h1
theorem nodup_snoc {ks : List Int} {p : Int} (h : ks.Nodup) (hp : p ∉ ks) : (ks ++ [p]).Nodup :=
  List.nodup_append.mpr ⟨h, by simp, fun a ha b hb e => hp (by rw [List.mem_singleton.mp hb] at e; rw [← e]; exact ha)⟩
theorem nodup_addAll : ∀ (ps ks : List Int), ks.Nodup → (addAll ks ps).Nodup
  | [], ks, h => h
  | p :: ps, ks, h => by
    rw [addAll_cons]
    by_cases hp : p ∈ ks
    · rw [if_pos hp]; exact nodup_addAll ps ks h
    · rw [if_neg hp]; exact nodup_addAll ps _ (nodup_snoc h hp)
def back (nm : Int → List Int) (k : Nat) : Nat → List Int
  | 0 => [(k : Int)]
  | i + 1 => if ((k : Int) - i) ∈ back nm k i then addAll (back nm k i) (nm ((k : Int) - i)) else back nm k i
theorem back_pos {nm : Int → List Int} {k i : Nat} (h : ((k : Int) - i) ∈ back nm k i) : back nm k (i + 1) = addAll (back nm k i) (nm ((k : Int) - i)) := by
  show (if _ then _ else _) = _
  rw [if_pos h]
theorem back_neg {nm : Int → List Int} {k i : Nat} (h : ((k : Int) - i) ∉ back nm k i) : back nm k (i + 1) = back nm k i := by
  show (if _ then _ else _) = _
  rw [if_neg h]
theorem back_nodup (nm : Int → List Int) (k : Nat) : ∀ i, (back nm k i).Nodup
  | 0 => by simp [back]
  | i + 1 => by
    by_cases h : ((k : Int) - i) ∈ back nm k i
    · rw [back_pos h]; exact nodup_addAll _ _ (back_nodup nm k i)
    · rw [back_neg h]; exact back_nodup nm k i
theorem back_in {nm : Int → List Int} {k : Nat} (hn : ∀ n : Int, 0 ≤ n → n ≤ k → ∀ p ∈ nm n, 0 ≤ p ∧ p < n) : ∀ i, i ≤ k + 1 → ∀ p ∈ back nm k i, 0 ≤ p ∧ p ≤ (k : Int)
  | 0, _, p, hp => by
    rw [List.mem_singleton.mp hp]
    omega
  | i + 1, hi, p, hp => by
    by_cases h : ((k : Int) - i) ∈ back nm k i
    · rw [back_pos h, mem_addAll] at hp
      rcases hp with hp | hp
      · exact back_in hn i (by omega) p hp
      · have := hn _ (by omega) (by omega) p hp
        omega
    · rw [back_neg h] at hp
      exact back_in hn i (by omega) p hp
theorem back_sub {nm : Int → List Int} {k i : Nat} {p : Int} (hp : p ∈ back nm k i) : p ∈ back nm k (i + 1) := by
  by_cases h : ((k : Int) - i) ∈ back nm k i
  · rw [back_pos h, mem_addAll]; exact .inl hp
  · rw [back_neg h]; exact hp
theorem back_closed {nm : Int → List Int} {k : Nat} (hn : ∀ n : Int, 0 ≤ n → n ≤ k → ∀ p ∈ nm n, 0 ≤ p ∧ p < n) : ∀ i, i ≤ k + 1 → ∀ n ∈ back nm k i, (k : Int) - i < n → ∀ p ∈ nm n, p ∈ back nm k i
  | 0, _, n, hm, hlt, p, hp => by
    rw [List.mem_singleton.mp hm] at hlt
    omega
  | i + 1, hi, n, hm, hlt, p, hp => by
    by_cases h : ((k : Int) - i) ∈ back nm k i
    · have hm' := hm
      rw [back_pos h, mem_addAll] at hm
      by_cases e : n = (k : Int) - i
      · subst e
        rw [back_pos h, mem_addAll]
        exact .inr hp
      · rcases hm with hm | hm
        · exact back_sub (back_closed hn i (by omega) n hm (by omega) p hp)
        · have := hn _ (by omega) (by omega) n hm
          omega
    · rw [back_neg h] at hm
      have e : n ≠ (k : Int) - i := fun z => h (z ▸ hm)
      exact back_sub (back_closed hn i (by omega) n hm (by omega) p hp)
def nmOf (ls : List Ln) (n : Int) : List Int := match ls[n.toNat]? with | some l => plc l.w l.as | none => []
def Ahead (ls : List Ln) : Prop := ∀ (i : Nat) (l : Ln), ls[i]? = some l → GL i l.w l.as
theorem nm_at {ls : List Ln} {n : Int} {l : Ln} (h : ls[n.toNat]? = some l) : nmOf ls n = plc l.w l.as := by
  unfold nmOf
  rw [h]
theorem nm_ahead {ls : List Ln} (h : Ahead ls) : ∀ n : Int, 0 ≤ n → ∀ p ∈ nmOf ls n, 0 ≤ p ∧ p < n := by
  intro n h0 p hp
  unfold nmOf at hp
  cases e : ls[n.toNat]? with
  | none => rw [e] at hp; cases hp
  | some l =>
    rw [e] at hp
    have := (h _ l e).2 p hp
    omega
def hung (ls : List Ln) (k : Nat) : List Int := back (nmOf ls) k (k + 1)
theorem hung_nodup (ls : List Ln) (k : Nat) : (hung ls k).Nodup := back_nodup _ _ _
theorem hung_in {ls : List Ln} (h : Ahead ls) (k : Nat) : ∀ p ∈ hung ls k, 0 ≤ p ∧ p ≤ (k : Int) := back_in (fun n h0 _ => nm_ahead h n h0) (k + 1) (Nat.le_refl _)
theorem hung_closed {ls : List Ln} (h : Ahead ls) (k : Nat) : ∀ n ∈ hung ls k, ∀ p ∈ nmOf ls n, p ∈ hung ls k := fun n hn p hp =>
  back_closed (fun n h0 _ => nm_ahead h n h0) (k + 1) (Nat.le_refl _) n hn (by have := hung_in h k n hn; omega) p hp
theorem nodup_subI : ∀ {l m : List Int}, l.Nodup → (∀ x ∈ l, x ∈ m) → l.length ≤ m.length
  | [], m, _, _ => Nat.zero_le _
  | x :: l, m, hn, hs => by
    have hx : x ∈ m := hs x List.mem_cons_self
    have hn' := List.nodup_cons.mp hn
    have := nodup_subI (l := l) (m := m.erase x) hn'.2 fun y hy => by
      have hy' := hs y (List.mem_cons_of_mem _ hy)
      have hne : y ≠ x := fun e => hn'.1 (by rw [← e]; exact hy)
      exact (List.mem_erase_of_ne hne).mpr hy'
    rw [List.length_erase_of_mem hx] at this
    have := List.length_pos_of_mem hx
    rw [List.length_cons]
    omega
theorem in_len {l : List Int} {k : Nat} (hn : l.Nodup) (h : ∀ p ∈ l, 0 ≤ p ∧ p ≤ (k : Int)) : l.length ≤ k + 1 := by
  have := nodup_subI (m := (List.range (k + 1)).map fun i : Nat => (i : Int)) hn fun x hx => by
    have := h x hx
    rw [List.mem_map]
    exact ⟨x.toNat, by rw [List.mem_range]; omega, by omega⟩
  rwa [List.length_map, List.length_range] at this
structure Kept (ls : List Ln) (k : Nat) (ks : List Int) : Prop where
  perm : ks.Perm (hung ls k)
  rise : ks.Pairwise (· ≤ ·)
theorem Kept.one {ls : List Ln} {k : Nat} {ks ks' : List Int} (h : Kept ls k ks) (h' : Kept ls k ks') : ks = ks' := sortedI_one h.rise h'.rise (h.perm.trans h'.perm.symm)
theorem Kept.nodup {ls : List Ln} {k : Nat} {ks : List Int} (h : Kept ls k ks) : ks.Nodup := h.perm.nodup_iff.mpr (hung_nodup ls k)
theorem Kept.inn {ls : List Ln} {k : Nat} {ks : List Int} (h : Kept ls k ks) (ha : Ahead ls) : ∀ p ∈ ks, 0 ≤ p ∧ p ≤ (k : Int) := fun p hp => hung_in ha k p (h.perm.mem_iff.mp hp)
theorem Kept.closed {ls : List Ln} {k : Nat} {ks : List Int} (h : Kept ls k ks) (ha : Ahead ls) : ∀ n ∈ ks, ∀ p ∈ nmOf ls n, p ∈ ks := fun n hn p hp => h.perm.mem_iff.mpr (hung_closed ha k n (h.perm.mem_iff.mp hn) p hp)
def plAt (p : Int) : List Int → Nat
  | [] => 0
  | x :: xs => if x = p then 0 else plAt p xs + 1
theorem plAt_get {p : Int} : ∀ {l : List Int}, p ∈ l → l[plAt p l]? = some p
  | [], h => by cases h
  | x :: xs, h => by
    unfold plAt
    by_cases e : x = p
    · rw [if_pos e]; simp [e]
    · rw [if_neg e]
      rw [List.getElem?_cons_succ]
      exact plAt_get ((List.mem_cons.mp h).resolve_left (Ne.symm e))
theorem plAt_lt {p : Int} : ∀ {l : List Int} {m : Nat} {x : Int}, m < plAt p l → l[m]? = some x → x ≠ p
  | [], m, x, h, _ => by cases h
  | y :: ys, m, x, h, hx => by
    unfold plAt at h
    by_cases e : y = p
    · rw [if_pos e] at h; cases h
    · rw [if_neg e] at h
      cases m with
      | zero => cases hx; exact e
      | succ m => exact plAt_lt (l := ys) (m := m) (by omega) (by simpa using hx)
def plKV : List Int → Nat → List (Key × V)
  | [], _ => []
  | n :: ns, i => (.inl n, .int i) :: plKV ns (i + 1)
theorem plKV_len : ∀ (ns : List Int) (i : Nat), (plKV ns i).length = ns.length
  | [], _ => rfl
  | n :: ns, i => by show (plKV ns (i + 1)).length + 1 = _; rw [plKV_len ns (i + 1)]; rfl
theorem plKV_keys : ∀ (ns : List Int) (i : Nat), (plKV ns i).map (·.1) = ns.map Sum.inl
  | [], _ => rfl
  | n :: ns, i => by show _ :: (plKV ns (i + 1)).map (·.1) = _; rw [plKV_keys ns (i + 1)]; rfl
theorem plKV_get : ∀ {ns : List Int} {i j : Nat} {k : Key} {v : V}, (plKV ns i)[j]? = some (k, v) → ∃ n, ns[j]? = some n ∧ k = .inl n ∧ v = .int ((i + j : Nat) : Int)
  | [], i, j, k, v, h => by cases h
  | n :: ns, i, 0, k, v, h => by
    cases h
    exact ⟨n, rfl, rfl, rfl⟩
  | n :: ns, i, j + 1, k, v, h => by
    obtain ⟨m, h1, h2, h3⟩ := plKV_get (ns := ns) (i := i + 1) (j := j) h
    exact ⟨m, h1, h2, by rw [h3]; congr 2; omega⟩
theorem plKV_val {p : Int} : ∀ {ns : List Int} (i : Nat), p ∈ ns → valV (plKV ns i) (.inl p) = some (.int ((i + plAt p ns : Nat) : Int))
  | [], i, h => by cases h
  | n :: ns, i, h => by
    by_cases e : n = p
    · subst e
      show valV ((Sum.inl n, V.int i) :: plKV ns (i + 1)) (.inl n) = _
      rw [valV_pos rfl]
      simp [plAt]
    · show valV ((Sum.inl n, V.int i) :: plKV ns (i + 1)) (.inl p) = _
      rw [valV_neg (fun z => e (Sum.inl.inj z)), plKV_val (i + 1) ((List.mem_cons.mp h).resolve_left (Ne.symm e))]
      have ep : plAt p (n :: ns) = plAt p ns + 1 := by
        show (if n = p then 0 else plAt p ns + 1) = _
        rw [if_neg e]
      rw [ep]
      congr 2
      omega
def rnw (ks : List Int) (l : Ln) : Ln :=
  if l.w = "rule" then ⟨l.i, l.j, "rule", [l.as.headD (.n 0), .ps ((plc l.w l.as).map fun p => (plAt p ks : Int))]⟩
  else ⟨l.i, l.j, l.w, ((plc l.w l.as).map fun p => (plAt p ks : Int)).map .n⟩
theorem rnw_rule {ks : List Int} {l : Ln} {r : Int} {ps : List Int} (hw : l.w = "rule") (ha : l.as = [.n r, .ps ps]) : rnw ks l = ⟨l.i, l.j, "rule", [.n r, .ps (ps.map fun p => (plAt p ks : Int))]⟩ := by
  unfold rnw
  rw [if_pos hw, ha, hw, plcR]
  rfl
theorem rnw_not {ks : List Int} {l : Ln} {ns : List Int} (hw : l.w ≠ "rule") (ha : l.as = ns.map .n) : rnw ks l = ⟨l.i, l.j, l.w, (ns.map fun p => (plAt p ks : Int)).map .n⟩ := by
  unfold rnw
  rw [if_neg hw, ha, plcN hw]
def papT (ls : List Ln) (ks : List Int) (i : Nat) : List Ln := (ks.take i).filterMap fun n => (ls[n.toNat]?).map (rnw ks)
theorem papT_succ {ls : List Ln} {ks : List Int} {i : Nat} {n : Int} {l : Ln} (hn : ks[i]? = some n) (hl : ls[n.toNat]? = some l) : papT ls ks (i + 1) = papT ls ks i ++ [rnw ks l] := by
  obtain ⟨hi, e⟩ := List.getElem?_eq_some_iff.mp hn
  unfold papT
  rw [List.take_succ_eq_append_getElem hi, e, List.filterMap_append]
  congr 1
  simp [hl]
theorem papT_len (ls : List Ln) (ks : List Int) (i : Nat) : (papT ls ks i).length ≤ i := by
  unfold papT
  refine Nat.le_trans (List.length_filterMap_le _ _) ?_
  rw [List.length_take]
  omega
theorem rnw_ow {ks : List Int} {l : Ln} (h : GW l.w l.as) : OW (rnw ks l).as := by
  rcases h with ⟨hw, ns, ha, hn⟩ | ⟨hw, r, ps, ha, hp⟩
  · rw [rnw_not hw ha]
    exact owN (by rw [List.length_map]; omega)
  · rw [rnw_rule hw ha]
    refine ⟨by simp, fun ps' hp' => ?_⟩
    simp only [List.mem_cons, List.not_mem_nil, or_false] at hp'
    rcases hp' with e | e
    · cases e
    · cases e; rw [List.length_map]; omega
theorem papT_ow {ls : List Ln} {ks : List Int} {i : Nat} (h : Ahead ls) : ∀ l ∈ papT ls ks i, OW l.as := by
  intro l hl
  unfold papT at hl
  obtain ⟨n, _, e⟩ := List.mem_filterMap.mp hl
  cases hs : ls[n.toNat]? with
  | none => rw [hs] at e; cases e
  | some l' =>
    rw [hs] at e
    cases e
    exact rnw_ow (h _ l' hs).1
def trK (ks : List Int) : List (Key × V) := ks.map fun n => (.inl n, .bl true)
theorem trK_put (ks : List Int) (p : Int) : putK (trK ks) (.inl p) (.bl true) = trK (if p ∈ ks then ks else ks ++ [p]) := by
  unfold putK
  have e : ((trK ks).any fun kv => decide (kv.1 = (.inl p : Key))) = decide (p ∈ ks) := by
    unfold trK
    rw [List.any_map, Bool.eq_iff_iff, List.any_eq_true, decide_eq_true_eq]
    constructor
    · rintro ⟨x, hx, h⟩
      have h : x = p := by simpa using h
      exact h ▸ hx
    · intro h
      exact ⟨p, h, by simp⟩
  rw [e]
  by_cases h : p ∈ ks
  · rw [if_pos (by simpa using h), if_pos h]
    unfold trK
    rw [List.map_map]
    refine List.map_congr_left fun x _ => ?_
    show (if (Sum.inl x : Key) = .inl p then _ else _) = _
    split <;> rfl
  · rw [if_neg (by simpa using h), if_neg h]
    unfold trK
    rw [List.map_append]
    rfl
theorem trK_val (ks : List Int) (p : Int) : (valV (trK ks) (.inl p)).isSome = decide (p ∈ ks) := by
  unfold valV trK
  rw [Option.isSome_map, List.find?_map, Option.isSome_map, Bool.eq_iff_iff, List.find?_isSome, decide_eq_true_eq]
  constructor
  · rintro ⟨x, hx, h⟩
    have h : x = p := by simpa using h
    exact h ▸ hx
  · intro h
    exact ⟨p, h, by simp⟩
theorem trK_keys (ks : List Int) : (trK ks).map (·.1) = ks.map Sum.inl := by
  unfold trK
  rw [List.map_map]
  rfl
theorem intsAt (H : Hp) : ∀ zs : List Int, DAts H (zs.map Dt.int) (zs.map V.int)
  | [] => rfl
  | z :: zs => ⟨_, _, rfl, rfl, intsAt H zs⟩
theorem deq_int (a b : Int) : deq (.int a) (.int b) = decide (a = b) := by
  show (a == b) = _
  rw [Bool.beq_eq_decide_eq]
theorem any_int (ks : List Int) (p : Int) : ((ks.map Dt.int).any fun e => deq e (.int p)) = decide (p ∈ ks) := by
  rw [List.any_map, Bool.eq_iff_iff, List.any_eq_true, decide_eq_true_eq]
  constructor
  · rintro ⟨x, hx, h⟩
    have h : deq (.int x) (.int p) = true := h
    rw [deq_int, decide_eq_true_eq] at h
    exact h ▸ hx
  · intro h
    exact ⟨p, h, by show deq (.int p) (.int p) = true; exact deq_refl _⟩
theorem fitI (n : Nat) (ks : List Int) : ∀ e ∈ ks.map Dt.int, DFit n e := fun e he => by
  obtain ⟨i, _, rfl⟩ := List.mem_map.mp he
  cases n <;> trivial
theorem cut_1 (x : V) (xs : List V) : cutV (x :: xs) none (some 1) = [x] := by
  show cutV (x :: xs) none (some ((1 : Nat) : Int)) = [x]
  unfold cutV
  rw [HT.sIx_nat, HT.sIx_none, List.length_cons, Nat.min_eq_left (by omega), List.drop_zero, Nat.sub_zero, List.take_succ_cons, List.take_zero]
end C
set_option Elab.async false
set_option linter.all false
set_option maxRecDepth 100000
set_option maxHeartbeats 8000000
namespace C
open PySem L2
seal PE PT PW PA PS PSs PG PGs PI PPs PO PSet PIf
def spLN : Sp := fun vs H Q _ => ∃ (v : V) (x : Str) (as : List Wt), vs = [v] ∧ DAt H (dWhy x as) v ∧ GW x as ∧ ∀ p H', Same H H' → H' p = some (.tup ((plc x as).map V.int)) → Q (.ref p) H'
def spRn : Sp := fun vs H Q _ => ∃ (v : V) (d : Addr) (l : Ln) (ks : List Int), vs = [v, .ref d] ∧ DAt H (dWhy l.w l.as) v ∧ GW l.w l.as ∧ H d = some (.dK (plKV ks 0)) ∧ (∀ p ∈ plc l.w l.as, p ∈ ks) ∧ ∀ v' H', Same H H' → DAt H' (dWhy (rnw ks l).w (rnw ks l).as) v' → Q v' H'
def FP (ls : List Ln) (i j : Int) (r : V) : Prop := (r = .non ∧ ∀ l ∈ ls, ¬ (l.i = i ∧ l.j = j)) ∨ ∃ (k : Nat) (l : Ln), r = .int k ∧ ls[k]? = some l ∧ (l.i = i ∧ l.j = j) ∧ ∀ (m : Nat) (l' : Ln), m < k → ls[m]? = some l' → ¬ (l'.i = i ∧ l'.j = j)
def spFor : Sp := fun vs H Q _ => ∃ (la : Addr) (ws : List V) (ls : List Ln) (i j : Int), vs = [.ref la, .int i, .int j] ∧ H la = some (.lst ws) ∧ LnAts H ls ws ∧ ∀ r H', Same H H' → FP ls i j r → Q r H'
section
variable {P : Program} {w : World} {K : PySem.W.Frag} {mg : Str → Option Value} {base : Heap} {f : Addr} {fd : FuncData}
theorem ok_lines_named (bi : Bi mg) (F : Fun K "lines_named" "lines_named" s_lines_named f fd) : FnOk P w K mg base CX0 1 f fd ["why"] spLN := by
  refine F.ok sc_lines_named (fun vs H Q E h => ?_) (fun cdv A outer s H vs Q E hr h => ?_)
  · obtain ⟨v, x, as, rfl, _⟩ := h
    rfl
  obtain ⟨v, x, as, rfl, hv, hg, q⟩ := h
  have at2 : ∀ {a b c : V}, atI [a, b, c] 2 = some c := atI_nat (j := 2) rfl
  obtain ⟨a, us, rfl, ha, hus⟩ := whyAt hv
  refine ⟨_, (pss_one (ps_ret (pe_ifExp (pt_cmpR op_eq (pe_ix ix_tup (pv 0) pe_int (fun _ _ => rfl)) pe_str (nomark _)) (pe_ix ix_tup (pv 0) pe_int (fun _ _ => rfl)) (pe_slice sl_tupG (pv 0) (po_some pe_int) po_none)))), ?_⟩
  simp only [tSeq, tFor_eq, tLC_eq, iRng1, iRng2, iList, iTup, iStr, tIfS, tRet, tRetN, tNext, tAsg, gName, tVar, tC, tOp, rI0, rI, tTest, tB, rEq, rNe, tCall, tCons, tNil, tCB, tLst, tTup, tAnd, tOr, tNot, tAndV, tOrV, tNotV, tIf, tDrop, tSl, tPart, tNoPart, tChain, tUn, rU, L2.start, cx_K, bk_K, cx_calm, bk_calm, lenV_str, and_assoc, Option.join, List.length_map, List.length_append, decide_eq_true_eq, Bool.false_eq_true, if_false, if_true, Bool.not_true, Bool.not_false, Bool.not_eq_true', decide_eq_false_iff_not, Bool.true_eq_false, List.length_cons, List.length_nil, List.map_cons, List.map_nil, List.replicate, List.cons_append, List.nil_append, List.append_nil, List.getElem?_cons_zero, List.getElem?_cons_succ, List.set_cons_zero, List.set_cons_succ, Nat.reduceSub, Nat.reduceAdd, Option.some.injEq, V.int.injEq, V.str.injEq, V.bl.injEq, V.ref.injEq, List.cons.injEq, and_true, true_and, exists_eq_left', exists_eq_left, exists_and_left, exists_eq_right, exists_const, tBM, tBM0, rAppend, rPop, rIxL, rIxT, rIxS, rSlL, rSlT, rSlS, rCat, rCatT, tKGet, cx_w, bk_w, tDGet, tDisp, tPairs, tDNewK, cx_P, rSlG]
  refine ⟨_, SqT.of ha, _, at0, rfl, ?_⟩
  rcases hg with ⟨hw, ns, rfl, _⟩ | ⟨rfl, r, ps, rfl, _⟩
  · rw [if_neg (fun e => hw (V.str.inj e))]
    have e := nsAt hus
    subst e
    refine ⟨_, ha, fun p H' s1 k1 => q p H' s1 ?_⟩
    rw [cut_tail] at k1
    rw [plcN hw]
    exact k1
  · rw [if_pos rfl]
    obtain ⟨v1, r1, e1, e2, v2, r2, e3, e4, e5⟩ := hus
    have e5 : r2 = [] := e5
    subst e5 e3 e1
    obtain ⟨b, rfl, hb⟩ := psAt e4
    refine ⟨_, SqT.of ha, _, at2, q b H (Same.refl H) ?_⟩
    rw [plcR]
    exact hb
theorem ok_renamed (bi : Bi mg) (F : Fun K "renamed" "renamed" s_renamed f fd) : FnOk P w K mg base CX0 1 f fd ["why", "places"] spRn := by
  refine F.ok sc_renamed (fun vs H Q E h => ?_) (fun cdv A outer s H vs Q E hr h => ?_)
  · obtain ⟨v, d, l, ks, rfl, _⟩ := h
    rfl
  obtain ⟨v, d, l, ks, rfl, hv, hg, hd, hin, q⟩ := h
  have at2 : ∀ {a b c : V}, atI [a, b, c] 2 = some c := atI_nat (j := 2) rfl
  obtain ⟨a, us, rfl, ha, hus⟩ := whyAt hv
  refine ⟨_, (pss_cons (ps_if (pt_cmpR op_eq (pe_ix ix_tup (pv 0) pe_int (fun _ _ => rfl)) pe_str (nomark _)) (pss_one (ps_ret (pe_tup (pa_cons pe_str (pa_cons (pe_ix ix_tup (pv 0) pe_int (fun _ _ => rfl)) (pa_cons (pe_callTy call_tuple_of rfl bi.tuple bt_tuple (pa_cons (pe_comp ["p"] ["places"] [1] (pi_tup (pe_ix ix_tup (pv 0) pe_int (fun _ _ => rfl))) (fun _ _ _ _ nd => pg_name (i := 0) nd rfl (Or.inl rfl)) (fun _ _ _ _ => pif_nil) (fun _ _ _ _ => (pe_dget (hu_of hr) (pv 1) (pv 0) (fun _ _ => rfl)))) pa_nil)) pa_nil)))))) pss_nil) (pss_one (ps_ret (pe_op op_catG (pe_slice sl_tupG (pv 0) po_none (po_some pe_int)) (pe_callTy call_tuple_of rfl bi.tuple bt_tuple (pa_cons (pe_comp ["p"] ["places"] [1] (pi_tup (pe_slice sl_tupG (pv 0) (po_some pe_int) po_none)) (fun _ _ _ _ nd => pg_name (i := 0) nd rfl (Or.inl rfl)) (fun _ _ _ _ => pif_nil) (fun _ _ _ _ => (pe_dget (hu_of hr) (pv 1) (pv 0) (fun _ _ => rfl)))) pa_nil)))))), ?_⟩
  refine seq_abs fun N hN => ?_
  simp only [tSeq, tFor_eq, tLC_eq, iRng1, iRng2, iList, iTup, iStr, tIfS, tRet, tRetN, tNext, tAsg, gName, tVar, tC, tOp, rI0, rI, tTest, tB, rEq, rNe, tCall, tCons, tNil, tCB, tLst, tTup, tAnd, tOr, tNot, tAndV, tOrV, tNotV, tIf, tDrop, tSl, tPart, tNoPart, tChain, tUn, rU, L2.start, cx_K, bk_K, cx_calm, bk_calm, lenV_str, and_assoc, Option.join, List.length_map, List.length_append, decide_eq_true_eq, Bool.false_eq_true, if_false, if_true, Bool.not_true, Bool.not_false, Bool.not_eq_true', decide_eq_false_iff_not, Bool.true_eq_false, List.length_cons, List.length_nil, List.map_cons, List.map_nil, List.replicate, List.cons_append, List.nil_append, List.append_nil, List.getElem?_cons_zero, List.getElem?_cons_succ, List.set_cons_zero, List.set_cons_succ, Nat.reduceSub, Nat.reduceAdd, Option.some.injEq, V.int.injEq, V.str.injEq, V.bl.injEq, V.ref.injEq, List.cons.injEq, and_true, true_and, exists_eq_left', exists_eq_left, exists_and_left, exists_eq_right, exists_const, tBM, tBM0, rAppend, rPop, rIxL, rIxT, rIxS, rSlL, rSlT, rSlS, rCat, rCatT, tKGet, cx_w, bk_w, tDGet, tDisp, tPairs, tDNewK, cx_P, rSlG, rCatG]
  refine ⟨_, SqT.of ha, _, at0, rfl, ?_⟩
  rcases hg with ⟨hw, ns, has, hn2⟩ | ⟨hw, r, ps, has, hp100⟩
  · rw [if_neg (fun e => hw (V.str.inj e))]
    refine hN _ _ ?_
    rw [has] at hus
    have e := nsAt hus
    subst e
    rw [has, plcN hw] at hin
    rw [rnw_not hw has] at q
    simp only [tSeq, tFor_eq, tLC_eq, iRng1, iRng2, iList, iTup, iStr, tIfS, tRet, tRetN, tNext, tAsg, gName, tVar, tC, tOp, rI0, rI, tTest, tB, rEq, rNe, tCall, tCons, tNil, tCB, tLst, tTup, tAnd, tOr, tNot, tAndV, tOrV, tNotV, tIf, tDrop, tSl, tPart, tNoPart, tChain, tUn, rU, L2.start, cx_K, bk_K, cx_calm, bk_calm, lenV_str, and_assoc, Option.join, List.length_map, List.length_append, decide_eq_true_eq, Bool.false_eq_true, if_false, if_true, Bool.not_true, Bool.not_false, Bool.not_eq_true', decide_eq_false_iff_not, Bool.true_eq_false, List.length_cons, List.length_nil, List.map_cons, List.map_nil, List.replicate, List.cons_append, List.nil_append, List.append_nil, List.getElem?_cons_zero, List.getElem?_cons_succ, List.set_cons_zero, List.set_cons_succ, Nat.reduceSub, Nat.reduceAdd, Option.some.injEq, V.int.injEq, V.str.injEq, V.bl.injEq, V.ref.injEq, List.cons.injEq, and_true, true_and, exists_eq_left', exists_eq_left, exists_and_left, exists_eq_right, exists_const, tBM, tBM0, rAppend, rPop, rIxL, rIxT, rIxS, rSlL, rSlT, rSlS, rCat, rCatT, tKGet, cx_w, bk_w, tDGet, tDisp, tPairs, tDNewK, cx_P, rSlG, rCatG]
    refine ⟨_, ha, fun p1 H1 s1 k1 => ?_⟩
    rw [cut_1] at k1
    refine ⟨_, s1 _ _ ha, fun p2 H2 s2 k2 => ?_⟩
    rw [cut_tail] at k2
    refine ⟨⟨_, SqT.of k2⟩, ?_⟩
    refine lc_tup (xs := ns.map V.int) (fun i ys σ H' => Same H2 H' ∧ ys = ((ns.take i).map fun p => (plAt p ks : Int)).map V.int ∧ ∃ o, σ = [o, some (V.ref d)]) ⟨Same.refl _, rfl, _, rfl⟩ (small (by rw [List.length_map]; omega)) (fun i ys σ H' e => ?_) (fun i ys σ H' e => SqT.of (e.1 _ _ k2)) (fun i x ys σ H' C hx e hC => ?_) (fun ys σ H' e p3 hp3 => ?_)
    · obtain ⟨_, rfl, _⟩ := e
      rw [List.length_map, List.length_map, List.length_take]
      omega
    · obtain ⟨es, rfl, o, rfl⟩ := e
      rw [List.getElem?_map] at hx
      cases hni : ns[i]? with
      | none => rw [hni] at hx; cases hx
      | some n =>
        rw [hni] at hx
        cases hx
        simp only [tSeq, tFor_eq, tLC_eq, iRng1, iRng2, iList, iTup, iStr, tIfS, tRet, tRetN, tNext, tAsg, gName, tVar, tC, tOp, rI0, rI, tTest, tB, rEq, rNe, tCall, tCons, tNil, tCB, tLst, tTup, tAnd, tOr, tNot, tAndV, tOrV, tNotV, tIf, tDrop, tSl, tPart, tNoPart, tChain, tUn, rU, L2.start, cx_K, bk_K, cx_calm, bk_calm, lenV_str, and_assoc, Option.join, List.length_map, List.length_append, decide_eq_true_eq, Bool.false_eq_true, if_false, if_true, Bool.not_true, Bool.not_false, Bool.not_eq_true', decide_eq_false_iff_not, Bool.true_eq_false, List.length_cons, List.length_nil, List.map_cons, List.map_nil, List.replicate, List.cons_append, List.nil_append, List.append_nil, List.getElem?_cons_zero, List.getElem?_cons_succ, List.set_cons_zero, List.set_cons_succ, Nat.reduceSub, Nat.reduceAdd, Option.some.injEq, V.int.injEq, V.str.injEq, V.bl.injEq, V.ref.injEq, List.cons.injEq, and_true, true_and, exists_eq_left', exists_eq_left, exists_and_left, exists_eq_right, exists_const, tBM, tBM0, rAppend, rPop, rIxL, rIxT, rIxS, rSlL, rSlT, rSlS, rCat, rCatT, tKGet, cx_w, bk_w, tDGet, tDisp, tPairs, tDNewK, cx_P]
        refine ⟨_, .inl ⟨_, .inl n, .inl (es _ _ (s2 _ _ (s1 _ _ hd))), rfl, (plKV_val 0 (hin n (List.mem_of_getElem? hni))).symm⟩, hC _ _ _ ⟨es, ?_, _, rfl⟩⟩
        obtain ⟨hi, e⟩ := List.getElem?_eq_some_iff.mp hni
        rw [List.take_succ_eq_append_getElem hi, e, List.map_append, List.map_append, Nat.zero_add]
        rfl
    obtain ⟨es, rfl, o, rfl⟩ := e
    rw [List.length_map, List.take_of_length_le (Nat.le_refl _)]
    refine ⟨p3, rfl, _, .inl ⟨SqL.of upd_same, fun p4 hp4 => ?_⟩⟩
    have s3 := same_new hp3 (.lst ((ns.map fun p => (plAt p ks : Int)).map V.int))
    have s4 := same_new hp4 (.tup ((ns.map fun p => (plAt p ks : Int)).map V.int))
    have ss := (s2.trans es).trans (s3.trans s4)
    refine ⟨_, ss _ _ k1, _, upd_same, small (by simp; omega), fun p5 H5 s5 k5 => ?_⟩
    refine q _ _ ((s1.trans ss).trans s5) ⟨p5, _, rfl, k5, _, _, rfl, rfl, atNs _ _⟩
  · rw [if_pos (congrArg V.str hw)]
    rw [has] at hus
    obtain ⟨v1, r1, e1, e2, v2, r2, e3, e4, e5⟩ := hus
    have e5 : r2 = [] := e5
    have e2 : v1 = .int r := e2
    subst e5 e3 e1 e2
    obtain ⟨b, rfl, hb⟩ := psAt e4
    rw [hw, has, plcR] at hin
    rw [rnw_rule hw has] at q
    refine ⟨_, SqT.of ha, _, at1, _, SqT.of ha, _, at2, b, rfl, ⟨_, SqT.of hb⟩, ?_⟩
    refine lc_tup (xs := ps.map V.int) (fun i ys σ H' => Same H H' ∧ ys = ((ps.take i).map fun p => (plAt p ks : Int)).map V.int ∧ ∃ o, σ = [o, some (V.ref d)]) ⟨Same.refl _, rfl, _, rfl⟩ (small (by rw [List.length_map]; omega)) (fun i ys σ H' e => ?_) (fun i ys σ H' e => SqT.of (e.1 _ _ hb)) (fun i x ys σ H' C hx e hC => ?_) (fun ys σ H' e p3 hp3 => ?_)
    · obtain ⟨_, rfl, _⟩ := e
      rw [List.length_map, List.length_map, List.length_take]
      omega
    · obtain ⟨es, rfl, o, rfl⟩ := e
      rw [List.getElem?_map] at hx
      cases hni : ps[i]? with
      | none => rw [hni] at hx; cases hx
      | some n =>
        rw [hni] at hx
        cases hx
        simp only [tSeq, tFor_eq, tLC_eq, iRng1, iRng2, iList, iTup, iStr, tIfS, tRet, tRetN, tNext, tAsg, gName, tVar, tC, tOp, rI0, rI, tTest, tB, rEq, rNe, tCall, tCons, tNil, tCB, tLst, tTup, tAnd, tOr, tNot, tAndV, tOrV, tNotV, tIf, tDrop, tSl, tPart, tNoPart, tChain, tUn, rU, L2.start, cx_K, bk_K, cx_calm, bk_calm, lenV_str, and_assoc, Option.join, List.length_map, List.length_append, decide_eq_true_eq, Bool.false_eq_true, if_false, if_true, Bool.not_true, Bool.not_false, Bool.not_eq_true', decide_eq_false_iff_not, Bool.true_eq_false, List.length_cons, List.length_nil, List.map_cons, List.map_nil, List.replicate, List.cons_append, List.nil_append, List.append_nil, List.getElem?_cons_zero, List.getElem?_cons_succ, List.set_cons_zero, List.set_cons_succ, Nat.reduceSub, Nat.reduceAdd, Option.some.injEq, V.int.injEq, V.str.injEq, V.bl.injEq, V.ref.injEq, List.cons.injEq, and_true, true_and, exists_eq_left', exists_eq_left, exists_and_left, exists_eq_right, exists_const, tBM, tBM0, rAppend, rPop, rIxL, rIxT, rIxS, rSlL, rSlT, rSlS, rCat, rCatT, tKGet, cx_w, bk_w, tDGet, tDisp, tPairs, tDNewK, cx_P]
        refine ⟨_, .inl ⟨_, .inl n, .inl (es _ _ hd), rfl, (plKV_val 0 (hin n (List.mem_of_getElem? hni))).symm⟩, hC _ _ _ ⟨es, ?_, _, rfl⟩⟩
        obtain ⟨hi, e⟩ := List.getElem?_eq_some_iff.mp hni
        rw [List.take_succ_eq_append_getElem hi, e, List.map_append, List.map_append, Nat.zero_add]
        rfl
    obtain ⟨es, rfl, o, rfl⟩ := e
    rw [List.length_map, List.take_of_length_le (Nat.le_refl _)]
    refine ⟨p3, rfl, _, .inl ⟨SqL.of upd_same, fun p4 hp4 => ⟨small (by simp), fun p5 hp5 => ?_⟩⟩⟩
    have s3 := same_new hp3 (.lst ((ps.map fun p => (plAt p ks : Int)).map V.int))
    have s4 := same_new hp4 (.tup ((ps.map fun p => (plAt p ks : Int)).map V.int))
    have s5 := same_new hp5 (.tup [.str "rule", .int r, .ref p4])
    refine q _ _ ((es.trans (s3.trans s4)).trans s5) ⟨p5, _, rfl, upd_same, _, _, rfl, rfl, _, _, rfl, rfl, _, _, rfl, atPs (s5 _ _ upd_same), rfl⟩
theorem ok_line_for (bi : Bi mg) (be : mg "enumerate" = none) (F : Fun K "line_for" "line_for" s_line_for f fd) : FnOk P w K mg base CX0 1 f fd ["lines", "i", "j"] spFor := by
  refine F.ok sc_line_for (fun vs H Q E h => ?_) (fun cdv A outer s H vs Q E hr h => ?_)
  · obtain ⟨la, ws, ls, i, j, rfl, _⟩ := h
    rfl
  obtain ⟨la, ws, ls, i, j, rfl, hla, hls, q⟩ := h
  have hwl := mapLen hls
  refine ⟨_, (pss_cons (ps_for PassesOwn.never rfl (pi_enum rfl be (pa_cons (pv 0) pa_nil)) (pg_tup rfl (pgs_cons (pg_name (i := 3) sc_line_for.nd rfl (Or.inl rfl)) (pgs_cons (pg_name (i := 4) sc_line_for.nd rfl (Or.inl rfl)) pgs_nil))) (pss_one (ps_if (pt_cmpR (op_eqG hr.units) (pe_tup (pa_cons (pe_ix ix_tup (pv 4) pe_int (fun _ _ => rfl)) (pa_cons (pe_ix ix_tup (pv 4) pe_int (fun _ _ => rfl)) pa_nil))) (pe_tup (pa_cons (pv 1) (pa_cons (pv 2) pa_nil))) (nomark _)) (pss_one (ps_ret (pv 3))) pss_nil))) (pss_one (ps_ret pe_non))), ?_⟩
  refine seq_join (fun σ H' => ∃ (o1 o2 : Option V), Same H H' ∧ (∀ l ∈ ls, ¬ (l.i = i ∧ l.j = j)) ∧ σ = [some (V.ref la), some (V.int i), some (V.int j), o1, o2]) (fun N hN => ?_) (fun σ H' h => ?_)
  · simp only [tSeq, tFor_eq, tLC_eq, iRng1, iRng2, iList, iTup, iStr, tIfS, tRet, tRetN, tNext, tAsg, gName, tVar, tC, tOp, rI0, rI, tTest, tB, rEq, rNe, tCall, tCons, tNil, tCB, tLst, tTup, tAnd, tOr, tNot, tAndV, tOrV, tNotV, tIf, tDrop, tSl, tPart, tNoPart, tChain, tUn, rU, L2.start, cx_K, bk_K, cx_calm, bk_calm, lenV_str, and_assoc, Option.join, List.length_map, List.length_append, decide_eq_true_eq, Bool.false_eq_true, if_false, if_true, Bool.not_true, Bool.not_false, Bool.not_eq_true', decide_eq_false_iff_not, Bool.true_eq_false, List.length_cons, List.length_nil, List.map_cons, List.map_nil, List.replicate, List.cons_append, List.nil_append, List.append_nil, List.getElem?_cons_zero, List.getElem?_cons_succ, List.set_cons_zero, List.set_cons_succ, Nat.reduceSub, Nat.reduceAdd, Option.some.injEq, V.int.injEq, V.str.injEq, V.bl.injEq, V.ref.injEq, List.cons.injEq, and_true, true_and, exists_eq_left', exists_eq_left, exists_and_left, exists_eq_right, exists_const, tBM, tBM0, rAppend, rPop, rIxL, rIxT, rIxS, rSlL, rSlT, rSlS, rCat, rCatT, tKGet, cx_w, bk_w, tDGet, tDisp, tPairs, tDNewK, cx_P, iEnum]
    refine ⟨_, hla, ?_⟩
    refine fw_enum (xs := ws) (fun n σ H' => ∃ (o1 o2 : Option V), Same H H' ∧ (∀ (m : Nat) (l' : Ln), m < n → ls[m]? = some l' → ¬ (l'.i = i ∧ l'.j = j)) ∧ σ = [some (V.ref la), some (V.int i), some (V.int j), o1, o2]) ⟨_, _, Same.refl _, (fun m l z => by cases z), rfl⟩ (fun n σ H' h => ?_) (fun n x σ H' p hx h hp => ?_) (fun σ H' h => ?_)
    · obtain ⟨o1, o2, s1, _⟩ := h
      exact s1 _ _ hla
    · obtain ⟨o1, o2, s1, hno, rfl⟩ := h
      obtain ⟨l, hl1, hl2⟩ := mapGetV hls hx
      obtain ⟨b, u, rfl, hb, _⟩ := lnAt hl2
      have s2 := same_new hp (.tup [.int n, .ref b])
      have k2 : upd H' p (.tup [.int n, .ref b]) p = some (.tup [.int n, .ref b]) := upd_same
      replace s1 := s1.trans s2
      generalize upd H' p (.tup [.int n, .ref b]) = H2 at s1 k2 ⊢
      replace hb := s1 _ _ hb
      simp only [tSeq, tFor_eq, tLC_eq, iRng1, iRng2, iList, iTup, iStr, tIfS, tRet, tRetN, tNext, tAsg, gName, tVar, tC, tOp, rI0, rI, tTest, tB, rEq, rNe, tCall, tCons, tNil, tCB, tLst, tTup, tAnd, tOr, tNot, tAndV, tOrV, tNotV, tIf, tDrop, tSl, tPart, tNoPart, tChain, tUn, rU, L2.start, cx_K, bk_K, cx_calm, bk_calm, lenV_str, and_assoc, Option.join, List.length_map, List.length_append, decide_eq_true_eq, Bool.false_eq_true, if_false, if_true, Bool.not_true, Bool.not_false, Bool.not_eq_true', decide_eq_false_iff_not, Bool.true_eq_false, List.length_cons, List.length_nil, List.map_cons, List.map_nil, List.replicate, List.cons_append, List.nil_append, List.append_nil, List.getElem?_cons_zero, List.getElem?_cons_succ, List.set_cons_zero, List.set_cons_succ, Nat.reduceSub, Nat.reduceAdd, Option.some.injEq, V.int.injEq, V.str.injEq, V.bl.injEq, V.ref.injEq, List.cons.injEq, and_true, true_and, exists_eq_left', exists_eq_left, exists_and_left, exists_eq_right, exists_const, tBM, tBM0, rAppend, rPop, rIxL, rIxT, rIxS, rSlL, rSlT, rSlS, rCat, rCatT, tKGet, cx_w, bk_w, tDGet, tDisp, tPairs, tDNewK, cx_P, gTup, gCons, gNil]
      refine ⟨[.int n, .ref b], SqT.of k2, rfl, .int n, [.ref b], rfl, .ref b, [], rfl, rfl, ?_⟩
      refine ⟨b, rfl, _, SqT.of hb, _, at0, b, rfl, _, SqT.of hb, _, at1, small (by simp), fun p3 h3 => ⟨small (by simp), fun p4 h4 => ?_⟩⟩
      have s3 := same_new h3 (.tup [.int l.i, .int l.j])
      have s4 := same_new h4 (.tup [.int i, .int j])
      refine ⟨0, dPr (l.i, l.j), dPr (i, j), ⟨p3, _, rfl, s4 _ _ upd_same, _, _, rfl, rfl, _, _, rfl, rfl, rfl⟩, ⟨p4, _, rfl, upd_same, _, _, rfl, rfl, _, _, rfl, rfl, rfl⟩, fit_pr 0 _, by omega, _, rfl, ?_⟩
      rw [deq_pr]
      by_cases e : l.i = i ∧ l.j = j
      · rw [if_pos (by rw [e.1, e.2]; simp)]
        exact q _ _ (s1.trans (s3.trans s4)) (.inr ⟨n, l, rfl, hl1, e, hno⟩)
      · rw [if_neg (by simpa using e)]
        refine ⟨s1.trans (s3.trans s4), fun m l' hm hl' => ?_, _, rfl⟩
        by_cases em : m = n
        · subst em
          rw [hl1] at hl'
          cases hl'
          exact e
        · exact hno m l' (by omega) hl'
    · obtain ⟨o1, o2, s1, hno, rfl⟩ := h
      refine hN _ _ ⟨o1, o2, s1, fun l hl => ?_, rfl⟩
      obtain ⟨m, hm, e⟩ := List.getElem_of_mem hl
      exact hno m l (by omega) (by rw [List.getElem?_eq_getElem hm, e])
  obtain ⟨o1, o2, s1, hno, rfl⟩ := h
  simp only [tSeq, tFor_eq, tLC_eq, iRng1, iRng2, iList, iTup, iStr, tIfS, tRet, tRetN, tNext, tAsg, gName, tVar, tC, tOp, rI0, rI, tTest, tB, rEq, rNe, tCall, tCons, tNil, tCB, tLst, tTup, tAnd, tOr, tNot, tAndV, tOrV, tNotV, tIf, tDrop, tSl, tPart, tNoPart, tChain, tUn, rU, L2.start, cx_K, bk_K, cx_calm, bk_calm, lenV_str, and_assoc, Option.join, List.length_map, List.length_append, decide_eq_true_eq, Bool.false_eq_true, if_false, if_true, Bool.not_true, Bool.not_false, Bool.not_eq_true', decide_eq_false_iff_not, Bool.true_eq_false, List.length_cons, List.length_nil, List.map_cons, List.map_nil, List.replicate, List.cons_append, List.nil_append, List.append_nil, List.getElem?_cons_zero, List.getElem?_cons_succ, List.set_cons_zero, List.set_cons_succ, Nat.reduceSub, Nat.reduceAdd, Option.some.injEq, V.int.injEq, V.str.injEq, V.bl.injEq, V.ref.injEq, List.cons.injEq, and_true, true_and, exists_eq_left', exists_eq_left, exists_and_left, exists_eq_right, exists_const, tBM, tBM0, rAppend, rPop, rIxL, rIxT, rIxS, rSlL, rSlT, rSlS, rCat, rCatT, tKGet, cx_w, bk_w, tDGet, tDisp, tPairs, tDNewK, cx_P]
  exact q _ _ s1 (.inl ⟨rfl, hno⟩)
end
end C
set_option Elab.async false
set_option linter.all false
set_option maxRecDepth 100000
set_option maxHeartbeats 8000000
namespace C
open PySem L2
seal PE PT PW PA PS PSs PG PGs PI PPs PO PSet PIf
def spHu : Sp := fun vs H Q _ => ∃ (la : Addr) (ws : List V) (ls : List Ln) (k : Nat), vs = [.ref la, .int k] ∧ H la = some (.lst ws) ∧ LnAts H ls ws ∧ Ahead ls ∧ k < ls.length ∧ ls.length ≤ 63 ∧ ∀ p ks H', Same H H' → H' p = some (.lst (ks.map V.int)) → Kept ls k ks → Q (.ref p) H'
def PapAt (H : Hp) (ls : List Ln) (i j : Int) (r : V) : Prop := (r = .non ∧ ∀ l ∈ ls, ¬ (l.i = i ∧ l.j = j)) ∨
  ∃ (k : Nat) (l : Ln) (ks : List Int), ls[k]? = some l ∧ (l.i = i ∧ l.j = j) ∧ (∀ (m : Nat) (l' : Ln), m < k → ls[m]? = some l' → ¬ (l'.i = i ∧ l'.j = j)) ∧ Kept ls k ks ∧ DAt H (.lst ((papT ls ks ks.length).map dLn)) r
def spPa : Sp := fun vs H Q _ => ∃ (la : Addr) (ws : List V) (ls : List Ln) (i j : Int), vs = [.ref la, .int i, .int j] ∧ H la = some (.lst ws) ∧ LnAts H ls ws ∧ Ahead ls ∧ ls.length ≤ 63 ∧ ∀ r H', Same H H' → PapAt H' ls i j r → Q r H'
theorem hung_len {ls : List Ln} (h : Ahead ls) {k : Nat} (hk : k < ls.length) (h63 : ls.length ≤ 63) : (hung ls k).length ≤ 63 := by
  have := in_len (hung_nodup ls k) (hung_in h k)
  omega
theorem back_len {ls : List Ln} (h : Ahead ls) {k i : Nat} (hi : i ≤ k + 1) : (back (nmOf ls) k i).length ≤ k + 1 := in_len (back_nodup _ _ _) (back_in (fun n h0 _ => nm_ahead h n h0) i hi)
section
variable {P : Program} {w : World} {K : PySem.W.Frag} {mg : Str → Option Value} {base : Heap} {f : Addr} {fd : FuncData}
theorem ok_hung_on (bi : Bi mg) (h_lines_named : Has P w K mg base 1 "lines_named" ["why"] spLN) (F : Fun K "hung_on" "hung_on" s_hung_on f fd) : FnOk P w K mg base CX0 2 f fd ["lines", "k"] spHu := by
  refine F.ok sc_hung_on (fun vs H Q E h => ?_) (fun cdv A outer s H vs Q E hr h => ?_)
  · obtain ⟨la, ws, ls, k, rfl, _⟩ := h
    rfl
  obtain ⟨la, ws, ls, k, rfl, hla, hls, hah, hk, h63, q⟩ := h
  have hwl := mapLen hls
  have at2 : ∀ {a b c : V}, atI [a, b, c] 2 = some c := atI_nat (j := 2) rfl
  refine ⟨_, (pss_cons (ps_set (i := 2) sc_hung_on.nd rfl (Or.inl rfl) (pe_disp (pps_cons (pv 1) pe_bl pps_nil) rfl rfl (by simp) (by decide))) (pss_cons (ps_for PassesOwn.never rfl (pi_down rfl bi.range (pa_cons (pv 1) (pa_cons (pe_un un_neg pe_int) (pa_cons (pe_un un_neg pe_int) pa_nil)))) (pg_name (i := 3) sc_hung_on.nd rfl (Or.inl rfl)) (pss_one (ps_if (pt_cmp (pc_din (hu_of hr) (pv 3) (pv 2)) (by with_unfolding_all rfl)) (pss_one (ps_for PassesOwn.never rfl (pi_tup (pe_callH h_lines_named (hr.mono (by omega)) rfl (pa_cons (pe_ix ix_tup (pe_ix ix_list (pv 0) (pv 3) (fun _ _ => rfl)) pe_int (fun _ _ => rfl)) pa_nil))) (pg_name (i := 4) sc_hung_on.nd rfl (Or.inl rfl)) (pss_one (ps_dput (hu_of hr) (pv 2) (pv 4) pe_bl rfl)))) pss_nil))) (pss_one (ps_ret (pe_callB call_sortedDI rfl bi.sorted bt_sorted (pa_cons (pv 2) pa_nil)))))), ?_⟩
  refine seq_abs fun N hN => ?_
  simp only [tSeq, tFor_eq, tLC_eq, iRng1, iRng2, iList, iTup, iStr, tIfS, tRet, tRetN, tNext, tAsg, gName, tVar, tC, tOp, rI0, rI, tTest, tB, rEq, rNe, tCall, tCons, tNil, tCB, tLst, tTup, tAnd, tOr, tNot, tAndV, tOrV, tNotV, tIf, tDrop, tSl, tPart, tNoPart, tChain, tUn, rU, L2.start, cx_K, bk_K, cx_calm, bk_calm, lenV_str, and_assoc, Option.join, List.length_map, List.length_append, decide_eq_true_eq, Bool.false_eq_true, if_false, if_true, Bool.not_true, Bool.not_false, Bool.not_eq_true', decide_eq_false_iff_not, Bool.true_eq_false, List.length_cons, List.length_nil, List.map_cons, List.map_nil, List.replicate, List.cons_append, List.nil_append, List.append_nil, List.getElem?_cons_zero, List.getElem?_cons_succ, List.set_cons_zero, List.set_cons_succ, Nat.reduceSub, Nat.reduceAdd, Option.some.injEq, V.int.injEq, V.str.injEq, V.bl.injEq, V.ref.injEq, List.cons.injEq, and_true, true_and, exists_eq_left', exists_eq_left, exists_and_left, exists_eq_right, exists_const, tBM, tBM0, rAppend, rPop, rIxL, rIxT, rIxS, rSlL, rSlT, rSlS, rCat, rCatT, tKGet, cx_w, bk_w, tDGet, tDisp, tPairs, tDNewK, cx_P]
  refine fun nd hnd => ⟨upd_same, [(.inl (k : Int), .bl true)], rfl, by simp, hN _ _ ?_⟩
  clear hN
  have s1 : Same H (upd (upd H nd (.dK [])) nd (.dK (mergeK [] [(.inl (k : Int), V.bl true)]))) := ((Same.refl H).upd hnd).upd hnd
  have k1 : upd (upd H nd (.dK [])) nd (.dK (mergeK [] [(.inl (k : Int), V.bl true)])) nd = some (.dK (trK (back (nmOf ls) k 0))) := upd_same
  generalize upd (upd H nd (.dK [])) nd (.dK (mergeK [] [(.inl (k : Int), V.bl true)])) = H1 at s1 k1 ⊢
  refine seq_join (fun σ H' => ∃ (o1 o2 : Option V), Same H H' ∧ H' nd = some (.dK (trK (hung ls k))) ∧ σ = [some (V.ref la), some (V.int k), some (V.ref nd), o1, o2]) (fun N hN => ?_) (fun σ H' h => ?_)
  · simp only [tSeq, tFor_eq, tLC_eq, iRng1, iRng2, iList, iTup, iStr, tIfS, tRet, tRetN, tNext, tAsg, gName, tVar, tC, tOp, rI0, rI, tTest, tB, rEq, rNe, tCall, tCons, tNil, tCB, tLst, tTup, tAnd, tOr, tNot, tAndV, tOrV, tNotV, tIf, tDrop, tSl, tPart, tNoPart, tChain, tUn, rU, L2.start, cx_K, bk_K, cx_calm, bk_calm, lenV_str, and_assoc, Option.join, List.length_map, List.length_append, decide_eq_true_eq, Bool.false_eq_true, if_false, if_true, Bool.not_true, Bool.not_false, Bool.not_eq_true', decide_eq_false_iff_not, Bool.true_eq_false, List.length_cons, List.length_nil, List.map_cons, List.map_nil, List.replicate, List.cons_append, List.nil_append, List.append_nil, List.getElem?_cons_zero, List.getElem?_cons_succ, List.set_cons_zero, List.set_cons_succ, Nat.reduceSub, Nat.reduceAdd, Option.some.injEq, V.int.injEq, V.str.injEq, V.bl.injEq, V.ref.injEq, List.cons.injEq, and_true, true_and, exists_eq_left', exists_eq_left, exists_and_left, exists_eq_right, exists_const, tBM, tBM0, rAppend, rPop, rIxL, rIxT, rIxS, rSlL, rSlT, rSlS, rCat, rCatT, tKGet, cx_w, bk_w, tDGet, tDisp, tPairs, tDNewK, cx_P, iDown]
    refine ⟨k, rfl, by omega, ?_⟩
    refine fw_down (n := k + 1) (hi := (k : Int)) (fun i σ H' => ∃ (o1 o2 : Option V), Same H H' ∧ H' nd = some (.dK (trK (back (nmOf ls) k i))) ∧ σ = [some (V.ref la), some (V.int k), some (V.ref nd), o1, o2]) ⟨_, _, s1, k1, rfl⟩ (fun i σ H' hi h => ?_) (fun σ H' h => ?_)
    · obtain ⟨o1, o2, s2, k2, rfl⟩ := h
      have hbl := back_len hah (i := i) (k := k) (by omega)
      simp only [tSeq, tFor_eq, tLC_eq, iRng1, iRng2, iList, iTup, iStr, tIfS, tRet, tRetN, tNext, tAsg, gName, tVar, tC, tOp, rI0, rI, tTest, tB, rEq, rNe, tCall, tCons, tNil, tCB, tLst, tTup, tAnd, tOr, tNot, tAndV, tOrV, tNotV, tIf, tDrop, tSl, tPart, tNoPart, tChain, tUn, rU, L2.start, cx_K, bk_K, cx_calm, bk_calm, lenV_str, and_assoc, Option.join, List.length_map, List.length_append, decide_eq_true_eq, Bool.false_eq_true, if_false, if_true, Bool.not_true, Bool.not_false, Bool.not_eq_true', decide_eq_false_iff_not, Bool.true_eq_false, List.length_cons, List.length_nil, List.map_cons, List.map_nil, List.replicate, List.cons_append, List.nil_append, List.append_nil, List.getElem?_cons_zero, List.getElem?_cons_succ, List.set_cons_zero, List.set_cons_succ, Nat.reduceSub, Nat.reduceAdd, Option.some.injEq, V.int.injEq, V.str.injEq, V.bl.injEq, V.ref.injEq, List.cons.injEq, and_true, true_and, exists_eq_left', exists_eq_left, exists_and_left, exists_eq_right, exists_const, tBM, tBM0, rAppend, rPop, rIxL, rIxT, rIxS, rSlL, rSlT, rSlS, rCat, rCatT, tKGet, cx_w, bk_w, tDGet, tDisp, tPairs, tDNewK, cx_P, tDIn]
      refine ⟨_, .inl ⟨_, .inl ((k : Int) - i), .inl k2, rfl, rfl⟩, ?_⟩
      rw [trK_val]
      by_cases hin : ((k : Int) - i) ∈ back (nmOf ls) k i
      rotate_left
      · rw [if_neg (by simpa using hin)]
        refine ⟨s2, ?_, _, rfl⟩
        rw [back_neg hin]
        exact k2
      rw [if_pos (by simpa using hin)]
      have hn0 : ((k : Int) - i).toNat < ls.length := by omega
      obtain ⟨v, hv1, hv2⟩ := DAts.get (d := dLn ls[((k : Int) - i).toNat]) hls (by rw [List.getElem?_map, List.getElem?_eq_getElem hn0]; rfl)
      have hlx := List.getElem?_eq_getElem hn0
      have hgl := hah _ _ hlx
      have hnm := nm_at hlx
      generalize ls[((k : Int) - i).toNat] = l at hv2 hgl hnm
      obtain ⟨b, u, rfl, hb, hu⟩ := lnAt hv2
      refine ⟨_, SqL.of (s2 _ _ hla), _, at_toNat (by omega) hv1, b, rfl, _, SqT.of (s2 _ _ hb), _, at2, ?_⟩
      refine ⟨u, l.w, l.as, rfl, DAt.same s2 hu, hgl.1, fun pt H3 s3 k3 => ?_⟩
      rw [← hnm] at k3
      have k23 := s3 _ _ k2
      have nn : pt ≠ nd := fun z => by rw [z, k23] at k3; cases k3
      refine ⟨pt, rfl, ⟨_, SqT.of k3⟩, ?_⟩
      rw [back_pos hin]
      have hps : ∀ p ∈ nmOf ls ((k : Int) - i), 0 ≤ p ∧ p ≤ (k : Int) := fun p hp => by
        have := nm_ahead hah _ (by omega) p hp
        omega
      refine fw_tup (xs := (nmOf ls ((k : Int) - i)).map V.int) (fun m σ H' => ∃ (o : Option V), Same H H' ∧ H' pt = some (.tup ((nmOf ls ((k : Int) - i)).map V.int)) ∧ H' nd = some (.dK (trK (addAll (back (nmOf ls) k i) ((nmOf ls ((k : Int) - i)).take m)))) ∧ σ = [some (V.ref la), some (V.int k), some (V.ref nd), some (V.int ((k : Int) - i)), o]) ⟨_, s2.trans s3, k3, k23, rfl⟩ (fun m σ H' _ h => ?_) (fun m x σ H' hx h => ?_) (fun σ H' h => ?_)
      · obtain ⟨o, _, h2, _⟩ := h
        exact SqT.of h2
      · obtain ⟨o, s4, k4, k5, rfl⟩ := h
        rw [List.getElem?_map] at hx
        cases hni : (nmOf ls ((k : Int) - i))[m]? with
        | none => rw [hni] at hx; cases hx
        | some p =>
          rw [hni] at hx
          cases hx
          simp only [tSeq, tFor_eq, tLC_eq, iRng1, iRng2, iList, iTup, iStr, tIfS, tRet, tRetN, tNext, tAsg, gName, tVar, tC, tOp, rI0, rI, tTest, tB, rEq, rNe, tCall, tCons, tNil, tCB, tLst, tTup, tAnd, tOr, tNot, tAndV, tOrV, tNotV, tIf, tDrop, tSl, tPart, tNoPart, tChain, tUn, rU, L2.start, cx_K, bk_K, cx_calm, bk_calm, lenV_str, and_assoc, Option.join, List.length_map, List.length_append, decide_eq_true_eq, Bool.false_eq_true, if_false, if_true, Bool.not_true, Bool.not_false, Bool.not_eq_true', decide_eq_false_iff_not, Bool.true_eq_false, List.length_cons, List.length_nil, List.map_cons, List.map_nil, List.replicate, List.cons_append, List.nil_append, List.append_nil, List.getElem?_cons_zero, List.getElem?_cons_succ, List.set_cons_zero, List.set_cons_succ, Nat.reduceSub, Nat.reduceAdd, Option.some.injEq, V.int.injEq, V.str.injEq, V.bl.injEq, V.ref.injEq, List.cons.injEq, and_true, true_and, exists_eq_left', exists_eq_left, exists_and_left, exists_eq_right, exists_const, tBM, tBM0, rAppend, rPop, rIxL, rIxT, rIxS, rSlL, rSlT, rSlS, rCat, rCatT, tKGet, cx_w, bk_w, tDGet, tDisp, tPairs, tDNewK, cx_P, sDPut]
          have hal : (addAll (back (nmOf ls) k i) ((nmOf ls ((k : Int) - i)).take m)).length ≤ k + 1 := by
            refine in_len (nodup_addAll _ _ (back_nodup _ _ _)) fun z hz => ?_
            rcases (mem_addAll z _ _).mp hz with hz | hz
            · exact back_in (fun n h0 _ => nm_ahead hah n h0) i (by omega) z hz
            · exact hps z (List.mem_of_mem_take hz)
          obtain ⟨hm, e⟩ := List.getElem?_eq_some_iff.mp hni
          refine ⟨_, .inl ⟨_, .inl p, k5, rfl, ?_, rfl⟩, s4.upd hnd, by rw [upd_ne nn]; exact k4, ?_, _, rfl⟩
          · unfold trK
            rw [List.length_map]
            exact small1000 (by omega)
          rw [upd_same, trK_put, List.take_succ_eq_append_getElem hm, e, addAll_snoc]
      · obtain ⟨o, s4, k4, k5, rfl⟩ := h
        rw [List.length_map, List.take_of_length_le (Nat.le_refl _)] at k5
        exact ⟨s4, k5, _, _, rfl⟩
    · obtain ⟨o1, o2, s2, k2, rfl⟩ := h
      exact hN _ _ ⟨_, _, s2, k2, rfl⟩
  obtain ⟨o1, o2, s2, k2, rfl⟩ := h
  simp only [tSeq, tFor_eq, tLC_eq, iRng1, iRng2, iList, iTup, iStr, tIfS, tRet, tRetN, tNext, tAsg, gName, tVar, tC, tOp, rI0, rI, tTest, tB, rEq, rNe, tCall, tCons, tNil, tCB, tLst, tTup, tAnd, tOr, tNot, tAndV, tOrV, tNotV, tIf, tDrop, tSl, tPart, tNoPart, tChain, tUn, rU, L2.start, cx_K, bk_K, cx_calm, bk_calm, lenV_str, and_assoc, Option.join, List.length_map, List.length_append, decide_eq_true_eq, Bool.false_eq_true, if_false, if_true, Bool.not_true, Bool.not_false, Bool.not_eq_true', decide_eq_false_iff_not, Bool.true_eq_false, List.length_cons, List.length_nil, List.map_cons, List.map_nil, List.replicate, List.cons_append, List.nil_append, List.append_nil, List.getElem?_cons_zero, List.getElem?_cons_succ, List.set_cons_zero, List.set_cons_succ, Nat.reduceSub, Nat.reduceAdd, Option.some.injEq, V.int.injEq, V.str.injEq, V.bl.injEq, V.ref.injEq, List.cons.injEq, and_true, true_and, exists_eq_left', exists_eq_left, exists_and_left, exists_eq_right, exists_const, tBM, tBM0, rAppend, rPop, rIxL, rIxT, rIxS, rSlL, rSlT, rSlS, rCat, rCatT, tKGet, cx_w, bk_w, tDGet, tDisp, tPairs, tDNewK, cx_P]
  have hl := hung_len hah hk h63
  refine ⟨_, k2, hung ls k, trK_keys _, by omega, fun p ks hp hpm hrs => ?_⟩
  exact q _ ks _ (s2.trans (same_new hp _)) upd_same ⟨hpm, hrs⟩
theorem ok_paper (bi : Bi mg) (be : mg "enumerate" = none) (h_line_for : Has P w K mg base 1 "line_for" ["lines", "i", "j"] spFor) (h_hung_on : Has P w K mg base 2 "hung_on" ["lines", "k"] spHu) (h_renamed : Has P w K mg base 1 "renamed" ["why", "places"] spRn) (F : Fun K "paper" "paper" s_paper f fd) : FnOk P w K mg base CX0 3 f fd ["lines", "i", "j"] spPa := by
  refine F.ok sc_paper (fun vs H Q E h => ?_) (fun cdv A outer s H vs Q E hr h => ?_)
  · obtain ⟨la, ws, ls, i, j, rfl, _⟩ := h
    rfl
  obtain ⟨la, ws, ls, i, j, rfl, hla, hls, hah, h63, q⟩ := h
  have hwl := mapLen hls
  have at2 : ∀ {a b c : V}, atI [a, b, c] 2 = some c := atI_nat (j := 2) rfl
  refine ⟨_, (pss_cons (ps_set (i := 3) sc_paper.nd rfl (Or.inl rfl) (pe_callH h_line_for (hr.mono (by omega)) rfl (pa_cons (pv 0) (pa_cons (pv 1) (pa_cons (pv 2) pa_nil))))) (pss_cons (ps_if (pt_cmpR op_isN (pv 3) pe_non (nomark _)) (pss_one (ps_ret pe_non)) pss_nil) (pss_cons (ps_set (i := 4) sc_paper.nd rfl (Or.inl rfl) (pe_callH h_hung_on (hr.mono (by omega)) rfl (pa_cons (pv 0) (pa_cons (pv 3) pa_nil)))) (pss_cons (ps_set (i := 5) sc_paper.nd rfl (Or.inr rfl) (pe_callTy call_dictP rfl bi.dict bt_dict (pa_cons (pe_comp ["place", "n"] [] [] (pi_enum rfl be (pa_cons (pv 4) pa_nil)) (fun _ _ _ _ nd => pg_tupK (K := K) (n := 2) rfl (pgs_cons (pg_name (i := 0) nd rfl (Or.inl rfl)) (pgs_cons (pg_name (i := 1) nd rfl (Or.inl rfl)) pgs_nil))) (fun _ _ _ _ => pif_nil) (fun _ _ _ _ => (pe_tup (pa_cons (pv 1) (pa_cons (pv 0) pa_nil))))) pa_nil))) (pss_one (ps_ret (pe_comp ["n"] ["places", "lines"] [5, 0] (pi_list (pv 4)) (fun _ _ _ _ nd => pg_name (i := 0) nd rfl (Or.inl rfl)) (fun _ _ _ _ => pif_nil) (fun _ _ _ _ => (pe_tup (pa_cons (pe_ix (ix_tupK K) (pe_ix (ix_listK K) (pv 2) (pv 0) (fun _ _ => rfl)) pe_int (fun _ _ => rfl)) (pa_cons (pe_ix (ix_tupK K) (pe_ix (ix_listK K) (pv 2) (pv 0) (fun _ _ => rfl)) pe_int (fun _ _ => rfl)) (pa_cons (pe_callH h_renamed (hr.mono (by omega)) rfl (pa_cons (pe_ix (ix_tupK K) (pe_ix (ix_listK K) (pv 2) (pv 0) (fun _ _ => rfl)) pe_int (fun _ _ => rfl)) (pa_cons (pv 1) pa_nil))) pa_nil)))))))))))), ?_⟩
  refine seq_abs fun N hN => ?_
  simp only [tSeq, tFor_eq, tLC_eq, iRng1, iRng2, iList, iTup, iStr, tIfS, tRet, tRetN, tNext, tAsg, gName, tVar, tC, tOp, rI0, rI, tTest, tB, rEq, rNe, tCall, tCons, tNil, tCB, tLst, tTup, tAnd, tOr, tNot, tAndV, tOrV, tNotV, tIf, tDrop, tSl, tPart, tNoPart, tChain, tUn, rU, L2.start, cx_K, bk_K, cx_calm, bk_calm, lenV_str, and_assoc, Option.join, List.length_map, List.length_append, decide_eq_true_eq, Bool.false_eq_true, if_false, if_true, Bool.not_true, Bool.not_false, Bool.not_eq_true', decide_eq_false_iff_not, Bool.true_eq_false, List.length_cons, List.length_nil, List.map_cons, List.map_nil, List.replicate, List.cons_append, List.nil_append, List.append_nil, List.getElem?_cons_zero, List.getElem?_cons_succ, List.set_cons_zero, List.set_cons_succ, Nat.reduceSub, Nat.reduceAdd, Option.some.injEq, V.int.injEq, V.str.injEq, V.bl.injEq, V.ref.injEq, List.cons.injEq, and_true, true_and, exists_eq_left', exists_eq_left, exists_and_left, exists_eq_right, exists_const, tBM, tBM0, rAppend, rPop, rIxL, rIxT, rIxS, rSlL, rSlT, rSlS, rCat, rCatT, tKGet, cx_w, bk_w, tDGet, tDisp, tPairs, tDNewK, cx_P]
  refine ⟨la, ws, ls, i, j, rfl, hla, hls, fun r H1 s1 hr1 => hN _ _ ?_⟩
  replace hla := s1 _ _ hla
  replace hls := DAts.same s1 hls
  clear hN
  refine seq_abs fun N hN => ?_
  simp only [tSeq, tFor_eq, tLC_eq, iRng1, iRng2, iList, iTup, iStr, tIfS, tRet, tRetN, tNext, tAsg, gName, tVar, tC, tOp, rI0, rI, tTest, tB, rEq, rNe, tCall, tCons, tNil, tCB, tLst, tTup, tAnd, tOr, tNot, tAndV, tOrV, tNotV, tIf, tDrop, tSl, tPart, tNoPart, tChain, tUn, rU, L2.start, cx_K, bk_K, cx_calm, bk_calm, lenV_str, and_assoc, Option.join, List.length_map, List.length_append, decide_eq_true_eq, Bool.false_eq_true, if_false, if_true, Bool.not_true, Bool.not_false, Bool.not_eq_true', decide_eq_false_iff_not, Bool.true_eq_false, List.length_cons, List.length_nil, List.map_cons, List.map_nil, List.replicate, List.cons_append, List.nil_append, List.append_nil, List.getElem?_cons_zero, List.getElem?_cons_succ, List.set_cons_zero, List.set_cons_succ, Nat.reduceSub, Nat.reduceAdd, Option.some.injEq, V.int.injEq, V.str.injEq, V.bl.injEq, V.ref.injEq, List.cons.injEq, and_true, true_and, exists_eq_left', exists_eq_left, exists_and_left, exists_eq_right, exists_const, tBM, tBM0, rAppend, rPop, rIxL, rIxT, rIxS, rSlL, rSlT, rSlS, rCat, rCatT, tKGet, cx_w, bk_w, tDGet, tDisp, tPairs, tDNewK, cx_P]
  rcases hr1 with ⟨rfl, hno⟩ | ⟨k, l, rfl, hlk, hij, hno⟩
  · rw [if_pos rfl]
    exact q _ _ s1 (.inl ⟨rfl, hno⟩)
  rw [if_neg (by intro z; cases z)]
  refine hN _ _ ?_
  clear hN
  have hk := (List.getElem?_eq_some_iff.mp hlk).1
  refine seq_abs fun N hN => ?_
  simp only [tSeq, tFor_eq, tLC_eq, iRng1, iRng2, iList, iTup, iStr, tIfS, tRet, tRetN, tNext, tAsg, gName, tVar, tC, tOp, rI0, rI, tTest, tB, rEq, rNe, tCall, tCons, tNil, tCB, tLst, tTup, tAnd, tOr, tNot, tAndV, tOrV, tNotV, tIf, tDrop, tSl, tPart, tNoPart, tChain, tUn, rU, L2.start, cx_K, bk_K, cx_calm, bk_calm, lenV_str, and_assoc, Option.join, List.length_map, List.length_append, decide_eq_true_eq, Bool.false_eq_true, if_false, if_true, Bool.not_true, Bool.not_false, Bool.not_eq_true', decide_eq_false_iff_not, Bool.true_eq_false, List.length_cons, List.length_nil, List.map_cons, List.map_nil, List.replicate, List.cons_append, List.nil_append, List.append_nil, List.getElem?_cons_zero, List.getElem?_cons_succ, List.set_cons_zero, List.set_cons_succ, Nat.reduceSub, Nat.reduceAdd, Option.some.injEq, V.int.injEq, V.str.injEq, V.bl.injEq, V.ref.injEq, List.cons.injEq, and_true, true_and, exists_eq_left', exists_eq_left, exists_and_left, exists_eq_right, exists_const, tBM, tBM0, rAppend, rPop, rIxL, rIxT, rIxS, rSlL, rSlT, rSlS, rCat, rCatT, tKGet, cx_w, bk_w, tDGet, tDisp, tPairs, tDNewK, cx_P]
  refine ⟨la, ws, ls, k, rfl, hla, hls, hah, hk, h63, fun pk ks H2 s2 k2 hks => hN _ _ ?_⟩
  replace hla := s2 _ _ hla
  replace hls := DAts.same s2 hls
  replace s1 := s1.trans s2
  clear hN
  have hkn := hks.nodup
  have hki := hks.inn hah
  have hkl := in_len hkn hki
  refine seq_abs fun N hN => ?_
  simp only [tSeq, tFor_eq, tLC_eq, iRng1, iRng2, iList, iTup, iStr, tIfS, tRet, tRetN, tNext, tAsg, gName, tVar, tC, tOp, rI0, rI, tTest, tB, rEq, rNe, tCall, tCons, tNil, tCB, tLst, tTup, tAnd, tOr, tNot, tAndV, tOrV, tNotV, tIf, tDrop, tSl, tPart, tNoPart, tChain, tUn, rU, L2.start, cx_K, bk_K, cx_calm, bk_calm, lenV_str, and_assoc, Option.join, List.length_map, List.length_append, decide_eq_true_eq, Bool.false_eq_true, if_false, if_true, Bool.not_true, Bool.not_false, Bool.not_eq_true', decide_eq_false_iff_not, Bool.true_eq_false, List.length_cons, List.length_nil, List.map_cons, List.map_nil, List.replicate, List.cons_append, List.nil_append, List.append_nil, List.getElem?_cons_zero, List.getElem?_cons_succ, List.set_cons_zero, List.set_cons_succ, Nat.reduceSub, Nat.reduceAdd, Option.some.injEq, V.int.injEq, V.str.injEq, V.bl.injEq, V.ref.injEq, List.cons.injEq, and_true, true_and, exists_eq_left', exists_eq_left, exists_and_left, exists_eq_right, exists_const, tBM, tBM0, rAppend, rPop, rIxL, rIxT, rIxS, rSlL, rSlT, rSlS, rCat, rCatT, tKGet, cx_w, bk_w, tDGet, tDisp, tPairs, tDNewK, cx_P, iEnum]
  refine ⟨_, k2, ?_⟩
  refine lc_enum (xs := ks.map V.int) (fun i ys σ H' => Same H2 H' ∧ (∃ as : List Addr, ys = as.map V.ref ∧ as.length = i ∧ ∀ (m : Nat) (a : Addr), as[m]? = some a → ∃ n, ks[m]? = some n ∧ H' a = some (.tup [.int n, .int m])) ∧ ∃ o1 o2, σ = [o1, o2]) ⟨Same.refl _, ⟨[], rfl, rfl, fun m a z => by cases z⟩, _, _, rfl⟩ (small (by rw [List.length_map]; omega)) (fun i ys σ H' e => ?_) (fun i ys σ H' e => e.1 _ _ k2) (fun i x ys σ H' p C hx e hp hC => ?_) (fun ys σ H' e p3 hp3 => ?_)
  · obtain ⟨_, ⟨as, rfl, hl, _⟩, _⟩ := e
    rw [List.length_map]
    omega
  · obtain ⟨es, ⟨as, rfl, hal, has⟩, o1, o2, rfl⟩ := e
    rw [List.getElem?_map] at hx
    cases hni : ks[i]? with
    | none => rw [hni] at hx; cases hx
    | some n =>
      rw [hni] at hx
      cases hx
      have s3 := same_new hp (.tup [.int i, .int n])
      have k3 : upd H' p (.tup [.int i, .int n]) p = some (.tup [.int i, .int n]) := upd_same
      generalize upd H' p (.tup [.int i, .int n]) = H3 at s3 k3 ⊢
      simp only [tSeq, tFor_eq, tLC_eq, iRng1, iRng2, iList, iTup, iStr, tIfS, tRet, tRetN, tNext, tAsg, gName, tVar, tC, tOp, rI0, rI, tTest, tB, rEq, rNe, tCall, tCons, tNil, tCB, tLst, tTup, tAnd, tOr, tNot, tAndV, tOrV, tNotV, tIf, tDrop, tSl, tPart, tNoPart, tChain, tUn, rU, L2.start, cx_K, bk_K, cx_calm, bk_calm, lenV_str, and_assoc, Option.join, List.length_map, List.length_append, decide_eq_true_eq, Bool.false_eq_true, if_false, if_true, Bool.not_true, Bool.not_false, Bool.not_eq_true', decide_eq_false_iff_not, Bool.true_eq_false, List.length_cons, List.length_nil, List.map_cons, List.map_nil, List.replicate, List.cons_append, List.nil_append, List.append_nil, List.getElem?_cons_zero, List.getElem?_cons_succ, List.set_cons_zero, List.set_cons_succ, Nat.reduceSub, Nat.reduceAdd, Option.some.injEq, V.int.injEq, V.str.injEq, V.bl.injEq, V.ref.injEq, List.cons.injEq, and_true, true_and, exists_eq_left', exists_eq_left, exists_and_left, exists_eq_right, exists_const, tBM, tBM0, rAppend, rPop, rIxL, rIxT, rIxS, rSlL, rSlT, rSlS, rCat, rCatT, tKGet, cx_w, bk_w, tDGet, tDisp, tPairs, tDNewK, cx_P, gTup, gCons, gNil]
      refine ⟨[.int i, .int n], SqT.of k3, rfl, .int i, [.int n], rfl, .int n, [], rfl, rfl, small (by simp), fun p4 hp4 => hC _ _ _ ?_⟩
      have s4 := same_new hp4 (.tup [.int n, .int i])
      refine ⟨(es.trans s3).trans s4, ⟨as ++ [p4], by rw [List.map_append]; rfl, by simp [hal], fun m a hm => ?_⟩, _, _, rfl⟩
      by_cases hlt : m < as.length
      · rw [List.getElem?_append_left hlt] at hm
        obtain ⟨n', h1, h2⟩ := has m a hm
        exact ⟨n', h1, s4 _ _ (s3 _ _ h2)⟩
      · have hm2 := (List.getElem?_eq_some_iff.mp hm).1
        rw [List.length_append, List.length_singleton] at hm2
        have em : m = as.length := by omega
        subst em
        rw [List.getElem?_append_right (Nat.le_refl _), Nat.sub_self] at hm
        cases hm
        refine ⟨n, by rw [hal]; exact hni, ?_⟩
        rw [hal]
        exact upd_same
  obtain ⟨es, ⟨as, rfl, hal, has⟩, o1, o2, rfl⟩ := e
  rw [List.length_map] at hal
  have s3 := same_new hp3 (.lst (as.map V.ref))
  have k3 : upd H' p3 (.lst (as.map V.ref)) p3 = some (.lst (as.map V.ref)) := upd_same
  generalize upd H' p3 (.lst (as.map V.ref)) = H3 at s3 k3 ⊢
  refine ⟨p3, rfl, as, SqL.of k3, plKV ks 0, by rw [plKV_len]; exact hal, ?_, fun m kk v hm => ?_, fun d hd => hN _ _ ?_⟩
  · rw [plKV_keys]
    exact List.pairwise_map.mpr (List.Pairwise.imp (fun hne e => hne (Sum.inl.inj e)) hkn)
  · obtain ⟨n, h1, rfl, rfl⟩ := plKV_get hm
    have hm' : m < as.length := by rw [hal]; exact (List.getElem?_eq_some_iff.mp h1).1
    obtain ⟨n', h2, h3⟩ := has m as[m] (List.getElem?_eq_getElem hm')
    rw [h1] at h2
    cases h2
    exact ⟨as[m], List.getElem?_eq_getElem hm', SqT.of (by rw [Nat.zero_add]; exact s3 _ _ h3)⟩
  clear hN
  have s4 := same_new hd (.dK (plKV ks 0))
  have k4 : upd H3 d (.dK (plKV ks 0)) d = some (.dK (plKV ks 0)) := upd_same
  have ss := (es.trans s3).trans s4
  generalize upd H3 d (.dK (plKV ks 0)) = H4 at ss k4 ⊢
  replace s1 := s1.trans ss
  replace hla := ss _ _ hla
  replace hls := DAts.same ss hls
  replace k2 := ss _ _ k2
  clear ss s4 s3 es k3 has hd hp3
  simp only [tSeq, tFor_eq, tLC_eq, iRng1, iRng2, iList, iTup, iStr, tIfS, tRet, tRetN, tNext, tAsg, gName, tVar, tC, tOp, rI0, rI, tTest, tB, rEq, rNe, tCall, tCons, tNil, tCB, tLst, tTup, tAnd, tOr, tNot, tAndV, tOrV, tNotV, tIf, tDrop, tSl, tPart, tNoPart, tChain, tUn, rU, L2.start, cx_K, bk_K, cx_calm, bk_calm, lenV_str, and_assoc, Option.join, List.length_map, List.length_append, decide_eq_true_eq, Bool.false_eq_true, if_false, if_true, Bool.not_true, Bool.not_false, Bool.not_eq_true', decide_eq_false_iff_not, Bool.true_eq_false, List.length_cons, List.length_nil, List.map_cons, List.map_nil, List.replicate, List.cons_append, List.nil_append, List.append_nil, List.getElem?_cons_zero, List.getElem?_cons_succ, List.set_cons_zero, List.set_cons_succ, Nat.reduceSub, Nat.reduceAdd, Option.some.injEq, V.int.injEq, V.str.injEq, V.bl.injEq, V.ref.injEq, List.cons.injEq, and_true, true_and, exists_eq_left', exists_eq_left, exists_and_left, exists_eq_right, exists_const, tBM, tBM0, rAppend, rPop, rIxL, rIxT, rIxS, rSlL, rSlT, rSlS, rCat, rCatT, tKGet, cx_w, bk_w, tDGet, tDisp, tPairs, tDNewK, cx_P]
  refine ⟨⟨_, SqL.of k2⟩, ?_⟩
  refine lc_list (xs := ks.map V.int) (fun i ys σ H' => Same H4 H' ∧ DAts H' ((papT ls ks i).map dLn) ys ∧ ∃ o, σ = [o, some (V.ref d), some (V.ref la)]) ⟨Same.refl _, rfl, _, rfl⟩ (small (by rw [List.length_map]; omega)) (fun i ys σ H' e => ?_) (fun i ys σ H' e => SqL.of (e.1 _ _ k2)) (fun i x ys σ H' C hx e hC => ?_) (fun ys σ H' e p5 hp5 => ?_)
  · have := DAts.length e.2.1
    rw [List.length_map] at this
    have := papT_len ls ks i
    omega
  · obtain ⟨es, hys, o, rfl⟩ := e
    rw [List.getElem?_map] at hx
    cases hni : ks[i]? with
    | none => rw [hni] at hx; cases hx
    | some n =>
      rw [hni] at hx
      cases hx
      have hnk := List.mem_of_getElem? hni
      have hn := hki n hnk
      have hn0 : n.toNat < ls.length := by omega
      obtain ⟨v, hv1, hv2⟩ := DAts.get (d := dLn ls[n.toNat]) hls (by rw [List.getElem?_map, List.getElem?_eq_getElem hn0]; rfl)
      have hlx := List.getElem?_eq_getElem hn0
      have hgl := hah _ _ hlx
      have hcl := hks.closed hah n hnk
      rw [nm_at hlx] at hcl
      generalize ls[n.toNat] = l' at hv2 hgl hcl hlx
      obtain ⟨b, u, rfl, hb, hu⟩ := lnAt hv2
      have hat : atI ws n = some (.ref b) := at_toNat hn.1 hv1
      simp only [tSeq, tFor_eq, tLC_eq, iRng1, iRng2, iList, iTup, iStr, tIfS, tRet, tRetN, tNext, tAsg, gName, tVar, tC, tOp, rI0, rI, tTest, tB, rEq, rNe, tCall, tCons, tNil, tCB, tLst, tTup, tAnd, tOr, tNot, tAndV, tOrV, tNotV, tIf, tDrop, tSl, tPart, tNoPart, tChain, tUn, rU, L2.start, cx_K, bk_K, cx_calm, bk_calm, lenV_str, and_assoc, Option.join, List.length_map, List.length_append, decide_eq_true_eq, Bool.false_eq_true, if_false, if_true, Bool.not_true, Bool.not_false, Bool.not_eq_true', decide_eq_false_iff_not, Bool.true_eq_false, List.length_cons, List.length_nil, List.map_cons, List.map_nil, List.replicate, List.cons_append, List.nil_append, List.append_nil, List.getElem?_cons_zero, List.getElem?_cons_succ, List.set_cons_zero, List.set_cons_succ, Nat.reduceSub, Nat.reduceAdd, Option.some.injEq, V.int.injEq, V.str.injEq, V.bl.injEq, V.ref.injEq, List.cons.injEq, and_true, true_and, exists_eq_left', exists_eq_left, exists_and_left, exists_eq_right, exists_const, tBM, tBM0, rAppend, rPop, rIxL, rIxT, rIxS, rSlL, rSlT, rSlS, rCat, rCatT, tKGet, cx_w, bk_w, tDGet, tDisp, tPairs, tDNewK, cx_P]
      refine ⟨_, SqL.of (es _ _ hla), _, hat, b, rfl, _, SqT.of (es _ _ hb), _, at0, _, SqL.of (es _ _ hla), _, hat, b, rfl, _, SqT.of (es _ _ hb), _, at1, _, SqL.of (es _ _ hla), _, hat, b, rfl, _, SqT.of (es _ _ hb), _, at2, ?_⟩
      refine ⟨u, d, l', ks, rfl, DAt.same es hu, hgl.1, es _ _ k4, hcl, fun v' H5 s5 hv' => ⟨small (by simp), fun p6 hp6 => hC _ _ _ ?_⟩⟩
      have s6 := same_new hp6 (.tup [.int l'.i, .int l'.j, v'])
      refine ⟨(es.trans s5).trans s6, ?_, _, rfl⟩
      rw [papT_succ hni hlx, List.map_append]
      refine DAts.append (DAts.same (s5.trans s6) hys) (DAts.one ?_)
      have er : dLn (rnw ks l') = dLn ⟨l'.i, l'.j, (rnw ks l').w, (rnw ks l').as⟩ := by
        unfold rnw
        split <;> rfl
      rw [er]
      exact atLn upd_same (DAt.same s6 hv')
  obtain ⟨es, hys, o, rfl⟩ := e
  have s5 := same_new hp5 (.lst ys)
  rw [List.length_map] at hys
  exact q _ _ (s1.trans (es.trans s5)) (.inr ⟨k, l, ks, hlk, hij, hno, hks, ⟨p5, _, rfl, upd_same, DAts.same s5 hys⟩⟩)
end
end C
set_option Elab.async false
set_option linter.all false
set_option maxRecDepth 100000
set_option maxHeartbeats 8000000
namespace C
open PySem L2
seal PE PT PW PA PS PSs PG PGs PI PPs PO PSet PIf
def spPc : Sp := fun vs H Q _ => ∃ (v : V) (x : Str) (as : List Wt), vs = [v] ∧ DAt H (dWhy x as) v ∧ GW x as ∧ ∀ p H', Same H H' → H p = none → H' p = some (.lst ((plc x as).map V.int)) → Q (.ref p) H'
def spDu : Sp := fun vs H Q _ => ∃ (la : Addr) (ws : List V) (ls : List Ln) (k : Nat), vs = [.ref la, .int k] ∧ H la = some (.lst ws) ∧ LnAts H ls ws ∧ Ahead ls ∧ k < ls.length ∧ ls.length ≤ 63 ∧ ∀ v ks H', Same H H' → Kept ls k ks → DAt H' (.lst ((papT ls ks ks.length).map dLn)) v → Q v H'
section
variable {P : Program} {w : World} {K : PySem.W.Frag} {mg : Str → Option Value} {base : Heap} {f : Addr} {fd : FuncData}
theorem ok_law_places (bi : Bi mg) (F : Fun K "_law_places" "_law_places" s_law_places f fd) : FnOk P w K mg base CX0 1 f fd ["why"] spPc := by
  refine F.ok sc_law_places (fun vs H Q E h => ?_) (fun cdv A outer s H vs Q E hr h => ?_)
  · obtain ⟨v, x, as, rfl, _⟩ := h
    rfl
  obtain ⟨v, x, as, rfl, hv, hg, q⟩ := h
  have at2 : ∀ {a b c : V}, atI [a, b, c] 2 = some c := atI_nat (j := 2) rfl
  obtain ⟨a, us, rfl, ha, hus⟩ := whyAt hv
  refine ⟨_, (pss_cons (ps_if (pt_cmpR op_eq (pe_ix ix_tup (pv 0) pe_int (fun _ _ => rfl)) pe_str (nomark _)) (pss_one (ps_ret (pe_callTy call_list_of rfl bi.list bt_list (pa_cons (pe_ix ix_tup (pv 0) pe_int (fun _ _ => rfl)) pa_nil)))) pss_nil) (pss_one (ps_ret (pe_callTy call_list_of rfl bi.list bt_list (pa_cons (pe_slice sl_tupG (pv 0) (po_some pe_int) po_none) pa_nil))))), ?_⟩
  refine seq_abs fun N hN => ?_
  simp only [tSeq, tFor_eq, tLC_eq, iRng1, iRng2, iList, iTup, iStr, tIfS, tRet, tRetN, tNext, tAsg, gName, tVar, tC, tOp, rI0, rI, tTest, tB, rEq, rNe, tCall, tCons, tNil, tCB, tLst, tTup, tAnd, tOr, tNot, tAndV, tOrV, tNotV, tIf, tDrop, tSl, tPart, tNoPart, tChain, tUn, rU, L2.start, cx_K, bk_K, cx_calm, bk_calm, lenV_str, and_assoc, Option.join, List.length_map, List.length_append, decide_eq_true_eq, Bool.false_eq_true, if_false, if_true, Bool.not_true, Bool.not_false, Bool.not_eq_true', decide_eq_false_iff_not, Bool.true_eq_false, List.length_cons, List.length_nil, List.map_cons, List.map_nil, List.replicate, List.cons_append, List.nil_append, List.append_nil, List.getElem?_cons_zero, List.getElem?_cons_succ, List.set_cons_zero, List.set_cons_succ, Nat.reduceSub, Nat.reduceAdd, Option.some.injEq, V.int.injEq, V.str.injEq, V.bl.injEq, V.ref.injEq, List.cons.injEq, and_true, true_and, exists_eq_left', exists_eq_left, exists_and_left, exists_eq_right, exists_const, tBM, tBM0, rAppend, rPop, rIxL, rIxT, rIxS, rSlL, rSlT, rSlS, rCat, rCatT, tKGet, cx_w, bk_w, tDGet, tDisp, tPairs, tDNewK, cx_P, rSlG]
  refine ⟨_, SqT.of ha, _, at0, rfl, ?_⟩
  rcases hg with ⟨hw, ns, rfl, _⟩ | ⟨rfl, r, ps, rfl, _⟩
  · rw [if_neg (fun e => hw (V.str.inj e))]
    refine hN _ _ ?_
    have e := nsAt hus
    subst e
    simp only [tSeq, tFor_eq, tLC_eq, iRng1, iRng2, iList, iTup, iStr, tIfS, tRet, tRetN, tNext, tAsg, gName, tVar, tC, tOp, rI0, rI, tTest, tB, rEq, rNe, tCall, tCons, tNil, tCB, tLst, tTup, tAnd, tOr, tNot, tAndV, tOrV, tNotV, tIf, tDrop, tSl, tPart, tNoPart, tChain, tUn, rU, L2.start, cx_K, bk_K, cx_calm, bk_calm, lenV_str, and_assoc, Option.join, List.length_map, List.length_append, decide_eq_true_eq, Bool.false_eq_true, if_false, if_true, Bool.not_true, Bool.not_false, Bool.not_eq_true', decide_eq_false_iff_not, Bool.true_eq_false, List.length_cons, List.length_nil, List.map_cons, List.map_nil, List.replicate, List.cons_append, List.nil_append, List.append_nil, List.getElem?_cons_zero, List.getElem?_cons_succ, List.set_cons_zero, List.set_cons_succ, Nat.reduceSub, Nat.reduceAdd, Option.some.injEq, V.int.injEq, V.str.injEq, V.bl.injEq, V.ref.injEq, List.cons.injEq, and_true, true_and, exists_eq_left', exists_eq_left, exists_and_left, exists_eq_right, exists_const, tBM, tBM0, rAppend, rPop, rIxL, rIxT, rIxS, rSlL, rSlT, rSlS, rCat, rCatT, tKGet, cx_w, bk_w, tDGet, tDisp, tPairs, tDNewK, cx_P, rSlG]
    refine ⟨_, ha, fun p H' s1 k1 => ?_⟩
    rw [cut_tail] at k1
    refine ⟨_, .inr (SqT.of k1), fun p2 hp2 => ?_⟩
    rw [plcN hw] at q
    exact q _ _ (s1.trans (same_new hp2 _)) (s1.free hp2) upd_same
  · rw [if_pos rfl]
    obtain ⟨v1, r1, e1, e2, v2, r2, e3, e4, e5⟩ := hus
    have e5 : r2 = [] := e5
    subst e5 e3 e1
    obtain ⟨b, rfl, hb⟩ := psAt e4
    refine ⟨_, SqT.of ha, _, at2, b, rfl, _, .inr (SqT.of hb), fun p2 hp2 => ?_⟩
    rw [plcR] at q
    exact q _ _ (same_new hp2 _) hp2 upd_same
theorem ok_law_due (bi : Bi mg) (h_law_places : Has P w K mg base 1 "_law_places" ["why"] spPc) (F : Fun K "_law_due" "_law_due" s_law_due f fd) : FnOk P w K mg base CX0 2 f fd ["lines", "last"] spDu := by
  refine F.ok sc_law_due (fun vs H Q E h => ?_) (fun cdv A outer s H vs Q E hr h => ?_)
  · obtain ⟨la, ws, ls, k, rfl, _⟩ := h
    rfl
  obtain ⟨la, ws, ls, k, rfl, hla, hls, hah, hk, h63, q⟩ := h
  have hwl := mapLen hls
  have at2 : ∀ {a b c : V}, atI [a, b, c] 2 = some c := atI_nat (j := 2) rfl
  refine ⟨_, (pss_cons (ps_set (i := 2) sc_law_due.nd rfl (Or.inl rfl) (pe_lst (pa_cons (pv 1) pa_nil))) (pss_cons (ps_for PassesOwn.never rfl (pi_down rfl bi.range (pa_cons (pv 1) (pa_cons (pe_un un_neg pe_int) (pa_cons (pe_un un_neg pe_int) pa_nil)))) (pg_name (i := 3) sc_law_due.nd rfl (Or.inl rfl)) (pss_one (ps_if (pt_cmpR (op_inG hr.units) (pv 3) (pv 2) (by with_unfolding_all rfl)) (pss_one (ps_for PassesOwn.never rfl (pi_list (pe_callH h_law_places (hr.mono (by omega)) rfl (pa_cons (pe_ix ix_tup (pe_ix ix_list (pv 0) (pv 3) (fun _ _ => rfl)) pe_int (fun _ _ => rfl)) pa_nil))) (pg_name (i := 4) sc_law_due.nd rfl (Or.inl rfl)) (pss_one (ps_if (pt_cmpR (op_notInG hr.units) (pv 4) (pv 2) (by with_unfolding_all rfl)) (pss_one (ps_expr (pe_bm PySem.F.plainAttrs_list PySem.F.slot_list_append PySem.F.type_list_append mt_append (pv 2) (pa_cons (pv 4) pa_nil)))) pss_nil)))) pss_nil))) (pss_cons (ps_set (i := 5) sc_law_due.nd rfl (Or.inr rfl) (pe_callB call_sortedLI rfl bi.sorted bt_sorted (pa_cons (pv 2) pa_nil))) (pss_cons (ps_set (i := 6) sc_law_due.nd rfl (Or.inl rfl) (pe_lst pa_nil)) (pss_cons (ps_for PassesOwn.never rfl (pi_list (pv 5)) (pg_name (i := 3) sc_law_due.nd rfl (Or.inl rfl)) (pss_cons (ps_set (i := 7) sc_law_due.nd rfl (Or.inl rfl) (pe_ix ix_tup (pe_ix ix_list (pv 0) (pv 3) (fun _ _ => rfl)) pe_int (fun _ _ => rfl))) (pss_cons (ps_set (i := 8) sc_law_due.nd rfl (Or.inl rfl) (pe_callTy call_tuple_of rfl bi.tuple bt_tuple (pa_cons (pe_comp ["p"] ["kept"] [5] (pi_list (pe_callH h_law_places (hr.mono (by omega)) rfl (pa_cons (pv 7) pa_nil))) (fun _ _ _ _ nd => pg_name (i := 0) nd rfl (Or.inl rfl)) (fun _ _ _ _ => pif_nil) (fun _ _ _ _ => (pe_bmK K PySem.F.plainAttrs_list PySem.F.slot_list_index PySem.F.type_list_index (mt_indexG hr.units) (pv 1) (pa_cons (pv 0) pa_nil)))) pa_nil))) (pss_one (ps_if (pt_cmpR op_eq (pe_ix ix_tup (pv 7) pe_int (fun _ _ => rfl)) pe_str (nomark _)) (pss_one (ps_expr (pe_bm PySem.F.plainAttrs_list PySem.F.slot_list_append PySem.F.type_list_append mt_append (pv 6) (pa_cons (pe_tup (pa_cons (pe_ix ix_tup (pe_ix ix_list (pv 0) (pv 3) (fun _ _ => rfl)) pe_int (fun _ _ => rfl)) (pa_cons (pe_ix ix_tup (pe_ix ix_list (pv 0) (pv 3) (fun _ _ => rfl)) pe_int (fun _ _ => rfl)) (pa_cons (pe_tup (pa_cons pe_str (pa_cons (pe_ix ix_tup (pv 7) pe_int (fun _ _ => rfl)) (pa_cons (pv 8) pa_nil)))) pa_nil)))) pa_nil)))) (pss_one (ps_expr (pe_bm PySem.F.plainAttrs_list PySem.F.slot_list_append PySem.F.type_list_append mt_append (pv 6) (pa_cons (pe_tup (pa_cons (pe_ix ix_tup (pe_ix ix_list (pv 0) (pv 3) (fun _ _ => rfl)) pe_int (fun _ _ => rfl)) (pa_cons (pe_ix ix_tup (pe_ix ix_list (pv 0) (pv 3) (fun _ _ => rfl)) pe_int (fun _ _ => rfl)) (pa_cons (pe_op op_catG (pe_tup (pa_cons (pe_ix ix_tup (pv 7) pe_int (fun _ _ => rfl)) pa_nil)) (pv 8)) pa_nil)))) pa_nil))))))))) (pss_one (ps_ret (pv 6)))))))), ?_⟩
  refine seq_abs fun N hN => ?_
  simp only [tSeq, tFor_eq, tLC_eq, iRng1, iRng2, iList, iTup, iStr, tIfS, tRet, tRetN, tNext, tAsg, gName, tVar, tC, tOp, rI0, rI, tTest, tB, rEq, rNe, tCall, tCons, tNil, tCB, tLst, tTup, tAnd, tOr, tNot, tAndV, tOrV, tNotV, tIf, tDrop, tSl, tPart, tNoPart, tChain, tUn, rU, L2.start, cx_K, bk_K, cx_calm, bk_calm, lenV_str, and_assoc, Option.join, List.length_map, List.length_append, decide_eq_true_eq, Bool.false_eq_true, if_false, if_true, Bool.not_true, Bool.not_false, Bool.not_eq_true', decide_eq_false_iff_not, Bool.true_eq_false, List.length_cons, List.length_nil, List.map_cons, List.map_nil, List.replicate, List.cons_append, List.nil_append, List.append_nil, List.getElem?_cons_zero, List.getElem?_cons_succ, List.set_cons_zero, List.set_cons_succ, Nat.reduceSub, Nat.reduceAdd, Option.some.injEq, V.int.injEq, V.str.injEq, V.bl.injEq, V.ref.injEq, List.cons.injEq, and_true, true_and, exists_eq_left', exists_eq_left, exists_and_left, exists_eq_right, exists_const, tBM, tBM0, rAppend, rPop, rIxL, rIxT, rIxS, rSlL, rSlT, rSlS, rCat, rCatT, tKGet, cx_w, bk_w, tDGet, tDisp, tPairs, tDNewK, cx_P]
  refine ⟨small (by simp), fun wd hwd => hN _ _ ?_⟩
  clear hN
  have s1 := same_new hwd (.lst [.int (k : Int)])
  have k1 : upd H wd (.lst [.int (k : Int)]) wd = some (.lst ((back (nmOf ls) k 0).map V.int)) := upd_same
  generalize upd H wd (.lst [.int (k : Int)]) = H1 at s1 k1 ⊢
  refine seq_join (fun σ H' => ∃ (o1 o2 : Option V), Same H H' ∧ H' wd = some (.lst ((hung ls k).map V.int)) ∧ σ = [some (V.ref la), some (V.int k), some (V.ref wd), o1, o2, none, none, none, none]) (fun N hN => ?_) (fun σ H' h => ?_)
  · simp only [tSeq, tFor_eq, tLC_eq, iRng1, iRng2, iList, iTup, iStr, tIfS, tRet, tRetN, tNext, tAsg, gName, tVar, tC, tOp, rI0, rI, tTest, tB, rEq, rNe, tCall, tCons, tNil, tCB, tLst, tTup, tAnd, tOr, tNot, tAndV, tOrV, tNotV, tIf, tDrop, tSl, tPart, tNoPart, tChain, tUn, rU, L2.start, cx_K, bk_K, cx_calm, bk_calm, lenV_str, and_assoc, Option.join, List.length_map, List.length_append, decide_eq_true_eq, Bool.false_eq_true, if_false, if_true, Bool.not_true, Bool.not_false, Bool.not_eq_true', decide_eq_false_iff_not, Bool.true_eq_false, List.length_cons, List.length_nil, List.map_cons, List.map_nil, List.replicate, List.cons_append, List.nil_append, List.append_nil, List.getElem?_cons_zero, List.getElem?_cons_succ, List.set_cons_zero, List.set_cons_succ, Nat.reduceSub, Nat.reduceAdd, Option.some.injEq, V.int.injEq, V.str.injEq, V.bl.injEq, V.ref.injEq, List.cons.injEq, and_true, true_and, exists_eq_left', exists_eq_left, exists_and_left, exists_eq_right, exists_const, tBM, tBM0, rAppend, rPop, rIxL, rIxT, rIxS, rSlL, rSlT, rSlS, rCat, rCatT, tKGet, cx_w, bk_w, tDGet, tDisp, tPairs, tDNewK, cx_P, iDown]
    refine ⟨k, rfl, by omega, ?_⟩
    refine fw_down (n := k + 1) (hi := (k : Int)) (fun i σ H' => ∃ (o1 o2 : Option V), Same H H' ∧ H' wd = some (.lst ((back (nmOf ls) k i).map V.int)) ∧ σ = [some (V.ref la), some (V.int k), some (V.ref wd), o1, o2, none, none, none, none]) ⟨_, _, s1, k1, rfl⟩ (fun i σ H' hi h => ?_) (fun σ H' h => ?_)
    · obtain ⟨o1, o2, s2, k2, rfl⟩ := h
      have hbl := back_len hah (i := i) (k := k) (by omega)
      simp only [tSeq, tFor_eq, tLC_eq, iRng1, iRng2, iList, iTup, iStr, tIfS, tRet, tRetN, tNext, tAsg, gName, tVar, tC, tOp, rI0, rI, tTest, tB, rEq, rNe, tCall, tCons, tNil, tCB, tLst, tTup, tAnd, tOr, tNot, tAndV, tOrV, tNotV, tIf, tDrop, tSl, tPart, tNoPart, tChain, tUn, rU, L2.start, cx_K, bk_K, cx_calm, bk_calm, lenV_str, and_assoc, Option.join, List.length_map, List.length_append, decide_eq_true_eq, Bool.false_eq_true, if_false, if_true, Bool.not_true, Bool.not_false, Bool.not_eq_true', decide_eq_false_iff_not, Bool.true_eq_false, List.length_cons, List.length_nil, List.map_cons, List.map_nil, List.replicate, List.cons_append, List.nil_append, List.append_nil, List.getElem?_cons_zero, List.getElem?_cons_succ, List.set_cons_zero, List.set_cons_succ, Nat.reduceSub, Nat.reduceAdd, Option.some.injEq, V.int.injEq, V.str.injEq, V.bl.injEq, V.ref.injEq, List.cons.injEq, and_true, true_and, exists_eq_left', exists_eq_left, exists_and_left, exists_eq_right, exists_const, tBM, tBM0, rAppend, rPop, rIxL, rIxT, rIxS, rSlL, rSlT, rSlS, rCat, rCatT, tKGet, cx_w, bk_w, tDGet, tDisp, tPairs, tDNewK, cx_P]
      refine ⟨1, .int ((k : Int) - i), (back (nmOf ls) k i).map .int, rfl, .inl ⟨wd, _, rfl, k2, intsAt _ _⟩, fitI _ _, by omega, _, rfl, ?_⟩
      rw [any_int]
      by_cases hin : ((k : Int) - i) ∈ back (nmOf ls) k i
      rotate_left
      · rw [if_neg (by simpa using hin)]
        refine ⟨s2, ?_, _, rfl⟩
        rw [back_neg hin]
        exact k2
      rw [if_pos (by simpa using hin)]
      have hn0 : ((k : Int) - i).toNat < ls.length := by omega
      obtain ⟨v, hv1, hv2⟩ := DAts.get (d := dLn ls[((k : Int) - i).toNat]) hls (by rw [List.getElem?_map, List.getElem?_eq_getElem hn0]; rfl)
      have hlx := List.getElem?_eq_getElem hn0
      have hgl := hah _ _ hlx
      have hnm := nm_at hlx
      generalize ls[((k : Int) - i).toNat] = l at hv2 hgl hnm
      obtain ⟨b, u, rfl, hb, hu⟩ := lnAt hv2
      refine ⟨_, SqL.of (s2 _ _ hla), _, at_toNat (by omega) hv1, b, rfl, _, SqT.of (s2 _ _ hb), _, at2, ?_⟩
      refine ⟨u, l.w, l.as, rfl, DAt.same s2 hu, hgl.1, fun pt H3 s3 fpt k3 => ?_⟩
      rw [← hnm] at k3
      have k23 := s3 _ _ k2
      have nn : pt ≠ wd := fun z => by rw [z, k2] at fpt; cases fpt
      refine ⟨pt, rfl, ⟨_, SqL.of k3⟩, ?_⟩
      rw [back_pos hin]
      have hps : ∀ p ∈ nmOf ls ((k : Int) - i), 0 ≤ p ∧ p ≤ (k : Int) := fun p hp => by
        have := nm_ahead hah _ (by omega) p hp
        omega
      refine fw_list (xs := (nmOf ls ((k : Int) - i)).map V.int) (fun m σ H' => ∃ (o : Option V), Same H H' ∧ H' pt = some (.lst ((nmOf ls ((k : Int) - i)).map V.int)) ∧ H' wd = some (.lst ((addAll (back (nmOf ls) k i) ((nmOf ls ((k : Int) - i)).take m)).map V.int)) ∧ σ = [some (V.ref la), some (V.int k), some (V.ref wd), some (V.int ((k : Int) - i)), o, none, none, none, none]) ⟨_, s2.trans s3, k3, k23, rfl⟩ (fun m σ H' _ h => ?_) (fun m x σ H' hx h => ?_) (fun σ H' h => ?_)
      · obtain ⟨o, _, h2, _⟩ := h
        exact SqL.of h2
      · obtain ⟨o, s4, k4, k5, rfl⟩ := h
        rw [List.getElem?_map] at hx
        cases hni : (nmOf ls ((k : Int) - i))[m]? with
        | none => rw [hni] at hx; cases hx
        | some p =>
          rw [hni] at hx
          cases hx
          have hal : (addAll (back (nmOf ls) k i) ((nmOf ls ((k : Int) - i)).take m)).length ≤ k + 1 := by
            refine in_len (nodup_addAll _ _ (back_nodup _ _ _)) fun z hz => ?_
            rcases (mem_addAll z _ _).mp hz with hz | hz
            · exact back_in (fun n h0 _ => nm_ahead hah n h0) i (by omega) z hz
            · exact hps z (List.mem_of_mem_take hz)
          obtain ⟨hm, e⟩ := List.getElem?_eq_some_iff.mp hni
          have es : addAll (back (nmOf ls) k i) ((nmOf ls ((k : Int) - i)).take (m + 1)) = if p ∈ addAll (back (nmOf ls) k i) ((nmOf ls ((k : Int) - i)).take m) then addAll (back (nmOf ls) k i) ((nmOf ls ((k : Int) - i)).take m) else addAll (back (nmOf ls) k i) ((nmOf ls ((k : Int) - i)).take m) ++ [p] := by
            rw [List.take_succ_eq_append_getElem hm, e, addAll_snoc]
          rw [es]
          clear es
          generalize addAll (back (nmOf ls) k i) ((nmOf ls ((k : Int) - i)).take m) = ks at hal k5 ⊢
          simp only [tSeq, tFor_eq, tLC_eq, iRng1, iRng2, iList, iTup, iStr, tIfS, tRet, tRetN, tNext, tAsg, gName, tVar, tC, tOp, rI0, rI, tTest, tB, rEq, rNe, tCall, tCons, tNil, tCB, tLst, tTup, tAnd, tOr, tNot, tAndV, tOrV, tNotV, tIf, tDrop, tSl, tPart, tNoPart, tChain, tUn, rU, L2.start, cx_K, bk_K, cx_calm, bk_calm, lenV_str, and_assoc, Option.join, List.length_map, List.length_append, decide_eq_true_eq, Bool.false_eq_true, if_false, if_true, Bool.not_true, Bool.not_false, Bool.not_eq_true', decide_eq_false_iff_not, Bool.true_eq_false, List.length_cons, List.length_nil, List.map_cons, List.map_nil, List.replicate, List.cons_append, List.nil_append, List.append_nil, List.getElem?_cons_zero, List.getElem?_cons_succ, List.set_cons_zero, List.set_cons_succ, Nat.reduceSub, Nat.reduceAdd, Option.some.injEq, V.int.injEq, V.str.injEq, V.bl.injEq, V.ref.injEq, List.cons.injEq, and_true, true_and, exists_eq_left', exists_eq_left, exists_and_left, exists_eq_right, exists_const, tBM, tBM0, rAppend, rPop, rIxL, rIxT, rIxS, rSlL, rSlT, rSlS, rCat, rCatT, tKGet, cx_w, bk_w, tDGet, tDisp, tPairs, tDNewK, cx_P]
          refine ⟨1, .int p, ks.map .int, rfl, .inl ⟨wd, _, rfl, k5, intsAt _ _⟩, fitI _ _, by omega, _, rfl, ?_⟩
          rw [any_int]
          by_cases hpk : p ∈ ks
          · rw [if_neg (by simp [hpk]), if_pos hpk]
            exact ⟨s4, k4, k5, _, rfl⟩
          · rw [if_pos (by simp [hpk]), if_neg hpk]
            refine ⟨.inl ⟨rfl, _, SqL.of k5⟩, _, k5, small1000 (by rw [List.length_map]; omega), s4.upd hwd, by rw [upd_ne nn]; exact k4, ?_, _, rfl⟩
            rw [upd_same, List.map_append]
            rfl
      · obtain ⟨o, s4, k4, k5, rfl⟩ := h
        rw [List.length_map, List.take_of_length_le (Nat.le_refl _)] at k5
        exact ⟨s4, k5, _, _, rfl⟩
    · obtain ⟨o1, o2, s2, k2, rfl⟩ := h
      exact hN _ _ ⟨_, _, s2, k2, rfl⟩
  obtain ⟨o1, o2, s2, k2, rfl⟩ := h
  clear k1 s1
  have hl := hung_len hah hk h63
  refine seq_abs fun N hN => ?_
  simp only [tSeq, tFor_eq, tLC_eq, iRng1, iRng2, iList, iTup, iStr, tIfS, tRet, tRetN, tNext, tAsg, gName, tVar, tC, tOp, rI0, rI, tTest, tB, rEq, rNe, tCall, tCons, tNil, tCB, tLst, tTup, tAnd, tOr, tNot, tAndV, tOrV, tNotV, tIf, tDrop, tSl, tPart, tNoPart, tChain, tUn, rU, L2.start, cx_K, bk_K, cx_calm, bk_calm, lenV_str, and_assoc, Option.join, List.length_map, List.length_append, decide_eq_true_eq, Bool.false_eq_true, if_false, if_true, Bool.not_true, Bool.not_false, Bool.not_eq_true', decide_eq_false_iff_not, Bool.true_eq_false, List.length_cons, List.length_nil, List.map_cons, List.map_nil, List.replicate, List.cons_append, List.nil_append, List.append_nil, List.getElem?_cons_zero, List.getElem?_cons_succ, List.set_cons_zero, List.set_cons_succ, Nat.reduceSub, Nat.reduceAdd, Option.some.injEq, V.int.injEq, V.str.injEq, V.bl.injEq, V.ref.injEq, List.cons.injEq, and_true, true_and, exists_eq_left', exists_eq_left, exists_and_left, exists_eq_right, exists_const, tBM, tBM0, rAppend, rPop, rIxL, rIxT, rIxS, rSlL, rSlT, rSlS, rCat, rCatT, tKGet, cx_w, bk_w, tDGet, tDisp, tPairs, tDNewK, cx_P]
  refine ⟨hung ls k, SqL.of k2, by omega, fun pk ks hpk hpm hrs => hN _ _ ?_⟩
  have hks : Kept ls k ks := ⟨hpm, hrs⟩
  have s3 := same_new hpk (.lst (ks.map V.int))
  have k3 : upd H' pk (.lst (ks.map V.int)) pk = some (.lst (ks.map V.int)) := upd_same
  generalize upd H' pk (.lst (ks.map V.int)) = H3 at s3 k3 ⊢
  replace s2 := s2.trans s3
  clear hN s3 hpm hrs k2
  have hkn := hks.nodup
  have hki := hks.inn hah
  have hkl := in_len hkn hki
  refine seq_abs fun N hN => ?_
  simp only [tSeq, tFor_eq, tLC_eq, iRng1, iRng2, iList, iTup, iStr, tIfS, tRet, tRetN, tNext, tAsg, gName, tVar, tC, tOp, rI0, rI, tTest, tB, rEq, rNe, tCall, tCons, tNil, tCB, tLst, tTup, tAnd, tOr, tNot, tAndV, tOrV, tNotV, tIf, tDrop, tSl, tPart, tNoPart, tChain, tUn, rU, L2.start, cx_K, bk_K, cx_calm, bk_calm, lenV_str, and_assoc, Option.join, List.length_map, List.length_append, decide_eq_true_eq, Bool.false_eq_true, if_false, if_true, Bool.not_true, Bool.not_false, Bool.not_eq_true', decide_eq_false_iff_not, Bool.true_eq_false, List.length_cons, List.length_nil, List.map_cons, List.map_nil, List.replicate, List.cons_append, List.nil_append, List.append_nil, List.getElem?_cons_zero, List.getElem?_cons_succ, List.set_cons_zero, List.set_cons_succ, Nat.reduceSub, Nat.reduceAdd, Option.some.injEq, V.int.injEq, V.str.injEq, V.bl.injEq, V.ref.injEq, List.cons.injEq, and_true, true_and, exists_eq_left', exists_eq_left, exists_and_left, exists_eq_right, exists_const, tBM, tBM0, rAppend, rPop, rIxL, rIxT, rIxS, rSlL, rSlT, rSlS, rCat, rCatT, tKGet, cx_w, bk_w, tDGet, tDisp, tPairs, tDNewK, cx_P]
  refine ⟨small (by simp), fun md hmd => hN _ _ ?_⟩
  clear hN
  have s4 := same_new hmd (.lst [])
  have k4 : upd H3 md (.lst []) md = some (.lst []) := upd_same
  have npk : pk ≠ md := ne_of_none k3 hmd
  have hmd0 : H md = none := s2.free hmd
  replace k3 := s4 _ _ k3
  replace s2 := s2.trans s4
  generalize upd H3 md (.lst []) = H4 at s2 k3 k4 ⊢
  clear s4 hmd
  refine seq_join (fun σ H' => ∃ (o1 o2 o3 o4 : Option V) (us : List V), Same H H' ∧ H' md = some (.lst us) ∧ DAts H' ((papT ls ks ks.length).map dLn) us ∧ σ = [some (V.ref la), some (V.int k), some (V.ref wd), o1, o2, some (V.ref pk), some (V.ref md), o3, o4]) (fun N hN => ?_) (fun σ H' h => ?_)
  · simp only [tSeq, tFor_eq, tLC_eq, iRng1, iRng2, iList, iTup, iStr, tIfS, tRet, tRetN, tNext, tAsg, gName, tVar, tC, tOp, rI0, rI, tTest, tB, rEq, rNe, tCall, tCons, tNil, tCB, tLst, tTup, tAnd, tOr, tNot, tAndV, tOrV, tNotV, tIf, tDrop, tSl, tPart, tNoPart, tChain, tUn, rU, L2.start, cx_K, bk_K, cx_calm, bk_calm, lenV_str, and_assoc, Option.join, List.length_map, List.length_append, decide_eq_true_eq, Bool.false_eq_true, if_false, if_true, Bool.not_true, Bool.not_false, Bool.not_eq_true', decide_eq_false_iff_not, Bool.true_eq_false, List.length_cons, List.length_nil, List.map_cons, List.map_nil, List.replicate, List.cons_append, List.nil_append, List.append_nil, List.getElem?_cons_zero, List.getElem?_cons_succ, List.set_cons_zero, List.set_cons_succ, Nat.reduceSub, Nat.reduceAdd, Option.some.injEq, V.int.injEq, V.str.injEq, V.bl.injEq, V.ref.injEq, List.cons.injEq, and_true, true_and, exists_eq_left', exists_eq_left, exists_and_left, exists_eq_right, exists_const, tBM, tBM0, rAppend, rPop, rIxL, rIxT, rIxS, rSlL, rSlT, rSlS, rCat, rCatT, tKGet, cx_w, bk_w, tDGet, tDisp, tPairs, tDNewK, cx_P]
    refine ⟨⟨_, SqL.of k3⟩, ?_⟩
    refine fw_list (xs := ks.map V.int) (fun i σ H' => ∃ (o1 o2 o3 o4 : Option V) (us : List V), Same H H' ∧ H' pk = some (.lst (ks.map V.int)) ∧ H' md = some (.lst us) ∧ DAts H' ((papT ls ks i).map dLn) us ∧ σ = [some (V.ref la), some (V.int k), some (V.ref wd), o1, o2, some (V.ref pk), some (V.ref md), o3, o4]) ⟨_, _, _, _, [], s2, k3, k4, rfl, rfl⟩ (fun i σ H' _ h => ?_) (fun i x σ H' hx h => ?_) (fun σ H' h => ?_)
    · obtain ⟨_, _, _, _, _, _, h2, _⟩ := h
      exact SqL.of h2
    · obtain ⟨o1, o2, o3, o4, us, s5, k5, k6, hus, rfl⟩ := h
      rw [List.getElem?_map] at hx
      cases hni : ks[i]? with
      | none => rw [hni] at hx; cases hx
      | some n =>
        rw [hni] at hx
        cases hx
        have hi := (List.getElem?_eq_some_iff.mp hni).1
        have hnk := List.mem_of_getElem? hni
        have hn := hki n hnk
        have hn0 : n.toNat < ls.length := by omega
        obtain ⟨v, hv1, hv2⟩ := DAts.get (d := dLn ls[n.toNat]) hls (by rw [List.getElem?_map, List.getElem?_eq_getElem hn0]; rfl)
        have hlx := List.getElem?_eq_getElem hn0
        have hgl := hah _ _ hlx
        have hcl := hks.closed hah n hnk
        rw [nm_at hlx] at hcl
        rw [papT_succ hni hlx, List.map_append]
        have hpl := papT_len ls ks i
        have husl := mapLen hus
        generalize ls[n.toNat] = l at hv2 hgl hcl
        obtain ⟨b, u, rfl, hb, hu⟩ := lnAt hv2
        have hat : atI ws n = some (.ref b) := at_toNat hn.1 hv1
        show tSeq _ _ _ _ _
        refine seq_abs fun N hN => ?_
        simp only [tSeq, tFor_eq, tLC_eq, iRng1, iRng2, iList, iTup, iStr, tIfS, tRet, tRetN, tNext, tAsg, gName, tVar, tC, tOp, rI0, rI, tTest, tB, rEq, rNe, tCall, tCons, tNil, tCB, tLst, tTup, tAnd, tOr, tNot, tAndV, tOrV, tNotV, tIf, tDrop, tSl, tPart, tNoPart, tChain, tUn, rU, L2.start, cx_K, bk_K, cx_calm, bk_calm, lenV_str, and_assoc, Option.join, List.length_map, List.length_append, decide_eq_true_eq, Bool.false_eq_true, if_false, if_true, Bool.not_true, Bool.not_false, Bool.not_eq_true', decide_eq_false_iff_not, Bool.true_eq_false, List.length_cons, List.length_nil, List.map_cons, List.map_nil, List.replicate, List.cons_append, List.nil_append, List.append_nil, List.getElem?_cons_zero, List.getElem?_cons_succ, List.set_cons_zero, List.set_cons_succ, Nat.reduceSub, Nat.reduceAdd, Option.some.injEq, V.int.injEq, V.str.injEq, V.bl.injEq, V.ref.injEq, List.cons.injEq, and_true, true_and, exists_eq_left', exists_eq_left, exists_and_left, exists_eq_right, exists_const, tBM, tBM0, rAppend, rPop, rIxL, rIxT, rIxS, rSlL, rSlT, rSlS, rCat, rCatT, tKGet, cx_w, bk_w, tDGet, tDisp, tPairs, tDNewK, cx_P]
        refine ⟨_, SqL.of (s5 _ _ hla), _, hat, b, rfl, _, SqT.of (s5 _ _ hb), _, at2, hN _ _ ?_⟩
        clear hN
        refine seq_abs fun N hN => ?_
        simp only [tSeq, tFor_eq, tLC_eq, iRng1, iRng2, iList, iTup, iStr, tIfS, tRet, tRetN, tNext, tAsg, gName, tVar, tC, tOp, rI0, rI, tTest, tB, rEq, rNe, tCall, tCons, tNil, tCB, tLst, tTup, tAnd, tOr, tNot, tAndV, tOrV, tNotV, tIf, tDrop, tSl, tPart, tNoPart, tChain, tUn, rU, L2.start, cx_K, bk_K, cx_calm, bk_calm, lenV_str, and_assoc, Option.join, List.length_map, List.length_append, decide_eq_true_eq, Bool.false_eq_true, if_false, if_true, Bool.not_true, Bool.not_false, Bool.not_eq_true', decide_eq_false_iff_not, Bool.true_eq_false, List.length_cons, List.length_nil, List.map_cons, List.map_nil, List.replicate, List.cons_append, List.nil_append, List.append_nil, List.getElem?_cons_zero, List.getElem?_cons_succ, List.set_cons_zero, List.set_cons_succ, Nat.reduceSub, Nat.reduceAdd, Option.some.injEq, V.int.injEq, V.str.injEq, V.bl.injEq, V.ref.injEq, List.cons.injEq, and_true, true_and, exists_eq_left', exists_eq_left, exists_and_left, exists_eq_right, exists_const, tBM, tBM0, rAppend, rPop, rIxL, rIxT, rIxS, rSlL, rSlT, rSlS, rCat, rCatT, tKGet, cx_w, bk_w, tDGet, tDisp, tPairs, tDNewK, cx_P, rIndexG]
        refine ⟨u, l.w, l.as, rfl, DAt.same s5 hu, hgl.1, fun pt H6 s6 _ k7 => ?_⟩
        replace s5 := s5.trans s6
        replace k5 := s6 _ _ k5
        replace k6 := s6 _ _ k6
        replace hus := DAts.same s6 hus
        clear s6
        have hpc : (plc l.w l.as).length ≤ 100 := by
          rcases hgl.1 with ⟨hw, ns, has, hn2⟩ | ⟨hw, r, ps, has, hp⟩
          · rw [has, plcN hw]; omega
          · rw [has, hw, plcR]; exact hp
        refine ⟨pt, rfl, ⟨_, SqL.of k7⟩, ?_⟩
        refine lc_list (xs := (plc l.w l.as).map V.int) (fun i ys σ H' => H' = H6 ∧ ys = (((plc l.w l.as).take i).map fun p => (plAt p ks : Int)).map V.int ∧ ∃ o, σ = [o, some (V.ref pk)]) ⟨rfl, rfl, _, rfl⟩ (small (by rw [List.length_map]; omega)) (fun i ys σ H' e => ?_) (fun i ys σ H' e => by rw [e.1]; exact SqL.of k7) (fun i x ys σ H' C hx e hC => ?_) (fun ys σ H' e p3 hp3 => ?_)
        · obtain ⟨_, rfl, _⟩ := e
          rw [List.length_map, List.length_map, List.length_take]
          omega
        · obtain ⟨rfl, rfl, o, rfl⟩ := e
          rw [List.getElem?_map] at hx
          cases hpi : (plc l.w l.as)[i]? with
          | none => rw [hpi] at hx; cases hx
          | some p =>
            rw [hpi] at hx
            cases hx
            have hpk := hcl p (List.mem_of_getElem? hpi)
            simp only [tSeq, tFor_eq, tLC_eq, iRng1, iRng2, iList, iTup, iStr, tIfS, tRet, tRetN, tNext, tAsg, gName, tVar, tC, tOp, rI0, rI, tTest, tB, rEq, rNe, tCall, tCons, tNil, tCB, tLst, tTup, tAnd, tOr, tNot, tAndV, tOrV, tNotV, tIf, tDrop, tSl, tPart, tNoPart, tChain, tUn, rU, L2.start, cx_K, bk_K, cx_calm, bk_calm, lenV_str, and_assoc, Option.join, List.length_map, List.length_append, decide_eq_true_eq, Bool.false_eq_true, if_false, if_true, Bool.not_true, Bool.not_false, Bool.not_eq_true', decide_eq_false_iff_not, Bool.true_eq_false, List.length_cons, List.length_nil, List.map_cons, List.map_nil, List.replicate, List.cons_append, List.nil_append, List.append_nil, List.getElem?_cons_zero, List.getElem?_cons_succ, List.set_cons_zero, List.set_cons_succ, Nat.reduceSub, Nat.reduceAdd, Option.some.injEq, V.int.injEq, V.str.injEq, V.bl.injEq, V.ref.injEq, List.cons.injEq, and_true, true_and, exists_eq_left', exists_eq_left, exists_and_left, exists_eq_right, exists_const, tBM, tBM0, rAppend, rPop, rIxL, rIxT, rIxS, rSlL, rSlT, rSlS, rCat, rCatT, tKGet, cx_w, bk_w, tDGet, tDisp, tPairs, tDNewK, cx_P, rIndexG]
            refine ⟨.inl ⟨rfl, _, SqL.of k5⟩, _, k5, ks.map .int, intsAt _ _, .int p, rfl, 1, fitI _ _, by omega, by rw [List.length_map]; omega, plAt p ks, ⟨.int p, by rw [List.getElem?_map, plAt_get hpk]; rfl, deq_refl _⟩, fun m d' hm hd => ?_, hC _ _ _ ⟨rfl, ?_, _, rfl⟩⟩
            · rw [List.getElem?_map] at hd
              cases hmi : ks[m]? with
              | none => rw [hmi] at hd; cases hd
              | some y =>
                rw [hmi] at hd
                cases hd
                rw [deq_int, decide_eq_false_iff_not]
                exact plAt_lt hm hmi
            · obtain ⟨hi, e⟩ := List.getElem?_eq_some_iff.mp hpi
              rw [List.take_succ_eq_append_getElem hi, e, List.map_append, List.map_append]
              rfl
        obtain ⟨rfl, rfl, o, rfl⟩ := e
        rw [List.length_map, List.take_of_length_le (Nat.le_refl _)]
        refine ⟨p3, rfl, _, .inl ⟨SqL.of upd_same, fun p4 hp4 => hN _ _ ?_⟩⟩
        clear hN
        have s7 := (same_new hp3 (.lst (((plc l.w l.as).map fun p => (plAt p ks : Int)).map V.int))).trans (same_new hp4 (.tup (((plc l.w l.as).map fun p => (plAt p ks : Int)).map V.int)))
        have k8 : upd (upd H' p3 (.lst (((plc l.w l.as).map fun p => (plAt p ks : Int)).map V.int))) p4 (.tup (((plc l.w l.as).map fun p => (plAt p ks : Int)).map V.int)) p4 = some (.tup (((plc l.w l.as).map fun p => (plAt p ks : Int)).map V.int)) := upd_same
        generalize upd (upd H' p3 (.lst (((plc l.w l.as).map fun p => (plAt p ks : Int)).map V.int))) p4 (.tup (((plc l.w l.as).map fun p => (plAt p ks : Int)).map V.int)) = H8 at s7 k8 ⊢
        replace s5 := s5.trans s7
        replace k5 := s7 _ _ k5
        replace k6 := s7 _ _ k6
        replace hus := DAts.same s7 hus
        clear s7 hp3 hp4 k7
        obtain ⟨c, cus, rfl, hc, hcus⟩ := whyAt hu
        replace hb := s5 _ _ hb
        replace hc := s5 _ _ hc
        replace hla := s5 _ _ hla
        have fin : ∀ (H9 : Hp) (vw : V), Same H8 H9 → DAt H9 (dWhy (rnw ks l).w (rnw ks l).as) vw → ∀ p9, H9 p9 = none →
            Same H (upd (upd H9 p9 (.tup [.int l.i, .int l.j, vw])) md (.lst (us ++ [.ref p9]))) ∧ upd (upd H9 p9 (.tup [.int l.i, .int l.j, vw])) md (.lst (us ++ [.ref p9])) pk = some (.lst (ks.map V.int)) ∧ DAts (upd (upd H9 p9 (.tup [.int l.i, .int l.j, vw])) md (.lst (us ++ [.ref p9]))) ((papT ls ks i).map dLn ++ [rnw ks l].map dLn) (us ++ [.ref p9]) := by
          intro H9 vw s9 dv p9 hp9
          have s10 := same_new hp9 (.tup [.int l.i, .int l.j, vw])
          have kmd := (s9.trans s10) _ _ k6
          have tu : TupSame (upd H9 p9 (.tup [.int l.i, .int l.j, vw])) (upd (upd H9 p9 (.tup [.int l.i, .int l.j, vw])) md (.lst (us ++ [.ref p9]))) := (TupSame.refl _).upd_lst kmd
          refine ⟨((s5.trans s9).trans s10).upd hmd0, by rw [upd_ne npk]; exact (s9.trans s10) _ _ k5, ?_⟩
          have er : dLn (rnw ks l) = dLn ⟨l.i, l.j, (rnw ks l).w, (rnw ks l).as⟩ := by
            unfold rnw
            split <;> rfl
          have h1 : LnAts (upd H9 p9 (.tup [.int l.i, .int l.j, vw])) (papT ls ks i ++ [rnw ks l]) (us ++ [.ref p9]) := by
            unfold LnAts
            rw [List.map_append]
            refine DAts.append (DAts.same (s9.trans s10) hus) (DAts.one ?_)
            rw [er]
            exact atLn upd_same (DAt.same s10 dv)
          have h2 := lns_tups tu h1
          unfold LnAts at h2
          rw [List.map_append] at h2
          exact h2
        simp only [tSeq, tFor_eq, tLC_eq, iRng1, iRng2, iList, iTup, iStr, tIfS, tRet, tRetN, tNext, tAsg, gName, tVar, tC, tOp, rI0, rI, tTest, tB, rEq, rNe, tCall, tCons, tNil, tCB, tLst, tTup, tAnd, tOr, tNot, tAndV, tOrV, tNotV, tIf, tDrop, tSl, tPart, tNoPart, tChain, tUn, rU, L2.start, cx_K, bk_K, cx_calm, bk_calm, lenV_str, and_assoc, Option.join, List.length_map, List.length_append, decide_eq_true_eq, Bool.false_eq_true, if_false, if_true, Bool.not_true, Bool.not_false, Bool.not_eq_true', decide_eq_false_iff_not, Bool.true_eq_false, List.length_cons, List.length_nil, List.map_cons, List.map_nil, List.replicate, List.cons_append, List.nil_append, List.append_nil, List.getElem?_cons_zero, List.getElem?_cons_succ, List.set_cons_zero, List.set_cons_succ, Nat.reduceSub, Nat.reduceAdd, Option.some.injEq, V.int.injEq, V.str.injEq, V.bl.injEq, V.ref.injEq, List.cons.injEq, and_true, true_and, exists_eq_left', exists_eq_left, exists_and_left, exists_eq_right, exists_const, tBM, tBM0, rAppend, rPop, rIxL, rIxT, rIxS, rSlL, rSlT, rSlS, rCat, rCatT, tKGet, cx_w, bk_w, tDGet, tDisp, tPairs, tDNewK, cx_P, rCatG]
        refine ⟨_, SqT.of hc, _, at0, rfl, ?_⟩
        have row : ∀ {H9 : Hp}, Same H8 H9 → True := fun _ => trivial
        rcases hgl.1 with ⟨hw, ns, has, hn2⟩ | ⟨hw, r, ps, has, hp100⟩
        · rw [if_neg (fun e => hw (V.str.inj e))]
          rw [has, plcN hw] at k8
          refine ⟨.inl ⟨rfl, _, SqL.of k6⟩, _, SqL.of hla, _, hat, b, rfl, _, SqT.of hb, _, at0, _, SqL.of hla, _, hat, b, rfl, _, SqT.of hb, _, at1, _, SqT.of hc, _, at0, small (by simp), fun p5 hp5 => ?_⟩
          have s9 := same_new hp5 (.tup [.str l.w])
          refine ⟨_, upd_same, _, s9 _ _ k8, small (by simp; omega), fun p6 H9 s10 k9 => ⟨small (by simp), fun p7 hp7 => ?_⟩⟩
          obtain ⟨f1, f2, f3⟩ := fin H9 (.ref p6) (s9.trans s10) (by rw [rnw_not hw has]; exact ⟨p6, _, rfl, k9, _, _, rfl, rfl, atNs _ _⟩) p7 hp7
          exact ⟨_, (s9.trans (s10.trans (same_new hp7 _))) _ _ k6, small1000 (by omega), f1, f2, _, _, _, _, _, upd_same, f3, rfl, rfl, rfl, rfl⟩
        · rw [if_pos (congrArg V.str hw)]
          rw [has] at hcus
          obtain ⟨v1, r1, e1, e2, v2, r2, e3, e4, e5⟩ := hcus
          have e5 : r2 = [] := e5
          have e2 : v1 = .int r := e2
          subst e5 e3 e1 e2
          rw [hw, has, plcR] at k8
          refine ⟨.inl ⟨rfl, _, SqL.of k6⟩, _, SqL.of hla, _, hat, b, rfl, _, SqT.of hb, _, at0, _, SqL.of hla, _, hat, b, rfl, _, SqT.of hb, _, at1, _, SqT.of hc, _, at1, small (by simp), fun p5 hp5 => ⟨small (by simp), fun p7 hp7 => ?_⟩⟩
          have s9 := same_new hp5 (.tup [.str "rule", .int r, .ref p4])
          obtain ⟨f1, f2, f3⟩ := fin _ (.ref p5) s9 (by rw [rnw_rule hw has]; exact ⟨p5, _, rfl, upd_same, _, _, rfl, rfl, _, _, rfl, rfl, _, _, rfl, atPs (s9 _ _ k8), rfl⟩) p7 hp7
          exact ⟨_, (s9.trans (same_new hp7 _)) _ _ k6, small1000 (by omega), f1, f2, _, _, _, _, _, upd_same, f3, rfl, rfl, rfl, rfl⟩
    · obtain ⟨o1, o2, o3, o4, us, s5, k5, k6, hus, rfl⟩ := h
      rw [List.length_map] at hus
      exact hN _ _ ⟨_, _, _, _, us, s5, k6, hus, rfl⟩
  obtain ⟨o1, o2, o3, o4, us, s5, k6, hus, rfl⟩ := h
  simp only [tSeq, tFor_eq, tLC_eq, iRng1, iRng2, iList, iTup, iStr, tIfS, tRet, tRetN, tNext, tAsg, gName, tVar, tC, tOp, rI0, rI, tTest, tB, rEq, rNe, tCall, tCons, tNil, tCB, tLst, tTup, tAnd, tOr, tNot, tAndV, tOrV, tNotV, tIf, tDrop, tSl, tPart, tNoPart, tChain, tUn, rU, L2.start, cx_K, bk_K, cx_calm, bk_calm, lenV_str, and_assoc, Option.join, List.length_map, List.length_append, decide_eq_true_eq, Bool.false_eq_true, if_false, if_true, Bool.not_true, Bool.not_false, Bool.not_eq_true', decide_eq_false_iff_not, Bool.true_eq_false, List.length_cons, List.length_nil, List.map_cons, List.map_nil, List.replicate, List.cons_append, List.nil_append, List.append_nil, List.getElem?_cons_zero, List.getElem?_cons_succ, List.set_cons_zero, List.set_cons_succ, Nat.reduceSub, Nat.reduceAdd, Option.some.injEq, V.int.injEq, V.str.injEq, V.bl.injEq, V.ref.injEq, List.cons.injEq, and_true, true_and, exists_eq_left', exists_eq_left, exists_and_left, exists_eq_right, exists_const, tBM, tBM0, rAppend, rPop, rIxL, rIxT, rIxS, rSlL, rSlT, rSlS, rCat, rCatT, tKGet, cx_w, bk_w, tDGet, tDisp, tPairs, tDNewK, cx_P]
  exact q _ ks _ s5 hks ⟨md, _, rfl, k6, hus⟩
end
end C
set_option Elab.async false
set_option linter.all false
set_option maxRecDepth 100000
set_option maxHeartbeats 8000000
namespace C
open PySem L2
seal PE PT PW PA PS PSs PG PGs PI PPs PO PSet PIf
abbrev s_law : Stmt := top 19
theorem sc_law : FnScope ["script", "made", "rows", "lines", "top", "draw", "pair", "at", "pairs", "due", "handed"] ["script"] (defScope s_law) := ⟨rfl, rfl, rfl, by decide +kernel, rfl, by decide +kernel, by decide +kernel⟩
abbrev s_law_alike : Stmt := top 11
theorem sc_law_alike : FnScope ["found", "due", "k"] ["found", "due"] (defScope s_law_alike) := ⟨rfl, rfl, rfl, by decide +kernel, rfl, by decide +kernel, by decide +kernel⟩
def spAlk : Nat → Sp
  | 0 => fun _ _ _ _ => False
  | n + 1 => fun vs H Q _ => ∃ (v v' : V) (d : Dt), vs = [v, v'] ∧ DAt H d v ∧ DAt H d v' ∧ DFit n d ∧ Q (.bl true) H
section
variable {P : Program} {w : World} {K : PySem.W.Frag} {mg : Str → Option Value} {base : Heap} {f : Addr} {fd : FuncData}
theorem ok_alike (bi : Bi mg) (F : Fun K "_law_alike" "_law_alike" s_law_alike f fd) (b : Binds K fd ["found", "due"] []) (m : mg "_law_alike" = some (.ref f)) : ∀ n, FnOk P w K mg base CX0 n f fd ["found", "due"] (spAlk n) := by
  refine rec_ok F b m (fun vs H Q E h => h) (fun n h_law_alike => ?_)
  refine F.ok sc_law_alike (fun vs H Q E h => ?_) (fun cdv A outer s H vs Q E hr h => ?_)
  · obtain ⟨v, v', d, rfl, _⟩ := h
    rfl
  obtain ⟨v, v', d, rfl, hv, hv', hd, q⟩ := h
  refine ⟨_, (pss_cons (ps_if (pt_val (pe_callB (call_isi (T := "bool")) rfl bi.isinstance bt_isinstance (pa_cons (pv 1) (pa_cons (pe_ty bi.bool bt_bool rfl) pa_nil)))) (pss_one (ps_ret (pe_and (pe_callB (call_isi (T := "bool")) rfl bi.isinstance bt_isinstance (pa_cons (pv 0) (pa_cons (pe_ty bi.bool bt_bool rfl) pa_nil))) (pe_one (pe_cmpR op_eq (pv 0) (pv 1) (nomark _)))))) pss_nil) (pss_cons (ps_if (pt_val (pe_callB (call_isi (T := "int")) rfl bi.isinstance bt_isinstance (pa_cons (pv 1) (pa_cons (pe_ty bi.int bt_int rfl) pa_nil)))) (pss_one (ps_ret (pe_and (pe_callB (call_isi (T := "int")) rfl bi.isinstance bt_isinstance (pa_cons (pv 0) (pa_cons (pe_ty bi.int bt_int rfl) pa_nil))) (pe_and (pe_not (pe_callB (call_isi (T := "bool")) rfl bi.isinstance bt_isinstance (pa_cons (pv 0) (pa_cons (pe_ty bi.bool bt_bool rfl) pa_nil)))) (pe_one (pe_cmpR op_eq (pv 0) (pv 1) (nomark _))))))) pss_nil) (pss_cons (ps_if (pt_val (pe_callB (call_isi (T := "str")) rfl bi.isinstance bt_isinstance (pa_cons (pv 1) (pa_cons (pe_ty bi.str bt_str rfl) pa_nil)))) (pss_one (ps_ret (pe_and (pe_callB (call_isi (T := "str")) rfl bi.isinstance bt_isinstance (pa_cons (pv 0) (pa_cons (pe_ty bi.str bt_str rfl) pa_nil))) (pe_one (pe_cmpR op_eq (pv 0) (pv 1) (nomark _)))))) pss_nil) (pss_cons (ps_if (pt_cmpR op_isN (pv 1) pe_non (nomark _)) (pss_one (ps_ret (pe_cmpR op_isN (pv 0) pe_non (nomark _)))) pss_nil) (pss_cons (ps_if (pt_val (pe_callB (call_isi (T := "tuple")) rfl bi.isinstance bt_isinstance (pa_cons (pv 1) (pa_cons (pe_ty bi.tuple bt_tuple rfl) pa_nil)))) (pss_one (ps_if (pt_not (pt_val (pe_callB (call_isi (T := "tuple")) rfl bi.isinstance bt_isinstance (pa_cons (pv 0) (pa_cons (pe_ty bi.tuple bt_tuple rfl) pa_nil))))) (pss_one (ps_ret pe_bl)) pss_nil)) (pss_one (ps_if (pt_not (pt_val (pe_callB (call_isi (T := "list")) rfl bi.isinstance bt_isinstance (pa_cons (pv 0) (pa_cons (pe_ty bi.list bt_list rfl) pa_nil))))) (pss_one (ps_ret pe_bl)) pss_nil))) (pss_cons (ps_if (pt_cmpR op_ne (pe_callB call_len rfl bi.len bt_len (pa_cons (pv 0) pa_nil)) (pe_callB call_len rfl bi.len bt_len (pa_cons (pv 1) pa_nil)) (nomark _)) (pss_one (ps_ret pe_bl)) pss_nil) (pss_cons (ps_for PassesOwn.never rfl (pi_range1 rfl bi.range (pa_cons (pe_callB call_len rfl bi.len bt_len (pa_cons (pv 1) pa_nil)) pa_nil)) (pg_name (i := 2) sc_law_alike.nd rfl (Or.inl rfl)) (pss_one (ps_if (pt_not (pt_val (pe_callH h_law_alike hr rfl (pa_cons (pe_ix ix_seq (pv 0) (pv 2) (fun _ _ => rfl)) (pa_cons (pe_ix ix_seq (pv 1) (pv 2) (fun _ _ => rfl)) pa_nil))))) (pss_one (ps_ret pe_bl)) pss_nil))) (pss_one (ps_ret pe_bl))))))))), ?_⟩
  cases d with
  | non =>
    have e : v = .non := hv
    have e' : v' = .non := hv'
    subst e; subst e'
    simp only [tSeq, tFor_eq, tLC_eq, iRng1, iRng2, iList, iTup, iStr, tIfS, tRet, tRetN, tNext, tAsg, gName, tVar, tC, tOp, rI0, rI, tTest, tB, rEq, rNe, tCall, tCons, tNil, tCB, tLst, tTup, tAnd, tOr, tNot, tAndV, tOrV, tNotV, tIf, tDrop, tSl, tPart, tNoPart, tChain, tUn, rU, L2.start, cx_K, bk_K, cx_calm, bk_calm, lenV_str, and_assoc, Option.join, List.length_map, List.length_append, decide_eq_true_eq, Bool.false_eq_true, if_false, if_true, Bool.not_true, Bool.not_false, Bool.not_eq_true', decide_eq_false_iff_not, Bool.true_eq_false, List.length_cons, List.length_nil, List.map_cons, List.map_nil, List.replicate, List.cons_append, List.nil_append, List.append_nil, List.getElem?_cons_zero, List.getElem?_cons_succ, List.set_cons_zero, List.set_cons_succ, Nat.reduceSub, Nat.reduceAdd, Option.some.injEq, V.int.injEq, V.str.injEq, V.bl.injEq, V.ref.injEq, List.cons.injEq, and_true, true_and, exists_eq_left', exists_eq_left, exists_and_left, exists_eq_right, exists_const]
    exact ⟨_, .non, false, kit_nb, iteF ⟨_, .non, false, kit_ni, iteF ⟨_, .non, false, kit_ns, iteF q⟩⟩⟩
  | bl x =>
    have e : v = .bl x := hv
    have e' : v' = .bl x := hv'
    subst e; subst e'
    simp only [tSeq, tFor_eq, tLC_eq, iRng1, iRng2, iList, iTup, iStr, tIfS, tRet, tRetN, tNext, tAsg, gName, tVar, tC, tOp, rI0, rI, tTest, tB, rEq, rNe, tCall, tCons, tNil, tCB, tLst, tTup, tAnd, tOr, tNot, tAndV, tOrV, tNotV, tIf, tDrop, tSl, tPart, tNoPart, tChain, tUn, rU, L2.start, cx_K, bk_K, cx_calm, bk_calm, lenV_str, and_assoc, Option.join, List.length_map, List.length_append, decide_eq_true_eq, Bool.false_eq_true, if_false, if_true, Bool.not_true, Bool.not_false, Bool.not_eq_true', decide_eq_false_iff_not, Bool.true_eq_false, List.length_cons, List.length_nil, List.map_cons, List.map_nil, List.replicate, List.cons_append, List.nil_append, List.append_nil, List.getElem?_cons_zero, List.getElem?_cons_succ, List.set_cons_zero, List.set_cons_succ, Nat.reduceSub, Nat.reduceAdd, Option.some.injEq, V.int.injEq, V.str.injEq, V.bl.injEq, V.ref.injEq, List.cons.injEq, and_true, true_and, exists_eq_left', exists_eq_left, exists_and_left, exists_eq_right, exists_const]
    exact ⟨_, .bl x, true, kit_same, iteT ⟨_, .bl x, true, kit_same, iteT ⟨rfl, q⟩⟩⟩
  | int x =>
    have e : v = .int x := hv
    have e' : v' = .int x := hv'
    subst e; subst e'
    simp only [tSeq, tFor_eq, tLC_eq, iRng1, iRng2, iList, iTup, iStr, tIfS, tRet, tRetN, tNext, tAsg, gName, tVar, tC, tOp, rI0, rI, tTest, tB, rEq, rNe, tCall, tCons, tNil, tCB, tLst, tTup, tAnd, tOr, tNot, tAndV, tOrV, tNotV, tIf, tDrop, tSl, tPart, tNoPart, tChain, tUn, rU, L2.start, cx_K, bk_K, cx_calm, bk_calm, lenV_str, and_assoc, Option.join, List.length_map, List.length_append, decide_eq_true_eq, Bool.false_eq_true, if_false, if_true, Bool.not_true, Bool.not_false, Bool.not_eq_true', decide_eq_false_iff_not, Bool.true_eq_false, List.length_cons, List.length_nil, List.map_cons, List.map_nil, List.replicate, List.cons_append, List.nil_append, List.append_nil, List.getElem?_cons_zero, List.getElem?_cons_succ, List.set_cons_zero, List.set_cons_succ, Nat.reduceSub, Nat.reduceAdd, Option.some.injEq, V.int.injEq, V.str.injEq, V.bl.injEq, V.ref.injEq, List.cons.injEq, and_true, true_and, exists_eq_left', exists_eq_left, exists_and_left, exists_eq_right, exists_const]
    exact ⟨_, .int x, false, kit_ib, iteF ⟨_, .int x, true, kit_same, iteT ⟨_, .int x, true, kit_same, iteT ⟨_, .int x, false, kit_ib, by rw [if_pos rfl]; exact ⟨rfl, q⟩⟩⟩⟩⟩
  | str x =>
    have e : v = .str x := hv
    have e' : v' = .str x := hv'
    subst e; subst e'
    simp only [tSeq, tFor_eq, tLC_eq, iRng1, iRng2, iList, iTup, iStr, tIfS, tRet, tRetN, tNext, tAsg, gName, tVar, tC, tOp, rI0, rI, tTest, tB, rEq, rNe, tCall, tCons, tNil, tCB, tLst, tTup, tAnd, tOr, tNot, tAndV, tOrV, tNotV, tIf, tDrop, tSl, tPart, tNoPart, tChain, tUn, rU, L2.start, cx_K, bk_K, cx_calm, bk_calm, lenV_str, and_assoc, Option.join, List.length_map, List.length_append, decide_eq_true_eq, Bool.false_eq_true, if_false, if_true, Bool.not_true, Bool.not_false, Bool.not_eq_true', decide_eq_false_iff_not, Bool.true_eq_false, List.length_cons, List.length_nil, List.map_cons, List.map_nil, List.replicate, List.cons_append, List.nil_append, List.append_nil, List.getElem?_cons_zero, List.getElem?_cons_succ, List.set_cons_zero, List.set_cons_succ, Nat.reduceSub, Nat.reduceAdd, Option.some.injEq, V.int.injEq, V.str.injEq, V.bl.injEq, V.ref.injEq, List.cons.injEq, and_true, true_and, exists_eq_left', exists_eq_left, exists_and_left, exists_eq_right, exists_const]
    exact ⟨_, .str x, false, kit_sb, iteF ⟨_, .str x, false, kit_si, iteF ⟨_, .str x, true, kit_same, iteT ⟨_, .str x, true, kit_same, iteT ⟨rfl, q⟩⟩⟩⟩⟩
  | tup ds =>
    obtain ⟨a, us, rfl, ha, hu⟩ := hv
    obtain ⟨a', us', rfl, ha', hu'⟩ := hv'
    cases n with
    | zero => exact hd.elim
    | succ n =>
      have l1 := hu.length
      have l2 := hu'.length
      have l3 : ds.length ≤ 1000 := hd.1
      simp only [tSeq, tFor_eq, tLC_eq, iRng1, iRng2, iList, iTup, iStr, tIfS, tRet, tRetN, tNext, tAsg, gName, tVar, tC, tOp, rI0, rI, tTest, tB, rEq, rNe, tCall, tCons, tNil, tCB, tLst, tTup, tAnd, tOr, tNot, tAndV, tOrV, tNotV, tIf, tDrop, tSl, tPart, tNoPart, tChain, tUn, rU, L2.start, cx_K, bk_K, cx_calm, bk_calm, lenV_str, and_assoc, Option.join, List.length_map, List.length_append, decide_eq_true_eq, Bool.false_eq_true, if_false, if_true, Bool.not_true, Bool.not_false, Bool.not_eq_true', decide_eq_false_iff_not, Bool.true_eq_false, List.length_cons, List.length_nil, List.map_cons, List.map_nil, List.replicate, List.cons_append, List.nil_append, List.append_nil, List.getElem?_cons_zero, List.getElem?_cons_succ, List.set_cons_zero, List.set_cons_succ, Nat.reduceSub, Nat.reduceAdd, Option.some.injEq, V.int.injEq, V.str.injEq, V.bl.injEq, V.ref.injEq, List.cons.injEq, and_true, true_and, exists_eq_left', exists_eq_left, exists_and_left, exists_eq_right, exists_const]
      refine ⟨_, .tup ha', false, kit_tb, iteF ⟨_, .tup ha', false, kit_ti, iteF ⟨_, .tup ha', false, kit_ts, iteF ?_⟩⟩⟩
      refine ⟨_, .tup ha', true, kit_same, iteT ⟨_, .tup ha, true, kit_same, ?_⟩⟩
      rw [if_neg (by decide)]
      refine ⟨_, .inr ⟨_, SqT.of ha, rfl⟩, _, .inr ⟨_, SqT.of ha', rfl⟩, rfl, ?_⟩
      rw [if_neg (by rw [l1, l2]; simp)]
      refine ⟨_, .inr ⟨_, SqT.of ha', rfl⟩, by omega, by omega, ?_⟩
      refine fw_range (n := (us'.length : Int).toNat) (fun i σ H' => H' = H ∧ ∃ o, σ = [some (V.ref a), some (V.ref a'), o]) ⟨rfl, _, rfl⟩ (fun i σ H' hi e => ?_) (fun σ H' e => ?_)
      · obtain ⟨rfl, o, rfl⟩ := e
        have hi' : i < ds.length := by omega
        obtain ⟨u, hu1, hu2⟩ := hu.get (List.getElem?_eq_getElem hi')
        obtain ⟨u', hu1', hu2'⟩ := hu'.get (List.getElem?_eq_getElem hi')
        simp only [tSeq, tFor_eq, tLC_eq, iRng1, iRng2, iList, iTup, iStr, tIfS, tRet, tRetN, tNext, tAsg, gName, tVar, tC, tOp, rI0, rI, tTest, tB, rEq, rNe, tCall, tCons, tNil, tCB, tLst, tTup, tAnd, tOr, tNot, tAndV, tOrV, tNotV, tIf, tDrop, tSl, tPart, tNoPart, tChain, tUn, rU, L2.start, cx_K, bk_K, cx_calm, bk_calm, lenV_str, and_assoc, Option.join, List.length_map, List.length_append, decide_eq_true_eq, Bool.false_eq_true, if_false, if_true, Bool.not_true, Bool.not_false, Bool.not_eq_true', decide_eq_false_iff_not, Bool.true_eq_false, List.length_cons, List.length_nil, List.map_cons, List.map_nil, List.replicate, List.cons_append, List.nil_append, List.append_nil, List.getElem?_cons_zero, List.getElem?_cons_succ, List.set_cons_zero, List.set_cons_succ, Nat.reduceSub, Nat.reduceAdd, Option.some.injEq, V.int.injEq, V.str.injEq, V.bl.injEq, V.ref.injEq, List.cons.injEq, and_true, true_and, exists_eq_left', exists_eq_left, exists_and_left, exists_eq_right, exists_const]
        refine .inr (.inl ⟨a, us, _, u, rfl, rfl, SqT.of ha, by rw [Int.zero_add]; exact atI_nat hu1, .inr (.inl ⟨a', us', _, u', rfl, rfl, SqT.of ha', by rw [Int.zero_add]; exact atI_nat hu1', ?_⟩)⟩)
        exact ⟨u, u', _, rfl, hu2, hu2', hd.2 _ (List.getElem_mem hi'), true, rfl, by rw [if_neg (by decide)]; exact ⟨rfl, _, rfl⟩⟩
      · obtain ⟨rfl, o, rfl⟩ := e
        simp only [tSeq, tFor_eq, tLC_eq, iRng1, iRng2, iList, iTup, iStr, tIfS, tRet, tRetN, tNext, tAsg, gName, tVar, tC, tOp, rI0, rI, tTest, tB, rEq, rNe, tCall, tCons, tNil, tCB, tLst, tTup, tAnd, tOr, tNot, tAndV, tOrV, tNotV, tIf, tDrop, tSl, tPart, tNoPart, tChain, tUn, rU, L2.start, cx_K, bk_K, cx_calm, bk_calm, lenV_str, and_assoc, Option.join, List.length_map, List.length_append, decide_eq_true_eq, Bool.false_eq_true, if_false, if_true, Bool.not_true, Bool.not_false, Bool.not_eq_true', decide_eq_false_iff_not, Bool.true_eq_false, List.length_cons, List.length_nil, List.map_cons, List.map_nil, List.replicate, List.cons_append, List.nil_append, List.append_nil, List.getElem?_cons_zero, List.getElem?_cons_succ, List.set_cons_zero, List.set_cons_succ, Nat.reduceSub, Nat.reduceAdd, Option.some.injEq, V.int.injEq, V.str.injEq, V.bl.injEq, V.ref.injEq, List.cons.injEq, and_true, true_and, exists_eq_left', exists_eq_left, exists_and_left, exists_eq_right, exists_const]
        exact q
  | lst ds =>
    obtain ⟨a, us, rfl, ha, hu⟩ := hv
    obtain ⟨a', us', rfl, ha', hu'⟩ := hv'
    cases n with
    | zero => exact hd.elim
    | succ n =>
      have l1 := hu.length
      have l2 := hu'.length
      have l3 : ds.length ≤ 1000 := hd.1
      simp only [tSeq, tFor_eq, tLC_eq, iRng1, iRng2, iList, iTup, iStr, tIfS, tRet, tRetN, tNext, tAsg, gName, tVar, tC, tOp, rI0, rI, tTest, tB, rEq, rNe, tCall, tCons, tNil, tCB, tLst, tTup, tAnd, tOr, tNot, tAndV, tOrV, tNotV, tIf, tDrop, tSl, tPart, tNoPart, tChain, tUn, rU, L2.start, cx_K, bk_K, cx_calm, bk_calm, lenV_str, and_assoc, Option.join, List.length_map, List.length_append, decide_eq_true_eq, Bool.false_eq_true, if_false, if_true, Bool.not_true, Bool.not_false, Bool.not_eq_true', decide_eq_false_iff_not, Bool.true_eq_false, List.length_cons, List.length_nil, List.map_cons, List.map_nil, List.replicate, List.cons_append, List.nil_append, List.append_nil, List.getElem?_cons_zero, List.getElem?_cons_succ, List.set_cons_zero, List.set_cons_succ, Nat.reduceSub, Nat.reduceAdd, Option.some.injEq, V.int.injEq, V.str.injEq, V.bl.injEq, V.ref.injEq, List.cons.injEq, and_true, true_and, exists_eq_left', exists_eq_left, exists_and_left, exists_eq_right, exists_const]
      refine ⟨_, .lst ha', false, kit_lb, iteF ⟨_, .lst ha', false, kit_li, iteF ⟨_, .lst ha', false, kit_ls, iteF ?_⟩⟩⟩
      refine ⟨_, .lst ha', false, kit_lt, iteF ⟨_, .lst ha, true, kit_same, ?_⟩⟩
      rw [if_neg (by decide)]
      refine ⟨_, .inl ⟨_, SqL.of ha, rfl⟩, _, .inl ⟨_, SqL.of ha', rfl⟩, rfl, ?_⟩
      rw [if_neg (by rw [l1, l2]; simp)]
      refine ⟨_, .inl ⟨_, SqL.of ha', rfl⟩, by omega, by omega, ?_⟩
      refine fw_range (n := (us'.length : Int).toNat) (fun i σ H' => H' = H ∧ ∃ o, σ = [some (V.ref a), some (V.ref a'), o]) ⟨rfl, _, rfl⟩ (fun i σ H' hi e => ?_) (fun σ H' e => ?_)
      · obtain ⟨rfl, o, rfl⟩ := e
        have hi' : i < ds.length := by omega
        obtain ⟨u, hu1, hu2⟩ := hu.get (List.getElem?_eq_getElem hi')
        obtain ⟨u', hu1', hu2'⟩ := hu'.get (List.getElem?_eq_getElem hi')
        simp only [tSeq, tFor_eq, tLC_eq, iRng1, iRng2, iList, iTup, iStr, tIfS, tRet, tRetN, tNext, tAsg, gName, tVar, tC, tOp, rI0, rI, tTest, tB, rEq, rNe, tCall, tCons, tNil, tCB, tLst, tTup, tAnd, tOr, tNot, tAndV, tOrV, tNotV, tIf, tDrop, tSl, tPart, tNoPart, tChain, tUn, rU, L2.start, cx_K, bk_K, cx_calm, bk_calm, lenV_str, and_assoc, Option.join, List.length_map, List.length_append, decide_eq_true_eq, Bool.false_eq_true, if_false, if_true, Bool.not_true, Bool.not_false, Bool.not_eq_true', decide_eq_false_iff_not, Bool.true_eq_false, List.length_cons, List.length_nil, List.map_cons, List.map_nil, List.replicate, List.cons_append, List.nil_append, List.append_nil, List.getElem?_cons_zero, List.getElem?_cons_succ, List.set_cons_zero, List.set_cons_succ, Nat.reduceSub, Nat.reduceAdd, Option.some.injEq, V.int.injEq, V.str.injEq, V.bl.injEq, V.ref.injEq, List.cons.injEq, and_true, true_and, exists_eq_left', exists_eq_left, exists_and_left, exists_eq_right, exists_const]
        refine .inl (⟨a, us, _, u, rfl, rfl, SqL.of ha, by rw [Int.zero_add]; exact atI_nat hu1, .inl (⟨a', us', _, u', rfl, rfl, SqL.of ha', by rw [Int.zero_add]; exact atI_nat hu1', ?_⟩)⟩)
        exact ⟨u, u', _, rfl, hu2, hu2', hd.2 _ (List.getElem_mem hi'), true, rfl, by rw [if_neg (by decide)]; exact ⟨rfl, _, rfl⟩⟩
      · obtain ⟨rfl, o, rfl⟩ := e
        simp only [tSeq, tFor_eq, tLC_eq, iRng1, iRng2, iList, iTup, iStr, tIfS, tRet, tRetN, tNext, tAsg, gName, tVar, tC, tOp, rI0, rI, tTest, tB, rEq, rNe, tCall, tCons, tNil, tCB, tLst, tTup, tAnd, tOr, tNot, tAndV, tOrV, tNotV, tIf, tDrop, tSl, tPart, tNoPart, tChain, tUn, rU, L2.start, cx_K, bk_K, cx_calm, bk_calm, lenV_str, and_assoc, Option.join, List.length_map, List.length_append, decide_eq_true_eq, Bool.false_eq_true, if_false, if_true, Bool.not_true, Bool.not_false, Bool.not_eq_true', decide_eq_false_iff_not, Bool.true_eq_false, List.length_cons, List.length_nil, List.map_cons, List.map_nil, List.replicate, List.cons_append, List.nil_append, List.append_nil, List.getElem?_cons_zero, List.getElem?_cons_succ, List.set_cons_zero, List.set_cons_succ, Nat.reduceSub, Nat.reduceAdd, Option.some.injEq, V.int.injEq, V.str.injEq, V.bl.injEq, V.ref.injEq, List.cons.injEq, and_true, true_and, exists_eq_left', exists_eq_left, exists_and_left, exists_eq_right, exists_const]
        exact q
end
def spLaw (K : PySem.W.Frag) : Sp := fun vs H Q _ => ∃ (a : Addr) (ns : List Int), vs = [.ref a] ∧ SqL K H a (ns.map V.int) ∧ ns.length ≤ 63 ∧ ∀ H', Q (.bl true) H'
theorem fit_ln (n : Nat) (l : Ln) (h : OW l.as) : DFit (n + 3) (dLn l) := by
  refine ⟨by simp, fun d hd => ?_⟩
  simp at hd
  rcases hd with rfl | rfl | rfl
  · trivial
  · trivial
  · have h1 := h.1
    refine ⟨by simp; omega, fun d hd => ?_⟩
    rcases List.mem_cons.mp hd with rfl | hd
    · trivial
    · obtain ⟨x, hx, rfl⟩ := List.mem_map.mp hd
      cases x with
      | n i => trivial
      | ps ps =>
        have := h.2 ps hx
        refine ⟨by rw [List.length_map]; omega, fun d hd => ?_⟩
        obtain ⟨i, _, rfl⟩ := List.mem_map.mp hd
        cases n <;> trivial
theorem PapAt.same {H H' : Hp} {ls : List Ln} {i j : Int} {r : V} (e : Same H H') (h : PapAt H ls i j r) : PapAt H' ls i j r := by
  rcases h with h | ⟨k, l, ks, h1, h2, h3, h4, h5⟩
  · exact .inl h
  · exact .inr ⟨k, l, ks, h1, h2, h3, h4, DAt.same e h5⟩
theorem PapAt.two {H : Hp} {ls : List Ln} {i j : Int} {r r' : V} (ha : Ahead ls) (h63 : ls.length ≤ 63) (h : PapAt H ls i j r) (h' : PapAt H ls i j r') : ∃ d, DAt H d r ∧ DAt H d r' ∧ DFit 39 d := by
  rcases h with ⟨rfl, hno⟩ | ⟨k, l, ks, h1, h2, h3, h4, h5⟩
  · rcases h' with ⟨rfl, _⟩ | ⟨k, l, ks, h1, h2, _⟩
    · exact ⟨.non, rfl, rfl, trivial⟩
    · exact absurd h2 (hno l (List.mem_of_getElem? h1))
  · rcases h' with ⟨rfl, hno⟩ | ⟨k', l', ks', g1, g2, g3, g4, g5⟩
    · exact absurd h2 (hno l (List.mem_of_getElem? h1))
    · have e : k = k' := by
        rcases Nat.lt_trichotomy k k' with z | z | z
        · exact absurd h2 (g3 k l z h1)
        · exact z
        · exact absurd g2 (h3 k' l' z g1)
      subst e
      have e := h4.one g4
      subst e
      have hk := (List.getElem?_eq_some_iff.mp h1).1
      have hkl := in_len h4.nodup (h4.inn ha)
      have hpl := papT_len ls ks ks.length
      refine ⟨_, h5, g5, by rw [List.length_map]; omega, fun d hd => ?_⟩
      obtain ⟨z, hz, rfl⟩ := List.mem_map.mp hd
      exact fit_ln 35 z (papT_ow ha z hz)
theorem p1012 : (0 : Int) < 10 ^ Int.toNat 12 := by show (0 : Int) < 10 ^ 12; simp
section
variable {P : Program} {w : World} {K : PySem.W.Frag} {mg : Str → Option Value} {base : Heap} {f : Addr} {fd : FuncData}
theorem ok_law (bi : Bi mg) (h_law_cell_at : Has P w K mg base 1 "_law_cell_at" ["script", "k"] (spCell K)) (h_law_sheet_and_rules : Has P w K mg base 2 "_law_sheet_and_rules" ["script", "most", "many"] (spSR K)) (h_law_derived : Has P w K mg base 3 "_law_derived" ["rows", "rules", "script"] (spDe K)) (h_law_due : Has P w K mg base 2 "_law_due" ["lines", "last"] spDu) (h_law_alike : Has P w K mg base 40 "_law_alike" ["found", "due"] (spAlk 40)) (h_paper : Has P w K mg base 3 "paper" ["lines", "i", "j"] spPa)
    (F : Fun K "law" "law" s_law f fd) : FnOk P w K mg base CX0 65 f fd ["script"] (spLaw K) := by
  refine F.ok sc_law (fun vs H Q E h => ?_) (fun cdv A outer s H vs Q E hr h => ?_)
  · obtain ⟨a, ns, rfl, _⟩ := h
    rfl
  obtain ⟨a, ns, rfl, hS, hl, q⟩ := h
  refine ⟨_, (pss_cons (ps_set (i := 1) sc_law.nd rfl (Or.inl rfl) (pe_callH h_law_sheet_and_rules (hr.mono (by omega)) rfl (pa_cons (pe_slice sl_list (pv 0) (po_some pe_int) po_none) (pa_cons pe_int (pa_cons pe_int pa_nil))))) (pss_cons (ps_set (i := 2) sc_law.nd rfl (Or.inl rfl) (pe_ix ix_tup (pv 1) pe_int (fun _ _ => rfl))) (pss_cons (ps_set (i := 3) sc_law.nd rfl (Or.inl rfl) (pe_callH h_law_derived (hr.mono (by omega)) rfl (pa_cons (pv 2) (pa_cons (pe_ix ix_tup (pv 1) pe_int (fun _ _ => rfl)) (pa_cons (pe_slice sl_list (pv 0) (po_some pe_int) po_none) pa_nil))))) (pss_cons (ps_set (i := 4) sc_law.nd rfl (Or.inl rfl) (pe_op op_mul pe_int (pe_callB call_len rfl bi.len bt_len (pa_cons (pv 2) pa_nil)))) (pss_cons (ps_set (i := 5) sc_law.nd rfl (Or.inl rfl) (pe_op op_mod (pe_callH h_law_cell_at (hr.mono (by omega)) rfl (pa_cons (pv 0) (pa_cons pe_int pa_nil))) (pe_op op_pow pe_int pe_int))) (pss_cons (ps_set (i := 6) sc_law.nd rfl (Or.inl rfl) (pe_tup (pa_cons (pe_op op_mod (pv 5) (pv 4)) (pa_cons (pe_op op_mod (pe_op op_fdiv (pv 5) (pv 4)) (pv 4)) pa_nil)))) (pss_cons (ps_if (PW.pt (pw_and (pt_cmpR op_gt (pe_callB call_len rfl bi.len bt_len (pa_cons (pv 3) pa_nil)) pe_int (nomark _)) (pw_and1 (pt_cmpR op_gt (pe_op op_mod (pe_callH h_law_cell_at (hr.mono (by omega)) rfl (pa_cons (pv 0) (pa_cons pe_int pa_nil))) pe_int) pe_int (nomark _))))) (pss_cons (ps_set (i := 7) sc_law.nd rfl (Or.inl rfl) (pe_op op_sub (pe_op op_sub (pe_callB call_len rfl bi.len bt_len (pa_cons (pv 3) pa_nil)) pe_int) (pe_op op_mod (pv 5) (pe_callB call_len rfl bi.len bt_len (pa_cons (pv 3) pa_nil))))) (pss_one (ps_set (i := 6) sc_law.nd rfl (Or.inl rfl) (pe_tup (pa_cons (pe_ix ix_tup (pe_ix ix_list (pv 3) (pv 7) (fun _ _ => rfl)) pe_int (fun _ _ => rfl)) (pa_cons (pe_ix ix_tup (pe_ix ix_list (pv 3) (pv 7) (fun _ _ => rfl)) pe_int (fun _ _ => rfl)) pa_nil)))))) pss_nil) (pss_cons (ps_comp (i := 8) ["line"] [] [] sc_law.nd rfl (pi_list (pv 3)) (fun _ _ _ _ nd => pg_name (i := 0) nd rfl (Or.inl rfl)) (fun _ _ _ _ => pif_nil) (fun _ _ _ _ => (pe_tup (pa_cons (pe_ix (ix_tupK K) (pv 0) pe_int (fun _ _ => rfl)) (pa_cons (pe_ix (ix_tupK K) (pv 0) pe_int (fun _ _ => rfl)) pa_nil))))) (pss_cons (ps_set (i := 9) sc_law.nd rfl (Or.inl rfl) pe_non) (pss_cons (ps_if (pt_cmpR (op_inG hr.units) (pv 6) (pv 8) (by with_unfolding_all rfl)) (pss_one (ps_set (i := 9) sc_law.nd rfl (Or.inl rfl) (pe_callH h_law_due (hr.mono (by omega)) rfl (pa_cons (pv 3) (pa_cons (pe_bm PySem.F.plainAttrs_list PySem.F.slot_list_index PySem.F.type_list_index (mt_indexG hr.units) (pv 8) (pa_cons (pv 6) pa_nil)) pa_nil))))) pss_nil) (pss_cons (ps_set (i := 10) sc_law.nd rfl (Or.inl rfl) (pe_callTy call_list_of rfl bi.list bt_list (pa_cons (pv 3) pa_nil))) (pss_one (ps_ret (pe_and (pe_callH h_law_alike (hr.mono (by omega)) rfl (pa_cons (pe_callH h_paper (hr.mono (by omega)) rfl (pa_cons (pv 10) (pa_cons (pe_ix ix_tup (pv 6) pe_int (fun _ _ => rfl)) (pa_cons (pe_ix ix_tup (pv 6) pe_int (fun _ _ => rfl)) pa_nil)))) (pa_cons (pv 9) pa_nil))) (pe_one (pe_cmpR (op_eqG hr.units) (pv 10) (pv 3) (nomark _))))))))))))))))), ?_⟩
  have hcl := cutI_len ns (some 3) none
  refine seq_abs fun N hN => ?_
  simp only [tSeq, tFor_eq, tLC_eq, iRng1, iRng2, iList, iTup, iStr, tIfS, tRet, tRetN, tNext, tAsg, gName, tVar, tC, tOp, rI0, rI, tTest, tB, rEq, rNe, tCall, tCons, tNil, tCB, tLst, tTup, tAnd, tOr, tNot, tAndV, tOrV, tNotV, tIf, tDrop, tSl, tPart, tNoPart, tChain, tUn, rU, L2.start, cx_K, bk_K, cx_calm, bk_calm, lenV_str, and_assoc, Option.join, List.length_map, List.length_append, decide_eq_true_eq, Bool.false_eq_true, if_false, if_true, Bool.not_true, Bool.not_false, Bool.not_eq_true', decide_eq_false_iff_not, Bool.true_eq_false, List.length_cons, List.length_nil, List.map_cons, List.map_nil, List.replicate, List.cons_append, List.nil_append, List.append_nil, List.getElem?_cons_zero, List.getElem?_cons_succ, List.set_cons_zero, List.set_cons_succ, Nat.reduceSub, Nat.reduceAdd, Option.some.injEq, V.int.injEq, V.str.injEq, V.bl.injEq, V.ref.injEq, List.cons.injEq, and_true, true_and, exists_eq_left', exists_eq_left, exists_and_left, exists_eq_right, exists_const, tBM, tBM0, rAppend, rPop, rIxL, rIxT, rIxS, rSlL, rSlT, rSlS, rCat, rCatT, tKGet, cx_w, bk_w, tDGet, tDisp, tPairs, tDNewK, cx_P]
  refine ⟨_, hS, fun p0 hp0 => ?_⟩
  rw [cut_ints]
  have g0 := same_new hp0 (.lst ((cutI ns (some 3) none).map V.int))
  have k0 : upd H p0 (.lst ((cutI ns (some 3) none).map V.int)) p0 = some (.lst ((cutI ns (some 3) none).map V.int)) := upd_same
  generalize upd H p0 (.lst ((cutI ns (some 3) none).map V.int)) = H1 at g0 k0 ⊢
  refine ⟨p0, _, _, _, rfl, SqL.of k0, by omega, fun mp ra ru us ws rows rules H2 s2 kmp hra hrw hru hrl r1 r100 u100 p100 => hN _ _ ?_⟩
  have hS := Same.seq (g0.trans s2) hS
  have hul := mapLen hrw
  clear k0 g0 s2 hN
  refine seq_abs fun N hN => ?_
  simp only [tSeq, tFor_eq, tLC_eq, iRng1, iRng2, iList, iTup, iStr, tIfS, tRet, tRetN, tNext, tAsg, gName, tVar, tC, tOp, rI0, rI, tTest, tB, rEq, rNe, tCall, tCons, tNil, tCB, tLst, tTup, tAnd, tOr, tNot, tAndV, tOrV, tNotV, tIf, tDrop, tSl, tPart, tNoPart, tChain, tUn, rU, L2.start, cx_K, bk_K, cx_calm, bk_calm, lenV_str, and_assoc, Option.join, List.length_map, List.length_append, decide_eq_true_eq, Bool.false_eq_true, if_false, if_true, Bool.not_true, Bool.not_false, Bool.not_eq_true', decide_eq_false_iff_not, Bool.true_eq_false, List.length_cons, List.length_nil, List.map_cons, List.map_nil, List.replicate, List.cons_append, List.nil_append, List.append_nil, List.getElem?_cons_zero, List.getElem?_cons_succ, List.set_cons_zero, List.set_cons_succ, Nat.reduceSub, Nat.reduceAdd, Option.some.injEq, V.int.injEq, V.str.injEq, V.bl.injEq, V.ref.injEq, List.cons.injEq, and_true, true_and, exists_eq_left', exists_eq_left, exists_and_left, exists_eq_right, exists_const, tBM, tBM0, rAppend, rPop, rIxL, rIxT, rIxS, rSlL, rSlT, rSlS, rCat, rCatT, tKGet, cx_w, bk_w, tDGet, tDisp, tPairs, tDNewK, cx_P]
  refine ⟨_, SqT.of kmp, _, at0, hN _ _ ?_⟩
  refine seq_abs fun N hN => ?_
  simp only [tSeq, tFor_eq, tLC_eq, iRng1, iRng2, iList, iTup, iStr, tIfS, tRet, tRetN, tNext, tAsg, gName, tVar, tC, tOp, rI0, rI, tTest, tB, rEq, rNe, tCall, tCons, tNil, tCB, tLst, tTup, tAnd, tOr, tNot, tAndV, tOrV, tNotV, tIf, tDrop, tSl, tPart, tNoPart, tChain, tUn, rU, L2.start, cx_K, bk_K, cx_calm, bk_calm, lenV_str, and_assoc, Option.join, List.length_map, List.length_append, decide_eq_true_eq, Bool.false_eq_true, if_false, if_true, Bool.not_true, Bool.not_false, Bool.not_eq_true', decide_eq_false_iff_not, Bool.true_eq_false, List.length_cons, List.length_nil, List.map_cons, List.map_nil, List.replicate, List.cons_append, List.nil_append, List.append_nil, List.getElem?_cons_zero, List.getElem?_cons_succ, List.set_cons_zero, List.set_cons_succ, Nat.reduceSub, Nat.reduceAdd, Option.some.injEq, V.int.injEq, V.str.injEq, V.bl.injEq, V.ref.injEq, List.cons.injEq, and_true, true_and, exists_eq_left', exists_eq_left, exists_and_left, exists_eq_right, exists_const, tBM, tBM0, rAppend, rPop, rIxL, rIxT, rIxS, rSlL, rSlT, rSlS, rCat, rCatT, tKGet, cx_w, bk_w, tDGet, tDisp, tPairs, tDNewK, cx_P]
  refine ⟨_, SqT.of kmp, _, at1, _, hS, fun p1 hp1 => ?_⟩
  rw [cut_ints]
  have g1 := same_new hp1 (.lst ((cutI ns (some 3) none).map V.int))
  have k1 : upd H2 p1 (.lst ((cutI ns (some 3) none).map V.int)) p1 = some (.lst ((cutI ns (some 3) none).map V.int)) := upd_same
  generalize upd H2 p1 (.lst ((cutI ns (some 3) none).map V.int)) = H3 at g1 k1 ⊢
  refine ⟨ra, ru, p1, us, ws, _, rows, rules, rfl, g1 _ _ hra, DAts.same g1 hrw, r1, r100, g1 _ _ hru, DAts.same g1 hrl, u100, p100, SqL.of k1, by omega, fun la lus ls H4 s4 nla kla hln l63 hah => hN _ _ ?_⟩
  have hah : Ahead ls := hah
  replace s4 := g1.trans s4
  have hS := Same.seq s4 hS
  replace hra := s4 _ _ hra
  clear g1 k1 s4 hN nla kmp hru hrl hrw
  have hll := mapLen hln
  refine seq_abs fun N hN => ?_
  simp only [tSeq, tFor_eq, tLC_eq, iRng1, iRng2, iList, iTup, iStr, tIfS, tRet, tRetN, tNext, tAsg, gName, tVar, tC, tOp, rI0, rI, tTest, tB, rEq, rNe, tCall, tCons, tNil, tCB, tLst, tTup, tAnd, tOr, tNot, tAndV, tOrV, tNotV, tIf, tDrop, tSl, tPart, tNoPart, tChain, tUn, rU, L2.start, cx_K, bk_K, cx_calm, bk_calm, lenV_str, and_assoc, Option.join, List.length_map, List.length_append, decide_eq_true_eq, Bool.false_eq_true, if_false, if_true, Bool.not_true, Bool.not_false, Bool.not_eq_true', decide_eq_false_iff_not, Bool.true_eq_false, List.length_cons, List.length_nil, List.map_cons, List.map_nil, List.replicate, List.cons_append, List.nil_append, List.append_nil, List.getElem?_cons_zero, List.getElem?_cons_succ, List.set_cons_zero, List.set_cons_succ, Nat.reduceSub, Nat.reduceAdd, Option.some.injEq, V.int.injEq, V.str.injEq, V.bl.injEq, V.ref.injEq, List.cons.injEq, and_true, true_and, exists_eq_left', exists_eq_left, exists_and_left, exists_eq_right, exists_const, tBM, tBM0, rAppend, rPop, rIxL, rIxT, rIxS, rSlL, rSlT, rSlS, rCat, rCatT, tKGet, cx_w, bk_w, tDGet, tDisp, tPairs, tDNewK, cx_P]
  refine ⟨us.length, .inl ⟨_, SqL.of hra, rfl⟩, .inl ⟨by decide, by decide⟩, hN _ _ ?_⟩
  have htop : (0 : Int) < 2 * (us.length : Int) := by omega
  have htop2 : 2 * (us.length : Int) < 1073741824 := by omega
  generalize 2 * (us.length : Int) = top at htop htop2
  refine seq_abs fun N hN => ?_
  simp only [tSeq, tFor_eq, tLC_eq, iRng1, iRng2, iList, iTup, iStr, tIfS, tRet, tRetN, tNext, tAsg, gName, tVar, tC, tOp, rI0, rI, tTest, tB, rEq, rNe, tCall, tCons, tNil, tCB, tLst, tTup, tAnd, tOr, tNot, tAndV, tOrV, tNotV, tIf, tDrop, tSl, tPart, tNoPart, tChain, tUn, rU, L2.start, cx_K, bk_K, cx_calm, bk_calm, lenV_str, and_assoc, Option.join, List.length_map, List.length_append, decide_eq_true_eq, Bool.false_eq_true, if_false, if_true, Bool.not_true, Bool.not_false, Bool.not_eq_true', decide_eq_false_iff_not, Bool.true_eq_false, List.length_cons, List.length_nil, List.map_cons, List.map_nil, List.replicate, List.cons_append, List.nil_append, List.append_nil, List.getElem?_cons_zero, List.getElem?_cons_succ, List.set_cons_zero, List.set_cons_succ, Nat.reduceSub, Nat.reduceAdd, Option.some.injEq, V.int.injEq, V.str.injEq, V.bl.injEq, V.ref.injEq, List.cons.injEq, and_true, true_and, exists_eq_left', exists_eq_left, exists_and_left, exists_eq_right, exists_const, tBM, tBM0, rAppend, rPop, rIxL, rIxT, rIxS, rSlL, rSlT, rSlS, rCat, rCatT, tKGet, cx_w, bk_w, tDGet, tDisp, tPairs, tDNewK, cx_P]
  refine ⟨a, ns, 1, rfl, hS, ⟨by decide, by decide, by decide⟩, _, rfl, p1012, hN _ _ ?_⟩
  generalize ns.getD 1 0 % 10 ^ Int.toNat 12 = draw
  refine seq_abs fun N hN => ?_
  simp only [tSeq, tFor_eq, tLC_eq, iRng1, iRng2, iList, iTup, iStr, tIfS, tRet, tRetN, tNext, tAsg, gName, tVar, tC, tOp, rI0, rI, tTest, tB, rEq, rNe, tCall, tCons, tNil, tCB, tLst, tTup, tAnd, tOr, tNot, tAndV, tOrV, tNotV, tIf, tDrop, tSl, tPart, tNoPart, tChain, tUn, rU, L2.start, cx_K, bk_K, cx_calm, bk_calm, lenV_str, and_assoc, Option.join, List.length_map, List.length_append, decide_eq_true_eq, Bool.false_eq_true, if_false, if_true, Bool.not_true, Bool.not_false, Bool.not_eq_true', decide_eq_false_iff_not, Bool.true_eq_false, List.length_cons, List.length_nil, List.map_cons, List.map_nil, List.replicate, List.cons_append, List.nil_append, List.append_nil, List.getElem?_cons_zero, List.getElem?_cons_succ, List.set_cons_zero, List.set_cons_succ, Nat.reduceSub, Nat.reduceAdd, Option.some.injEq, V.int.injEq, V.str.injEq, V.bl.injEq, V.ref.injEq, List.cons.injEq, and_true, true_and, exists_eq_left', exists_eq_left, exists_and_left, exists_eq_right, exists_const, tBM, tBM0, rAppend, rPop, rIxL, rIxT, rIxS, rSlL, rSlT, rSlS, rCat, rCatT, tKGet, cx_w, bk_w, tDGet, tDisp, tPairs, tDNewK, cx_P]
  refine ⟨htop, ⟨htop, htop2⟩, htop, small (by simp), fun pp hpp => hN _ _ ?_⟩
  generalize draw % top = i0
  generalize draw / top % top = j0
  have s5 := same_new hpp (.tup [.int i0, .int j0])
  have k5 : DAt (upd H4 pp (.tup [.int i0, .int j0])) (dPr (i0, j0)) (.ref pp) := ⟨pp, _, rfl, upd_same, _, _, rfl, rfl, _, _, rfl, rfl, rfl⟩
  generalize upd H4 pp (.tup [.int i0, .int j0]) = H5 at s5 k5 ⊢
  clear hN hpp
  replace hS := Same.seq s5 hS
  replace kla := s5 _ _ kla
  replace hln := DAts.same s5 hln
  clear s5 hra
  refine seq_join (fun σ H' => ∃ (pv : V) (pr : Pr) (o : Option V), Same H5 H' ∧ DAt H' (dPr pr) pv ∧ σ = [some (V.ref a), some (V.ref mp), some (V.ref ra), some (V.ref la), some (V.int top), some (V.int draw), some pv, o, none, none, none]) (fun N hN => ?_) (fun σ H6 h => ?_)
  · have no : N [some (V.ref a), some (V.ref mp), some (V.ref ra), some (V.ref la), some (V.int top), some (V.int draw), some (V.ref pp), none, none, none, none] H5 := hN _ _ ⟨_, (i0, j0), _, Same.refl _, k5, rfl⟩
    simp only [tSeq, tFor_eq, tLC_eq, iRng1, iRng2, iList, iTup, iStr, tIfS, tRet, tRetN, tNext, tAsg, gName, tVar, tC, tOp, rI0, rI, tTest, tB, rEq, rNe, tCall, tCons, tNil, tCB, tLst, tTup, tAnd, tOr, tNot, tAndV, tOrV, tNotV, tIf, tDrop, tSl, tPart, tNoPart, tChain, tUn, rU, L2.start, cx_K, bk_K, cx_calm, bk_calm, lenV_str, and_assoc, Option.join, List.length_map, List.length_append, decide_eq_true_eq, Bool.false_eq_true, if_false, if_true, Bool.not_true, Bool.not_false, Bool.not_eq_true', decide_eq_false_iff_not, Bool.true_eq_false, List.length_cons, List.length_nil, List.map_cons, List.map_nil, List.replicate, List.cons_append, List.nil_append, List.append_nil, List.getElem?_cons_zero, List.getElem?_cons_succ, List.set_cons_zero, List.set_cons_succ, Nat.reduceSub, Nat.reduceAdd, Option.some.injEq, V.int.injEq, V.str.injEq, V.bl.injEq, V.ref.injEq, List.cons.injEq, and_true, true_and, exists_eq_left', exists_eq_left, exists_and_left, exists_eq_right, exists_const, tBM, tBM0, rAppend, rPop, rIxL, rIxT, rIxS, rSlL, rSlT, rSlS, rCat, rCatT, tKGet, cx_w, bk_w, tDGet, tDisp, tPairs, tDNewK, cx_P]
    refine ⟨lus.length, .inl ⟨_, SqL.of kla, rfl⟩, ?_⟩
    split
    · rename_i hpos
      refine ⟨a, ns, 0, rfl, hS, _, rfl, by decide, ?_⟩
      split
      · have e1 := Int.emod_nonneg draw (b := (lus.length : Int)) (by omega)
        have e2 := Int.emod_lt_of_pos draw (b := (lus.length : Int)) (by omega)
        refine ⟨lus.length, .inl ⟨_, SqL.of kla, rfl⟩, lus.length, .inl ⟨_, SqL.of kla, rfl⟩, by omega, ?_⟩
        have hat : ((lus.length : Int) - 1 - draw % (lus.length : Int)).toNat < ls.length := by omega
        have h0 : 0 ≤ (lus.length : Int) - 1 - draw % (lus.length : Int) := by omega
        generalize (lus.length : Int) - 1 - draw % (lus.length : Int) = at' at hat h0
        obtain ⟨v, hv1, hv2⟩ := DAts.get (d := dLn ls[at'.toNat]) hln (by rw [List.getElem?_map, List.getElem?_eq_getElem hat]; rfl)
        obtain ⟨b, u, rfl, hb, _⟩ := lnAt hv2
        refine ⟨_, SqL.of kla, _, at_toNat h0 hv1, b, rfl, _, SqT.of hb, _, at0, _, SqL.of kla, _, at_toNat h0 hv1, b, rfl, _, SqT.of hb, _, at1, small (by simp), fun p6 h6 => hN _ _ ?_⟩
        exact ⟨_, (_, _), _, same_new h6 _, ⟨p6, _, rfl, upd_same, _, _, rfl, rfl, _, _, rfl, rfl, rfl⟩, rfl⟩
      · exact no
    · exact no
  obtain ⟨pv, pr, o, s6, hpv, rfl⟩ := h
  replace kla := s6 _ _ kla
  replace hln := DAts.same s6 hln
  clear hS k5 s6
  refine seq_abs fun N hN => ?_
  simp only [tSeq, tFor_eq, tLC_eq, iRng1, iRng2, iList, iTup, iStr, tIfS, tRet, tRetN, tNext, tAsg, gName, tVar, tC, tOp, rI0, rI, tTest, tB, rEq, rNe, tCall, tCons, tNil, tCB, tLst, tTup, tAnd, tOr, tNot, tAndV, tOrV, tNotV, tIf, tDrop, tSl, tPart, tNoPart, tChain, tUn, rU, L2.start, cx_K, bk_K, cx_calm, bk_calm, lenV_str, and_assoc, Option.join, List.length_map, List.length_append, decide_eq_true_eq, Bool.false_eq_true, if_false, if_true, Bool.not_true, Bool.not_false, Bool.not_eq_true', decide_eq_false_iff_not, Bool.true_eq_false, List.length_cons, List.length_nil, List.map_cons, List.map_nil, List.replicate, List.cons_append, List.nil_append, List.append_nil, List.getElem?_cons_zero, List.getElem?_cons_succ, List.set_cons_zero, List.set_cons_succ, Nat.reduceSub, Nat.reduceAdd, Option.some.injEq, V.int.injEq, V.str.injEq, V.bl.injEq, V.ref.injEq, List.cons.injEq, and_true, true_and, exists_eq_left', exists_eq_left, exists_and_left, exists_eq_right, exists_const, tBM, tBM0, rAppend, rPop, rIxL, rIxT, rIxS, rSlL, rSlT, rSlS, rCat, rCatT, tKGet, cx_w, bk_w, tDGet, tDisp, tPairs, tDNewK, cx_P]
  refine ⟨⟨_, SqL.of kla⟩, ?_⟩
  refine lc_list (xs := lus) (fun i ys σ H2 => Same H6 H2 ∧ DAts H2 ((ls.take i).map fun l => dPr (l.i, l.j)) ys ∧ ∃ o, σ = [o]) ⟨Same.refl _, rfl, _, rfl⟩ (small (by omega)) (fun i ys σ H2 e => ?_) (fun i ys σ H2 e => SqL.of (e.1 _ _ kla)) (fun i x ys σ H2 C hx e hC => ?_) (fun ys σ H2 e pq hpq => hN _ _ ?_)
  · have := DAts.length e.2.1
    rw [List.length_map, List.length_take] at this
    omega
  · obtain ⟨es, hys, o, rfl⟩ := e
    obtain ⟨l, hl1, hl2⟩ := mapGetV hln hx
    obtain ⟨b, u, rfl, hb, _⟩ := lnAt hl2
    replace hb := es _ _ hb
    simp only [tSeq, tFor_eq, tLC_eq, iRng1, iRng2, iList, iTup, iStr, tIfS, tRet, tRetN, tNext, tAsg, gName, tVar, tC, tOp, rI0, rI, tTest, tB, rEq, rNe, tCall, tCons, tNil, tCB, tLst, tTup, tAnd, tOr, tNot, tAndV, tOrV, tNotV, tIf, tDrop, tSl, tPart, tNoPart, tChain, tUn, rU, L2.start, cx_K, bk_K, cx_calm, bk_calm, lenV_str, and_assoc, Option.join, List.length_map, List.length_append, decide_eq_true_eq, Bool.false_eq_true, if_false, if_true, Bool.not_true, Bool.not_false, Bool.not_eq_true', decide_eq_false_iff_not, Bool.true_eq_false, List.length_cons, List.length_nil, List.map_cons, List.map_nil, List.replicate, List.cons_append, List.nil_append, List.append_nil, List.getElem?_cons_zero, List.getElem?_cons_succ, List.set_cons_zero, List.set_cons_succ, Nat.reduceSub, Nat.reduceAdd, Option.some.injEq, V.int.injEq, V.str.injEq, V.bl.injEq, V.ref.injEq, List.cons.injEq, and_true, true_and, exists_eq_left', exists_eq_left, exists_and_left, exists_eq_right, exists_const, tBM, tBM0, rAppend, rPop, rIxL, rIxT, rIxS, rSlL, rSlT, rSlS, rCat, rCatT, tKGet, cx_w, bk_w, tDGet, tDisp, tPairs, tDNewK, cx_P]
    refine ⟨_, SqT.of hb, _, at0, _, SqT.of hb, _, at1, small (by simp), fun p1 h1 => hC _ _ _ ?_⟩
    have s1 := same_new h1 (.tup [.int l.i, .int l.j])
    exact ⟨es.trans s1, mapSnoc (f := fun l : Ln => dPr (l.i, l.j)) hl1 (DAts.same s1 hys) ⟨p1, _, rfl, upd_same, _, _, rfl, rfl, _, _, rfl, rfl, rfl⟩, _, rfl⟩
  obtain ⟨es, hys, oo, rfl⟩ := e
  rw [hll, List.take_of_length_le (Nat.le_refl _)] at hys
  clear hN
  have s7 := same_new hpq (.lst ys)
  have kpq : upd H2 pq (.lst ys) pq = some (.lst ys) := upd_same
  replace hys := DAts.same s7 hys
  replace es := es.trans s7
  generalize upd H2 pq (.lst ys) = H7 at es kpq hys ⊢
  replace kla := es _ _ kla
  replace hln := DAts.same es hln
  replace hpv := DAt.same es hpv
  clear es s7 hpq
  refine seq_abs fun N hN => ?_
  simp only [tSeq, tFor_eq, tLC_eq, iRng1, iRng2, iList, iTup, iStr, tIfS, tRet, tRetN, tNext, tAsg, gName, tVar, tC, tOp, rI0, rI, tTest, tB, rEq, rNe, tCall, tCons, tNil, tCB, tLst, tTup, tAnd, tOr, tNot, tAndV, tOrV, tNotV, tIf, tDrop, tSl, tPart, tNoPart, tChain, tUn, rU, L2.start, cx_K, bk_K, cx_calm, bk_calm, lenV_str, and_assoc, Option.join, List.length_map, List.length_append, decide_eq_true_eq, Bool.false_eq_true, if_false, if_true, Bool.not_true, Bool.not_false, Bool.not_eq_true', decide_eq_false_iff_not, Bool.true_eq_false, List.length_cons, List.length_nil, List.map_cons, List.map_nil, List.replicate, List.cons_append, List.nil_append, List.append_nil, List.getElem?_cons_zero, List.getElem?_cons_succ, List.set_cons_zero, List.set_cons_succ, Nat.reduceSub, Nat.reduceAdd, Option.some.injEq, V.int.injEq, V.str.injEq, V.bl.injEq, V.ref.injEq, List.cons.injEq, and_true, true_and, exists_eq_left', exists_eq_left, exists_and_left, exists_eq_right, exists_const, tBM, tBM0, rAppend, rPop, rIxL, rIxT, rIxS, rSlL, rSlT, rSlS, rCat, rCatT, tKGet, cx_w, bk_w, tDGet, tDisp, tPairs, tDNewK, cx_P]
  refine hN _ _ ?_
  clear hN
  have fit : ∀ e ∈ ls.map fun l => dPr (l.i, l.j), DFit 1 e := fun e he => by
    obtain ⟨l, _, rfl⟩ := List.mem_map.mp he
    exact fit_pr 0 _
  refine seq_join (fun σ H' => ∃ (dv : V), Same H7 H' ∧ PapAt H' ls pr.1 pr.2 dv ∧ σ = [some (V.ref a), some (V.ref mp), some (V.ref ra), some (V.ref la), some (V.int top), some (V.int draw), some pv, o, some (V.ref pq), some dv, none]) (fun N hN => ?_) (fun σ H8 h => ?_)
  · simp only [tSeq, tFor_eq, tLC_eq, iRng1, iRng2, iList, iTup, iStr, tIfS, tRet, tRetN, tNext, tAsg, gName, tVar, tC, tOp, rI0, rI, tTest, tB, rEq, rNe, tCall, tCons, tNil, tCB, tLst, tTup, tAnd, tOr, tNot, tAndV, tOrV, tNotV, tIf, tDrop, tSl, tPart, tNoPart, tChain, tUn, rU, L2.start, cx_K, bk_K, cx_calm, bk_calm, lenV_str, and_assoc, Option.join, List.length_map, List.length_append, decide_eq_true_eq, Bool.false_eq_true, if_false, if_true, Bool.not_true, Bool.not_false, Bool.not_eq_true', decide_eq_false_iff_not, Bool.true_eq_false, List.length_cons, List.length_nil, List.map_cons, List.map_nil, List.replicate, List.cons_append, List.nil_append, List.append_nil, List.getElem?_cons_zero, List.getElem?_cons_succ, List.set_cons_zero, List.set_cons_succ, Nat.reduceSub, Nat.reduceAdd, Option.some.injEq, V.int.injEq, V.str.injEq, V.bl.injEq, V.ref.injEq, List.cons.injEq, and_true, true_and, exists_eq_left', exists_eq_left, exists_and_left, exists_eq_right, exists_const, tBM, tBM0, rAppend, rPop, rIxL, rIxT, rIxS, rSlL, rSlT, rSlS, rCat, rCatT, tKGet, cx_w, bk_w, tDGet, tDisp, tPairs, tDNewK, cx_P, rIndexG]
    refine ⟨1, dPr pr, ls.map (fun l => dPr (l.i, l.j)), hpv, .inl ⟨pq, _, rfl, kpq, hys⟩, fit, by omega, _, rfl, ?_⟩
    cases hany : (ls.map fun l => dPr (l.i, l.j)).any fun e => deq e (dPr pr) with
    | false =>
      rw [if_neg (by decide)]
      refine hN _ _ ⟨_, Same.refl _, .inl ⟨rfl, fun l hl' hc => ?_⟩, rfl⟩
      have := List.any_eq_false.mp hany (dPr (l.i, l.j)) (List.mem_map.mpr ⟨l, hl', rfl⟩)
      apply this
      rw [deq_pr, hc.1, hc.2]
      simp
    | true =>
      rw [if_pos (by decide)]
      obtain ⟨jj, ⟨d', hj1, hj2⟩, hj3⟩ := first_at hany
      refine ⟨.inl ⟨rfl, _, SqL.of kpq⟩, ys, kpq, ls.map (fun l => dPr (l.i, l.j)), hys, dPr pr, hpv, 1, fit, by omega, by rw [List.length_map]; omega, jj, ⟨d', hj1, hj2⟩, hj3, ?_⟩
      rw [List.getElem?_map] at hj1
      cases hlj : ls[jj]? with
      | none => rw [hlj] at hj1; cases hj1
      | some l =>
        rw [hlj] at hj1
        cases hj1
        rw [deq_pr, beq_iff_eq] at hj2
        have hjl := (List.getElem?_eq_some_iff.mp hlj).1
        refine ⟨la, lus, ls, jj, rfl, kla, hln, hah, hjl, l63, fun v ks H' s1 hks hd => hN _ _ ⟨v, s1, .inr ⟨jj, l, ks, hlj, ⟨congrArg Prod.fst hj2, congrArg Prod.snd hj2⟩, fun m l' hm hl' hc => ?_, hks, hd⟩, rfl⟩⟩
        have := hj3 m (dPr (l'.i, l'.j)) hm (by rw [List.getElem?_map, hl']; rfl)
        rw [deq_pr, hc.1, hc.2] at this
        simp at this
  obtain ⟨dv, s8, hdv, rfl⟩ := h
  replace kla := s8 _ _ kla
  replace hln := DAts.same s8 hln
  replace hpv := DAt.same s8 hpv
  clear s8 kpq hys
  refine seq_abs fun N hN => ?_
  simp only [tSeq, tFor_eq, tLC_eq, iRng1, iRng2, iList, iTup, iStr, tIfS, tRet, tRetN, tNext, tAsg, gName, tVar, tC, tOp, rI0, rI, tTest, tB, rEq, rNe, tCall, tCons, tNil, tCB, tLst, tTup, tAnd, tOr, tNot, tAndV, tOrV, tNotV, tIf, tDrop, tSl, tPart, tNoPart, tChain, tUn, rU, L2.start, cx_K, bk_K, cx_calm, bk_calm, lenV_str, and_assoc, Option.join, List.length_map, List.length_append, decide_eq_true_eq, Bool.false_eq_true, if_false, if_true, Bool.not_true, Bool.not_false, Bool.not_eq_true', decide_eq_false_iff_not, Bool.true_eq_false, List.length_cons, List.length_nil, List.map_cons, List.map_nil, List.replicate, List.cons_append, List.nil_append, List.append_nil, List.getElem?_cons_zero, List.getElem?_cons_succ, List.set_cons_zero, List.set_cons_succ, Nat.reduceSub, Nat.reduceAdd, Option.some.injEq, V.int.injEq, V.str.injEq, V.bl.injEq, V.ref.injEq, List.cons.injEq, and_true, true_and, exists_eq_left', exists_eq_left, exists_and_left, exists_eq_right, exists_const, tBM, tBM0, rAppend, rPop, rIxL, rIxT, rIxS, rSlL, rSlT, rSlS, rCat, rCatT, tKGet, cx_w, bk_w, tDGet, tDisp, tPairs, tDNewK, cx_P]
  refine ⟨_, .inl (SqL.of kla), fun w1 v1 => hN _ _ ?_⟩
  have s1 := same_new v1 (.lst lus)
  have kw1 : upd H8 w1 (.lst lus) w1 = some (.lst lus) := upd_same
  generalize upd H8 w1 (.lst lus) = H9 at s1 kw1 ⊢
  replace kla := s1 _ _ kla
  replace hln := DAts.same s1 hln
  replace hpv := DAt.same s1 hpv
  replace hdv := hdv.same s1
  clear s1 v1 hN
  obtain ⟨pa, rfl, hpa⟩ := prAt hpv
  simp only [tSeq, tFor_eq, tLC_eq, iRng1, iRng2, iList, iTup, iStr, tIfS, tRet, tRetN, tNext, tAsg, gName, tVar, tC, tOp, rI0, rI, tTest, tB, rEq, rNe, tCall, tCons, tNil, tCB, tLst, tTup, tAnd, tOr, tNot, tAndV, tOrV, tNotV, tIf, tDrop, tSl, tPart, tNoPart, tChain, tUn, rU, L2.start, cx_K, bk_K, cx_calm, bk_calm, lenV_str, and_assoc, Option.join, List.length_map, List.length_append, decide_eq_true_eq, Bool.false_eq_true, if_false, if_true, Bool.not_true, Bool.not_false, Bool.not_eq_true', decide_eq_false_iff_not, Bool.true_eq_false, List.length_cons, List.length_nil, List.map_cons, List.map_nil, List.replicate, List.cons_append, List.nil_append, List.append_nil, List.getElem?_cons_zero, List.getElem?_cons_succ, List.set_cons_zero, List.set_cons_succ, Nat.reduceSub, Nat.reduceAdd, Option.some.injEq, V.int.injEq, V.str.injEq, V.bl.injEq, V.ref.injEq, List.cons.injEq, and_true, true_and, exists_eq_left', exists_eq_left, exists_and_left, exists_eq_right, exists_const, tBM, tBM0, rAppend, rPop, rIxL, rIxT, rIxS, rSlL, rSlT, rSlS, rCat, rCatT, tKGet, cx_w, bk_w, tDGet, tDisp, tPairs, tDNewK, cx_P, spAlk]
  refine ⟨_, SqT.of hpa, _, at0, _, SqT.of hpa, _, at1, ?_⟩
  refine ⟨w1, lus, ls, _, _, rfl, kw1, hln, hah, l63, fun r H10 s10 hr10 => ?_⟩
  obtain ⟨d, d1, d2, d3⟩ := PapAt.two hah l63 hr10 (hdv.same s10)
  refine ⟨d, d1, d2, d3, ?_⟩
  unfold rEqG
  refine ⟨4, .lst (ls.map dLn), .lst (ls.map dLn), ⟨w1, _, rfl, s10 _ _ kw1, DAts.same s10 hln⟩, ⟨la, _, rfl, s10 _ _ kla, DAts.same s10 hln⟩, ⟨by rw [List.length_map]; omega, fun d hd => ?_⟩, by omega, ?_⟩
  · obtain ⟨l, hl', rfl⟩ := List.mem_map.mp hd
    obtain ⟨m, hm, e⟩ := List.getElem_of_mem hl'
    exact fit_ln 1 l (hah m l (by rw [List.getElem?_eq_getElem hm, e])).1.ow
  rw [deq_refl]
  exact q _
end
end C
set_option Elab.async false
set_option linter.all false
set_option maxRecDepth 100000
set_option maxHeartbeats 8000000
namespace C
open PySem L2
seal PE PT PW PA PS PSs PG PGs PI PPs PO PSet PIf
theorem all_mk {l : PySem.W.OpenLaw} {w : World} {K : PySem.W.Frag} {h : Heap} {mg : Str → Option Value} {fa : Addr} (X : K.In h) (G : h.Ns mainGlobals mg) (hfa : mg "law" = some (.ref fa))
    {f_lines_named : Addr} {od_lines_named an_lines_named : Option Addr} {sl_lines_named : Array (Option Value)} {oc_lines_named kV_lines_named dc_lines_named pm_lines_named cd_lines_named ct_lines_named : Value} (a_lines_named : PySem.W.nsIn K mainGlobals "lines_named" = some (some (.ref f_lines_named))) (l_lines_named : K.lookup f_lines_named = some ⟨oc_lines_named, od_lines_named, .func (PySem.W.fnOf "lines_named" "lines_named" (defArgs s_lines_named) (defBody s_lines_named) (defScope s_lines_named) .none kV_lines_named dc_lines_named pm_lines_named an_lines_named cd_lines_named ct_lines_named), sl_lines_named⟩) (c_lines_named : PySem.W.codeIn K cd_lines_named "lines_named" = true) (k_lines_named : PySem.W.keepIn K (.ref f_lines_named) = true)
    {f_renamed : Addr} {od_renamed an_renamed : Option Addr} {sl_renamed : Array (Option Value)} {oc_renamed kV_renamed dc_renamed pm_renamed cd_renamed ct_renamed : Value} (a_renamed : PySem.W.nsIn K mainGlobals "renamed" = some (some (.ref f_renamed))) (l_renamed : K.lookup f_renamed = some ⟨oc_renamed, od_renamed, .func (PySem.W.fnOf "renamed" "renamed" (defArgs s_renamed) (defBody s_renamed) (defScope s_renamed) .none kV_renamed dc_renamed pm_renamed an_renamed cd_renamed ct_renamed), sl_renamed⟩) (c_renamed : PySem.W.codeIn K cd_renamed "renamed" = true) (k_renamed : PySem.W.keepIn K (.ref f_renamed) = true)
    {f_line_for : Addr} {od_line_for an_line_for : Option Addr} {sl_line_for : Array (Option Value)} {oc_line_for kV_line_for dc_line_for pm_line_for cd_line_for ct_line_for : Value} (a_line_for : PySem.W.nsIn K mainGlobals "line_for" = some (some (.ref f_line_for))) (l_line_for : K.lookup f_line_for = some ⟨oc_line_for, od_line_for, .func (PySem.W.fnOf "line_for" "line_for" (defArgs s_line_for) (defBody s_line_for) (defScope s_line_for) .none kV_line_for dc_line_for pm_line_for an_line_for cd_line_for ct_line_for), sl_line_for⟩) (c_line_for : PySem.W.codeIn K cd_line_for "line_for" = true) (k_line_for : PySem.W.keepIn K (.ref f_line_for) = true)
    {f_hung_on : Addr} {od_hung_on an_hung_on : Option Addr} {sl_hung_on : Array (Option Value)} {oc_hung_on kV_hung_on dc_hung_on pm_hung_on cd_hung_on ct_hung_on : Value} (a_hung_on : PySem.W.nsIn K mainGlobals "hung_on" = some (some (.ref f_hung_on))) (l_hung_on : K.lookup f_hung_on = some ⟨oc_hung_on, od_hung_on, .func (PySem.W.fnOf "hung_on" "hung_on" (defArgs s_hung_on) (defBody s_hung_on) (defScope s_hung_on) .none kV_hung_on dc_hung_on pm_hung_on an_hung_on cd_hung_on ct_hung_on), sl_hung_on⟩) (c_hung_on : PySem.W.codeIn K cd_hung_on "hung_on" = true) (k_hung_on : PySem.W.keepIn K (.ref f_hung_on) = true)
    {f_paper : Addr} {od_paper an_paper : Option Addr} {sl_paper : Array (Option Value)} {oc_paper kV_paper dc_paper pm_paper cd_paper ct_paper : Value} (a_paper : PySem.W.nsIn K mainGlobals "paper" = some (some (.ref f_paper))) (l_paper : K.lookup f_paper = some ⟨oc_paper, od_paper, .func (PySem.W.fnOf "paper" "paper" (defArgs s_paper) (defBody s_paper) (defScope s_paper) .none kV_paper dc_paper pm_paper an_paper cd_paper ct_paper), sl_paper⟩) (c_paper : PySem.W.codeIn K cd_paper "paper" = true) (k_paper : PySem.W.keepIn K (.ref f_paper) = true)
    {f_law_cell_at : Addr} {od_law_cell_at an_law_cell_at : Option Addr} {sl_law_cell_at : Array (Option Value)} {oc_law_cell_at kV_law_cell_at dc_law_cell_at pm_law_cell_at cd_law_cell_at ct_law_cell_at : Value} (a_law_cell_at : PySem.W.nsIn K mainGlobals "_law_cell_at" = some (some (.ref f_law_cell_at))) (l_law_cell_at : K.lookup f_law_cell_at = some ⟨oc_law_cell_at, od_law_cell_at, .func (PySem.W.fnOf "_law_cell_at" "_law_cell_at" (defArgs s_law_cell_at) (defBody s_law_cell_at) (defScope s_law_cell_at) .none kV_law_cell_at dc_law_cell_at pm_law_cell_at an_law_cell_at cd_law_cell_at ct_law_cell_at), sl_law_cell_at⟩) (c_law_cell_at : PySem.W.codeIn K cd_law_cell_at "_law_cell_at" = true) (k_law_cell_at : PySem.W.keepIn K (.ref f_law_cell_at) = true)
    {f_law_name_by : Addr} {od_law_name_by an_law_name_by : Option Addr} {sl_law_name_by : Array (Option Value)} {oc_law_name_by kV_law_name_by dc_law_name_by pm_law_name_by cd_law_name_by ct_law_name_by : Value} (a_law_name_by : PySem.W.nsIn K mainGlobals "_law_name_by" = some (some (.ref f_law_name_by))) (l_law_name_by : K.lookup f_law_name_by = some ⟨oc_law_name_by, od_law_name_by, .func (PySem.W.fnOf "_law_name_by" "_law_name_by" (defArgs s_law_name_by) (defBody s_law_name_by) (defScope s_law_name_by) .none kV_law_name_by dc_law_name_by pm_law_name_by an_law_name_by cd_law_name_by ct_law_name_by), sl_law_name_by⟩) (c_law_name_by : PySem.W.codeIn K cd_law_name_by "_law_name_by" = true) (k_law_name_by : PySem.W.keepIn K (.ref f_law_name_by) = true)
    {f_law_turned : Addr} {od_law_turned an_law_turned : Option Addr} {sl_law_turned : Array (Option Value)} {oc_law_turned kV_law_turned dc_law_turned pm_law_turned cd_law_turned ct_law_turned : Value} (a_law_turned : PySem.W.nsIn K mainGlobals "_law_turned" = some (some (.ref f_law_turned))) (l_law_turned : K.lookup f_law_turned = some ⟨oc_law_turned, od_law_turned, .func (PySem.W.fnOf "_law_turned" "_law_turned" (defArgs s_law_turned) (defBody s_law_turned) (defScope s_law_turned) .none kV_law_turned dc_law_turned pm_law_turned an_law_turned cd_law_turned ct_law_turned), sl_law_turned⟩) (c_law_turned : PySem.W.codeIn K cd_law_turned "_law_turned" = true) (k_law_turned : PySem.W.keepIn K (.ref f_law_turned) = true)
    {f_law_sheet_and_rules : Addr} {od_law_sheet_and_rules an_law_sheet_and_rules : Option Addr} {sl_law_sheet_and_rules : Array (Option Value)} {oc_law_sheet_and_rules kV_law_sheet_and_rules dc_law_sheet_and_rules pm_law_sheet_and_rules cd_law_sheet_and_rules ct_law_sheet_and_rules : Value} (a_law_sheet_and_rules : PySem.W.nsIn K mainGlobals "_law_sheet_and_rules" = some (some (.ref f_law_sheet_and_rules))) (l_law_sheet_and_rules : K.lookup f_law_sheet_and_rules = some ⟨oc_law_sheet_and_rules, od_law_sheet_and_rules, .func (PySem.W.fnOf "_law_sheet_and_rules" "_law_sheet_and_rules" (defArgs s_law_sheet_and_rules) (defBody s_law_sheet_and_rules) (defScope s_law_sheet_and_rules) .none kV_law_sheet_and_rules dc_law_sheet_and_rules pm_law_sheet_and_rules an_law_sheet_and_rules cd_law_sheet_and_rules ct_law_sheet_and_rules), sl_law_sheet_and_rules⟩) (c_law_sheet_and_rules : PySem.W.codeIn K cd_law_sheet_and_rules "_law_sheet_and_rules" = true) (k_law_sheet_and_rules : PySem.W.keepIn K (.ref f_law_sheet_and_rules) = true)
    {f_law_alike : Addr} {od_law_alike an_law_alike : Option Addr} {sl_law_alike : Array (Option Value)} {oc_law_alike kV_law_alike dc_law_alike pm_law_alike cd_law_alike ct_law_alike : Value} (a_law_alike : PySem.W.nsIn K mainGlobals "_law_alike" = some (some (.ref f_law_alike))) (l_law_alike : K.lookup f_law_alike = some ⟨oc_law_alike, od_law_alike, .func (PySem.W.fnOf "_law_alike" "_law_alike" (defArgs s_law_alike) (defBody s_law_alike) (defScope s_law_alike) .none kV_law_alike dc_law_alike pm_law_alike an_law_alike cd_law_alike ct_law_alike), sl_law_alike⟩) (c_law_alike : PySem.W.codeIn K cd_law_alike "_law_alike" = true) (k_law_alike : PySem.W.keepIn K (.ref f_law_alike) = true)
    {f_law_both_line : Addr} {od_law_both_line an_law_both_line : Option Addr} {sl_law_both_line : Array (Option Value)} {oc_law_both_line kV_law_both_line dc_law_both_line pm_law_both_line cd_law_both_line ct_law_both_line : Value} (a_law_both_line : PySem.W.nsIn K mainGlobals "_law_both_line" = some (some (.ref f_law_both_line))) (l_law_both_line : K.lookup f_law_both_line = some ⟨oc_law_both_line, od_law_both_line, .func (PySem.W.fnOf "_law_both_line" "_law_both_line" (defArgs s_law_both_line) (defBody s_law_both_line) (defScope s_law_both_line) .none kV_law_both_line dc_law_both_line pm_law_both_line an_law_both_line cd_law_both_line ct_law_both_line), sl_law_both_line⟩) (c_law_both_line : PySem.W.codeIn K cd_law_both_line "_law_both_line" = true) (k_law_both_line : PySem.W.keepIn K (.ref f_law_both_line) = true)
    {f_law_rule_line : Addr} {od_law_rule_line an_law_rule_line : Option Addr} {sl_law_rule_line : Array (Option Value)} {oc_law_rule_line kV_law_rule_line dc_law_rule_line pm_law_rule_line cd_law_rule_line ct_law_rule_line : Value} (a_law_rule_line : PySem.W.nsIn K mainGlobals "_law_rule_line" = some (some (.ref f_law_rule_line))) (l_law_rule_line : K.lookup f_law_rule_line = some ⟨oc_law_rule_line, od_law_rule_line, .func (PySem.W.fnOf "_law_rule_line" "_law_rule_line" (defArgs s_law_rule_line) (defBody s_law_rule_line) (defScope s_law_rule_line) .none kV_law_rule_line dc_law_rule_line pm_law_rule_line an_law_rule_line cd_law_rule_line ct_law_rule_line), sl_law_rule_line⟩) (c_law_rule_line : PySem.W.codeIn K cd_law_rule_line "_law_rule_line" = true) (k_law_rule_line : PySem.W.keepIn K (.ref f_law_rule_line) = true)
    {f_law_plain_line : Addr} {od_law_plain_line an_law_plain_line : Option Addr} {sl_law_plain_line : Array (Option Value)} {oc_law_plain_line kV_law_plain_line dc_law_plain_line pm_law_plain_line cd_law_plain_line ct_law_plain_line : Value} (a_law_plain_line : PySem.W.nsIn K mainGlobals "_law_plain_line" = some (some (.ref f_law_plain_line))) (l_law_plain_line : K.lookup f_law_plain_line = some ⟨oc_law_plain_line, od_law_plain_line, .func (PySem.W.fnOf "_law_plain_line" "_law_plain_line" (defArgs s_law_plain_line) (defBody s_law_plain_line) (defScope s_law_plain_line) .none kV_law_plain_line dc_law_plain_line pm_law_plain_line an_law_plain_line cd_law_plain_line ct_law_plain_line), sl_law_plain_line⟩) (c_law_plain_line : PySem.W.codeIn K cd_law_plain_line "_law_plain_line" = true) (k_law_plain_line : PySem.W.keepIn K (.ref f_law_plain_line) = true)
    {f_law_next_line : Addr} {od_law_next_line an_law_next_line : Option Addr} {sl_law_next_line : Array (Option Value)} {oc_law_next_line kV_law_next_line dc_law_next_line pm_law_next_line cd_law_next_line ct_law_next_line : Value} (a_law_next_line : PySem.W.nsIn K mainGlobals "_law_next_line" = some (some (.ref f_law_next_line))) (l_law_next_line : K.lookup f_law_next_line = some ⟨oc_law_next_line, od_law_next_line, .func (PySem.W.fnOf "_law_next_line" "_law_next_line" (defArgs s_law_next_line) (defBody s_law_next_line) (defScope s_law_next_line) .none kV_law_next_line dc_law_next_line pm_law_next_line an_law_next_line cd_law_next_line ct_law_next_line), sl_law_next_line⟩) (c_law_next_line : PySem.W.codeIn K cd_law_next_line "_law_next_line" = true) (k_law_next_line : PySem.W.keepIn K (.ref f_law_next_line) = true)
    {f_law_derived : Addr} {od_law_derived an_law_derived : Option Addr} {sl_law_derived : Array (Option Value)} {oc_law_derived kV_law_derived dc_law_derived pm_law_derived cd_law_derived ct_law_derived : Value} (a_law_derived : PySem.W.nsIn K mainGlobals "_law_derived" = some (some (.ref f_law_derived))) (l_law_derived : K.lookup f_law_derived = some ⟨oc_law_derived, od_law_derived, .func (PySem.W.fnOf "_law_derived" "_law_derived" (defArgs s_law_derived) (defBody s_law_derived) (defScope s_law_derived) .none kV_law_derived dc_law_derived pm_law_derived an_law_derived cd_law_derived ct_law_derived), sl_law_derived⟩) (c_law_derived : PySem.W.codeIn K cd_law_derived "_law_derived" = true) (k_law_derived : PySem.W.keepIn K (.ref f_law_derived) = true)
    {f_law_places : Addr} {od_law_places an_law_places : Option Addr} {sl_law_places : Array (Option Value)} {oc_law_places kV_law_places dc_law_places pm_law_places cd_law_places ct_law_places : Value} (a_law_places : PySem.W.nsIn K mainGlobals "_law_places" = some (some (.ref f_law_places))) (l_law_places : K.lookup f_law_places = some ⟨oc_law_places, od_law_places, .func (PySem.W.fnOf "_law_places" "_law_places" (defArgs s_law_places) (defBody s_law_places) (defScope s_law_places) .none kV_law_places dc_law_places pm_law_places an_law_places cd_law_places ct_law_places), sl_law_places⟩) (c_law_places : PySem.W.codeIn K cd_law_places "_law_places" = true) (k_law_places : PySem.W.keepIn K (.ref f_law_places) = true)
    {f_law_due : Addr} {od_law_due an_law_due : Option Addr} {sl_law_due : Array (Option Value)} {oc_law_due kV_law_due dc_law_due pm_law_due cd_law_due ct_law_due : Value} (a_law_due : PySem.W.nsIn K mainGlobals "_law_due" = some (some (.ref f_law_due))) (l_law_due : K.lookup f_law_due = some ⟨oc_law_due, od_law_due, .func (PySem.W.fnOf "_law_due" "_law_due" (defArgs s_law_due) (defBody s_law_due) (defScope s_law_due) .none kV_law_due dc_law_due pm_law_due an_law_due cd_law_due ct_law_due), sl_law_due⟩) (c_law_due : PySem.W.codeIn K cd_law_due "_law_due" = true) (k_law_due : PySem.W.keepIn K (.ref f_law_due) = true)
    {f_law : Addr} {od_law an_law : Option Addr} {sl_law : Array (Option Value)} {oc_law kV_law dc_law pm_law cd_law ct_law : Value} (a_law : PySem.W.nsIn K mainGlobals "law" = some (some (.ref f_law))) (l_law : K.lookup f_law = some ⟨oc_law, od_law, .func (PySem.W.fnOf "law" "law" (defArgs s_law) (defBody s_law) (defScope s_law) .none kV_law dc_law pm_law an_law cd_law ct_law), sl_law⟩) (c_law : PySem.W.codeIn K cd_law "law" = true) (k_law : PySem.W.keepIn K (.ref f_law) = true)
     (z_enumerate : PySem.W.nsIn K mainGlobals "enumerate" = some none)
    (z_all : PySem.W.nsIn K mainGlobals "all" = some none)
    (z_bool : PySem.W.nsIn K mainGlobals "bool" = some none)
    (z_dict : PySem.W.nsIn K mainGlobals "dict" = some none)
    (z_int : PySem.W.nsIn K mainGlobals "int" = some none)
    (z_isinstance : PySem.W.nsIn K mainGlobals "isinstance" = some none)
    (z_len : PySem.W.nsIn K mainGlobals "len" = some none)
    (z_list : PySem.W.nsIn K mainGlobals "list" = some none)
    (z_max : PySem.W.nsIn K mainGlobals "max" = some none)
    (z_range : PySem.W.nsIn K mainGlobals "range" = some none)
    (z_set : PySem.W.nsIn K mainGlobals "set" = some none)
    (z_sorted : PySem.W.nsIn K mainGlobals "sorted" = some none)
    (z_str : PySem.W.nsIn K mainGlobals "str" = some none)
    (z_sum : PySem.W.nsIn K mainGlobals "sum" = some none)
    (z_tuple : PySem.W.nsIn K mainGlobals "tuple" = some none) :
    ∃ fd : FuncData, (∀ (s : Shared) (v : Value), BindsTo s fd ⟨[v], []⟩ [("script", v)]) ∧ ∀ base : Heap, K.In base → base.Ns mainGlobals mg → FnOk l.prog w K mg base CX0 65 fa fd ["script"] (spLaw K) := by
  have e := hfa.symm.trans (PySem.W.mg_of X G a_law)
  cases e
  have F_lines_named := fun_mk (st := s_lines_named) l_lines_named c_lines_named k_lines_named
  have b_lines_named := F_lines_named.binds (ps := ["why"]) fun _ _ _ _ _ _ us hl => match us, hl with | [_], _ => rfl
  have m_lines_named := PySem.W.mg_of X G a_lines_named
  have F_renamed := fun_mk (st := s_renamed) l_renamed c_renamed k_renamed
  have b_renamed := F_renamed.binds (ps := ["why", "places"]) fun _ _ _ _ _ _ us hl => match us, hl with | [_, _], _ => rfl
  have m_renamed := PySem.W.mg_of X G a_renamed
  have F_line_for := fun_mk (st := s_line_for) l_line_for c_line_for k_line_for
  have b_line_for := F_line_for.binds (ps := ["lines", "i", "j"]) fun _ _ _ _ _ _ us hl => match us, hl with | [_, _, _], _ => rfl
  have m_line_for := PySem.W.mg_of X G a_line_for
  have F_hung_on := fun_mk (st := s_hung_on) l_hung_on c_hung_on k_hung_on
  have b_hung_on := F_hung_on.binds (ps := ["lines", "k"]) fun _ _ _ _ _ _ us hl => match us, hl with | [_, _], _ => rfl
  have m_hung_on := PySem.W.mg_of X G a_hung_on
  have F_paper := fun_mk (st := s_paper) l_paper c_paper k_paper
  have b_paper := F_paper.binds (ps := ["lines", "i", "j"]) fun _ _ _ _ _ _ us hl => match us, hl with | [_, _, _], _ => rfl
  have m_paper := PySem.W.mg_of X G a_paper
  have F_law_cell_at := fun_mk (st := s_law_cell_at) l_law_cell_at c_law_cell_at k_law_cell_at
  have b_law_cell_at := F_law_cell_at.binds (ps := ["script", "k"]) fun _ _ _ _ _ _ us hl => match us, hl with | [_, _], _ => rfl
  have m_law_cell_at := PySem.W.mg_of X G a_law_cell_at
  have F_law_name_by := fun_mk (st := s_law_name_by) l_law_name_by c_law_name_by k_law_name_by
  have b_law_name_by := F_law_name_by.binds (ps := ["cell", "size"]) fun _ _ _ _ _ _ us hl => match us, hl with | [_, _], _ => rfl
  have m_law_name_by := PySem.W.mg_of X G a_law_name_by
  have F_law_turned := fun_mk (st := s_law_turned) l_law_turned c_law_turned k_law_turned
  have b_law_turned := F_law_turned.binds (ps := ["n"]) fun _ _ _ _ _ _ us hl => match us, hl with | [_], _ => rfl
  have m_law_turned := PySem.W.mg_of X G a_law_turned
  have F_law_sheet_and_rules := fun_mk (st := s_law_sheet_and_rules) l_law_sheet_and_rules c_law_sheet_and_rules k_law_sheet_and_rules
  have b_law_sheet_and_rules := F_law_sheet_and_rules.binds (ps := ["script", "most", "many"]) fun _ _ _ _ _ _ us hl => match us, hl with | [_, _, _], _ => rfl
  have m_law_sheet_and_rules := PySem.W.mg_of X G a_law_sheet_and_rules
  have F_law_alike := fun_mk (st := s_law_alike) l_law_alike c_law_alike k_law_alike
  have b_law_alike := F_law_alike.binds (ps := ["found", "due"]) fun _ _ _ _ _ _ us hl => match us, hl with | [_, _], _ => rfl
  have m_law_alike := PySem.W.mg_of X G a_law_alike
  have F_law_both_line := fun_mk (st := s_law_both_line) l_law_both_line c_law_both_line k_law_both_line
  have b_law_both_line := F_law_both_line.binds (ps := ["rows", "lines", "a"]) fun _ _ _ _ _ _ us hl => match us, hl with | [_, _, _], _ => rfl
  have m_law_both_line := PySem.W.mg_of X G a_law_both_line
  have F_law_rule_line := fun_mk (st := s_law_rule_line) l_law_rule_line c_law_rule_line k_law_rule_line
  have b_law_rule_line := F_law_rule_line.binds (ps := ["rules", "lines", "a"]) fun _ _ _ _ _ _ us hl => match us, hl with | [_, _, _], _ => rfl
  have m_law_rule_line := PySem.W.mg_of X G a_law_rule_line
  have F_law_plain_line := fun_mk (st := s_law_plain_line) l_law_plain_line c_law_plain_line k_law_plain_line
  have b_law_plain_line := F_law_plain_line.binds (ps := ["rows", "way", "a"]) fun _ _ _ _ _ _ us hl => match us, hl with | [_, _, _], _ => rfl
  have m_law_plain_line := PySem.W.mg_of X G a_law_plain_line
  have F_law_next_line := fun_mk (st := s_law_next_line) l_law_next_line c_law_next_line k_law_next_line
  have b_law_next_line := F_law_next_line.binds (ps := ["rows", "rules", "lines", "way", "a"]) fun _ _ _ _ _ _ us hl => match us, hl with | [_, _, _, _, _], _ => rfl
  have m_law_next_line := PySem.W.mg_of X G a_law_next_line
  have F_law_derived := fun_mk (st := s_law_derived) l_law_derived c_law_derived k_law_derived
  have b_law_derived := F_law_derived.binds (ps := ["rows", "rules", "script"]) fun _ _ _ _ _ _ us hl => match us, hl with | [_, _, _], _ => rfl
  have m_law_derived := PySem.W.mg_of X G a_law_derived
  have F_law_places := fun_mk (st := s_law_places) l_law_places c_law_places k_law_places
  have b_law_places := F_law_places.binds (ps := ["why"]) fun _ _ _ _ _ _ us hl => match us, hl with | [_], _ => rfl
  have m_law_places := PySem.W.mg_of X G a_law_places
  have F_law_due := fun_mk (st := s_law_due) l_law_due c_law_due k_law_due
  have b_law_due := F_law_due.binds (ps := ["lines", "last"]) fun _ _ _ _ _ _ us hl => match us, hl with | [_, _], _ => rfl
  have m_law_due := PySem.W.mg_of X G a_law_due
  have F_law := fun_mk (st := s_law) l_law c_law k_law
  have b_law := F_law.binds (ps := ["script"]) fun _ _ _ _ _ _ us hl => match us, hl with | [_], _ => rfl
  have m_law := PySem.W.mg_of X G a_law
  have bi : Bi mg := ⟨PySem.W.mg_none_of X G z_len, PySem.W.mg_none_of X G z_range, PySem.W.mg_none_of X G z_isinstance, PySem.W.mg_none_of X G z_max, PySem.W.mg_none_of X G z_sum, PySem.W.mg_none_of X G z_all, PySem.W.mg_none_of X G z_tuple, PySem.W.mg_none_of X G z_list, PySem.W.mg_none_of X G z_sorted, PySem.W.mg_none_of X G z_set, PySem.W.mg_none_of X G z_int, PySem.W.mg_none_of X G z_bool, PySem.W.mg_none_of X G z_str, PySem.W.mg_none_of X G z_dict⟩
  refine ⟨PySem.W.fnOf "law" "law" (defArgs s_law) (defBody s_law) (defScope s_law) .none kV_law dc_law pm_law an_law cd_law ct_law, fun s v => .of_eq rfl, fun base _ _ => ?_⟩
  have be : mg "enumerate" = none := PySem.W.mg_none_of X G z_enumerate
  have h9 := has_of F_law_cell_at (ok_cell (P := l.prog) (w := w) (base := base) bi F_law_cell_at) b_law_cell_at m_law_cell_at
  have h10 := has_of F_law_name_by (ok_name (P := l.prog) (w := w) (base := base) bi F_law_name_by) b_law_name_by m_law_name_by
  have h11 := has_of F_law_turned (ok_turned (P := l.prog) (w := w) (base := base) bi F_law_turned) b_law_turned m_law_turned
  have h12 := has_of F_law_sheet_and_rules (ok_sheet_and_rules bi h10 F_law_sheet_and_rules) b_law_sheet_and_rules m_law_sheet_and_rules
  have h18 := has_of F_law_both_line (ok_both_line (P := l.prog) (w := w) (base := base) bi F_law_both_line) b_law_both_line m_law_both_line
  have h19 := has_of F_law_rule_line (ok_rule_line (P := l.prog) (w := w) (base := base) bi F_law_rule_line) b_law_rule_line m_law_rule_line
  have h20 := has_of F_law_plain_line (ok_plain_line (P := l.prog) (w := w) (base := base) bi F_law_plain_line) b_law_plain_line m_law_plain_line
  have h21 := has_of F_law_next_line (ok_next_line bi h11 h20 h19 h18 F_law_next_line) b_law_next_line m_law_next_line
  have h22 := has_of F_law_derived (ok_derived bi h21 F_law_derived) b_law_derived m_law_derived
  have h24 := has_of F_law_alike (ok_alike (P := l.prog) (w := w) (base := base) bi F_law_alike b_law_alike m_law_alike 40) b_law_alike m_law_alike
  have h25 := has_of F_lines_named (ok_lines_named (P := l.prog) (w := w) (base := base) bi F_lines_named) b_lines_named m_lines_named
  have h26 := has_of F_renamed (ok_renamed (P := l.prog) (w := w) (base := base) bi F_renamed) b_renamed m_renamed
  have h27 := has_of F_line_for (ok_line_for (P := l.prog) (w := w) (base := base) bi be F_line_for) b_line_for m_line_for
  have h28 := has_of F_hung_on (ok_hung_on bi h25 F_hung_on) b_hung_on m_hung_on
  have h29 := has_of F_paper (ok_paper bi be h27 h28 h26 F_paper) b_paper m_paper
  have h30 := has_of F_law_places (ok_law_places (P := l.prog) (w := w) (base := base) bi F_law_places) b_law_places m_law_places
  have h31 := has_of F_law_due (ok_law_due bi h30 F_law_due) b_law_due m_law_due
  exact ok_law bi h9 h12 h22 h31 h24 h29 F_law
theorem walk {l : PySem.W.OpenLaw} {q : Program} {loose : List Str} {XP : (Str → Option Value) → Heap → Prop} {YP : World → Heap → Prop} {d : DefRec} {K : Params → PySem.W.Frag} (hn : l.most = some 63) (hdf : d.params.defaults = [])
    (hY : ∀ (w : World) (h : Heap), YP w h → (K w.params).In h)
    (F : ∀ (w : World) (mg : Str → Option Value) (fa : Addr) (h : Heap), (K w.params).In h → h.Ns mainGlobals mg → mg d.name = some (.ref fa) →
      ∃ fd : FuncData, (∀ (s : Shared) (u : Value), BindsTo s fd ⟨[u], []⟩ [("script", u)]) ∧ ∀ base : Heap, (K w.params).In base → base.Ns mainGlobals mg → FnOk l.prog w (K w.params) mg base CX0 65 fa fd ["script"] (spLaw (K w.params))) :
    PySem.W.WalkO q loose XP YP l.row.toRowW d [] (fun f vs => PySem.call f vs) :=
  L2.walk_of (n := 63) (k := 65) (x := "script") (CX := fun _ => CX0) (sp := fun w => spLaw (K w.params)) hn (by decide) hdf ⟨rfl, by decide, by decide⟩ hY F (fun _ _ a ns hl _ hS => ⟨a, ns, rfl, hS, hl, fun _ => rfl⟩) fun _ _ _ _ _ z => z
end C
set_option Elab.async false
set_option linter.all false
set_option maxRecDepth 100000
set_option maxHeartbeats 8000000
open PySem PySem.W PyProof.Rows
set_option maxRecDepth 100000 in
set_option maxHeartbeats 0 in
theorem PySem.Challenge.cw_clashbook_k19_papers_holds : PySem.Challenge.rw_clashbook_k19_papers.Holds := by
  w_on; o_law; k_head; (case hw => w_witness2)
  k_fill
  refine C.walk (l := PySem.Challenge.rw_clashbook_k19_papers) rfl rfl (fun w h Y => PySem.W.kIn_of Y) ?F
  case F =>
    intro w mg fa h KX G hmg
    refine' C.all_mk KX G hmg ?a_lines_named ?l_lines_named ?c_lines_named ?k_lines_named ?a_renamed ?l_renamed ?c_renamed ?k_renamed ?a_line_for ?l_line_for ?c_line_for ?k_line_for ?a_hung_on ?l_hung_on ?c_hung_on ?k_hung_on ?a_paper ?l_paper ?c_paper ?k_paper ?a_law_cell_at ?l_law_cell_at ?c_law_cell_at ?k_law_cell_at ?a_law_name_by ?l_law_name_by ?c_law_name_by ?k_law_name_by ?a_law_turned ?l_law_turned ?c_law_turned ?k_law_turned ?a_law_sheet_and_rules ?l_law_sheet_and_rules ?c_law_sheet_and_rules ?k_law_sheet_and_rules ?a_law_alike ?l_law_alike ?c_law_alike ?k_law_alike ?a_law_both_line ?l_law_both_line ?c_law_both_line ?k_law_both_line ?a_law_rule_line ?l_law_rule_line ?c_law_rule_line ?k_law_rule_line ?a_law_plain_line ?l_law_plain_line ?c_law_plain_line ?k_law_plain_line ?a_law_next_line ?l_law_next_line ?c_law_next_line ?k_law_next_line ?a_law_derived ?l_law_derived ?c_law_derived ?k_law_derived ?a_law_places ?l_law_places ?c_law_places ?k_law_places ?a_law_due ?l_law_due ?c_law_due ?k_law_due ?a_law ?l_law ?c_law ?k_law ?z_enumerate ?z_all ?z_bool ?z_dict ?z_int ?z_isinstance ?z_len ?z_list ?z_max ?z_range ?z_set ?z_sorted ?z_str ?z_sum ?z_tuple
    (case a_lines_named => k_is); (case l_lines_named => k_is); (case c_lines_named => k_is); (case k_lines_named => k_is)
    (case a_renamed => k_is); (case l_renamed => k_is); (case c_renamed => k_is); (case k_renamed => k_is)
    (case a_line_for => k_is); (case l_line_for => k_is); (case c_line_for => k_is); (case k_line_for => k_is)
    (case a_hung_on => k_is); (case l_hung_on => k_is); (case c_hung_on => k_is); (case k_hung_on => k_is)
    (case a_paper => k_is); (case l_paper => k_is); (case c_paper => k_is); (case k_paper => k_is)
    (case a_law_cell_at => k_is); (case l_law_cell_at => k_is); (case c_law_cell_at => k_is); (case k_law_cell_at => k_is)
    (case a_law_name_by => k_is); (case l_law_name_by => k_is); (case c_law_name_by => k_is); (case k_law_name_by => k_is)
    (case a_law_turned => k_is); (case l_law_turned => k_is); (case c_law_turned => k_is); (case k_law_turned => k_is)
    (case a_law_sheet_and_rules => k_is); (case l_law_sheet_and_rules => k_is); (case c_law_sheet_and_rules => k_is); (case k_law_sheet_and_rules => k_is)
    (case a_law_alike => k_is); (case l_law_alike => k_is); (case c_law_alike => k_is); (case k_law_alike => k_is)
    (case a_law_both_line => k_is); (case l_law_both_line => k_is); (case c_law_both_line => k_is); (case k_law_both_line => k_is)
    (case a_law_rule_line => k_is); (case l_law_rule_line => k_is); (case c_law_rule_line => k_is); (case k_law_rule_line => k_is)
    (case a_law_plain_line => k_is); (case l_law_plain_line => k_is); (case c_law_plain_line => k_is); (case k_law_plain_line => k_is)
    (case a_law_next_line => k_is); (case l_law_next_line => k_is); (case c_law_next_line => k_is); (case k_law_next_line => k_is)
    (case a_law_derived => k_is); (case l_law_derived => k_is); (case c_law_derived => k_is); (case k_law_derived => k_is)
    (case a_law_places => k_is); (case l_law_places => k_is); (case c_law_places => k_is); (case k_law_places => k_is)
    (case a_law_due => k_is); (case l_law_due => k_is); (case c_law_due => k_is); (case k_law_due => k_is)
    (case a_law => k_is); (case l_law => k_is); (case c_law => k_is); (case k_law => k_is)
    (case z_enumerate => k_is); (case z_all => k_is); (case z_bool => k_is); (case z_dict => k_is)
    (case z_int => k_is); (case z_isinstance => k_is); (case z_len => k_is); (case z_list => k_is)
    (case z_max => k_is); (case z_range => k_is); (case z_set => k_is); (case z_sorted => k_is)
    (case z_str => k_is); (case z_sum => k_is); (case z_tuple => k_is)
#print axioms PySem.Challenge.cw_clashbook_k19_papers_holds
