import PyProof.Rows.All
import Wide.All
import OpenK.AllK
import Wide.FinOn
import Lean
import PyProof.EqAt
import PyProof.EqKinds
import PyProof.TupleCall
import PyProof.IsiH_list
import KE.KDictOf
import PyProof.Rows.Exc
import PyProof.RulesTry
import PyProof.ForAppend
import PyProof.Rows.Tup
import PyProof.CollectWalk
import PyProof.Rows.DictListVals
import PyProof.AutoSeq1
import PyProof.FactsAll.list_3
import KE.KDictSum
import PyProof.Rows.SortStr
import PyProof.Rows.SortWalk
import PyProof.SetKind
import PyProof.Rows.SetObj
import PyProof.DictKinds
import PyProof.DictIter
import PyProof.MakeMany
import PyProof.WalksS
import PyProof.Walks
import PyProof.Seq
import PyProof.TupleIter
import PyProof.FactsAll.set_1
import PyProof.ForAny
import PyProof.Rows.SetFrom
import PyProof.Rows.StrMeet
import PySem.Challenge.RW_clashbook_k02_names_leaves_depth
set_option Elab.async false
set_option linter.all false
set_option maxRecDepth 100000
/-! THE HAND LAYER, for ints, bools, texts, own classes, LISTS and tuples (index, slices, in, append, pop ..), calls, loops. Paste it whole ahead of your own text; what your proof does not reach may be deleted. -/
namespace L2
open PySem PySem.Spec PyProof.Rows

/-- a key: an int or a str -/
abbrev Key := Sum Int Str
def keyIs : Key → Value → Bool
  | .inl k, v => Value.isInt k v
  | .inr x, v => Value.isStrOf x v
def keyH (w : World) : Key → Int
  | .inl k => hashInt k
  | .inr x => hashStr w x
theorem keyIs_shape : ∀ {k : Key} {v : Value}, keyIs k v = true → (∃ i t, k = Sum.inl i ∧ v = Value.int i t) ∨ (∃ x t, k = Sum.inr x ∧ v = Value.str x t)
  | .inl i, v, h => by
    obtain ⟨t, e⟩ := Value.isInt_shape (k := i) (v := v) h
    exact .inl ⟨i, t, rfl, e⟩
  | .inr x, v, h => by
    obtain ⟨t, e⟩ := Value.isStrOf_shape (x := x) (v := v) h
    exact .inr ⟨x, t, rfl, e⟩
theorem keyIs_int (i : Int) (t : Tok) : keyIs (.inl i) (.int i t) = true := by simp [keyIs, Value.isInt]
theorem keyIs_str (x : Str) (t : Tok) : keyIs (.inr x) (.str x t) = true := by simp [keyIs, Value.isStrOf]
theorem key_ll (a b : Int) : decide ((Sum.inl a : Key) = Sum.inl b) = (a == b) := by
  by_cases e : a = b
  · subst e; simp
  · have h : ¬ (Sum.inl a : Key) = Sum.inl b := fun q => e (Sum.inl.inj q)
    rw [decide_eq_false h]
    exact (beq_eq_false_iff_ne.mpr e).symm
theorem key_rr (a b : Str) : decide ((Sum.inr a : Key) = Sum.inr b) = decide (a = b) := by
  by_cases e : a = b
  · subst e; simp
  · have h : ¬ (Sum.inr a : Key) = Sum.inr b := fun q => e (Sum.inr.inj q)
    rw [decide_eq_false h, decide_eq_false e]
theorem key_lr (a : Int) (b : Str) : decide ((Sum.inl a : Key) = Sum.inr b) = false := decide_eq_false (fun q => nomatch q)
theorem key_rl (a : Str) (b : Int) : decide ((Sum.inr a : Key) = Sum.inl b) = false := decide_eq_false (fun q => nomatch q)

def mixKind (prog : Program) (w : World) : PySem.KeyKind prog w Key where
  is := keyIs
  hash := keyH w
  inj := fun v a b ha hb => by
    rcases keyIs_shape ha with ⟨i, t, rfl, rfl⟩ | ⟨x, t, rfl, rfl⟩
    · rcases keyIs_shape hb with ⟨j, u, rfl, e⟩ | ⟨y, u, rfl, e⟩
      · injection e with e1 _; rw [e1]
      · exact nomatch e
    · rcases keyIs_shape hb with ⟨j, u, rfl, e⟩ | ⟨y, u, rfl, e⟩
      · exact nomatch e
      · injection e with e1 _; rw [e1]
  byValue := fun k v h => by
    rcases keyIs_shape h with ⟨i, t, rfl, rfl⟩ | ⟨x, t, rfl, rfl⟩ <;> rfl
  pyHash := fun hv h => by
    rcases keyIs_shape hv with ⟨i, t, rfl, rfl⟩ | ⟨x, t, rfl, rfl⟩
    · exact wpAny_pyHash_int h
    · exact wpAny_pyHash_str h
  eqBool := fun hu hv h => by
    rcases keyIs_shape hu with ⟨i, t, rfl, rfl⟩ | ⟨x, t, rfl, rfl⟩
    · rcases keyIs_shape hv with ⟨j, u, rfl, rfl⟩ | ⟨y, u, rfl, rfl⟩
      · rw [key_ll] at h; exact wpAny_eqBool_int h
      · rw [key_lr] at h; exact SeqAt.EqAt.int_str i t y u _ _ _ _ h
    · rcases keyIs_shape hv with ⟨j, u, rfl, rfl⟩ | ⟨y, u, rfl, rfl⟩
      · rw [key_rl] at h; exact SeqAt.EqAt.str_int x t j u _ _ _ _ h
      · rw [key_rr] at h; exact wpAny_eqBool_str h
  «strs» := fun k x t v h => by
    rcases keyIs_shape h with ⟨i, u, rfl, e⟩ | ⟨y, u, rfl, e⟩
    · exact nomatch e
    · injection e with e1 _
      subst e1
      cases v <;> rfl

theorem mixKind_is (prog : Program) (w : World) (k : Key) (v : Value) : (mixKind prog w).is k v = keyIs k v := rfl
theorem mixKind_int (prog : Program) (w : World) (i : Int) (t : Tok) : (mixKind prog w).is (.inl i) (.int i t) = true := keyIs_int i t
theorem mixKind_str (prog : Program) (w : World) (x : Str) (t : Tok) : (mixKind prog w).is (.inr x) (.str x t) = true := keyIs_str x t
end L2

namespace L2
open PySem PySem.Spec PyProof.Rows

/-- a value, without the heap -/
inductive V where
  | non | bl (b : Bool) | int (i : Int) | str (x : Str) | byt (b : Array UInt8) | flt (b : UInt64) | ref (a : Addr) | ty (n : String)
  deriving DecidableEq

def RelV : V → Value → Prop
  | .non, u => u = Value.none
  | .bl b, u => u = Value.bool b
  | .int i, u => ∃ t, u = Value.int i t
  | .str x, u => ∃ t, u = Value.str x t
  | .byt b, u => ∃ t, u = Value.bytes b t
  | .flt b, u => ∃ t, u = Value.float b t
  | .ref a, u => u = Value.ref a
  | .ty n, u => u = Value.type n

abbrev Vals : List V → List Value → Prop := Paired RelV
theorem Vals.length {xs : List V} {us : List Value} (r : Vals xs us) : xs.length = us.length := Paired.length r
theorem Vals.get : ∀ {xs : List V} {us : List Value} {i : Nat} {x : V}, Vals xs us → xs[i]? = some x → ∃ u, us[i]? = some u ∧ RelV x u
  | _, _, _, _, .nil, e => by simp at e
  | _, _, 0, _, .cons r _, e => by simp at e; subst e; exact ⟨_, rfl, r⟩
  | _, _, i + 1, x, .cons _ t, e => by
    obtain ⟨u, h1, h2⟩ := Vals.get (i := i) (x := x) t (by simpa using e)
    exact ⟨u, by simpa using h1, h2⟩
theorem Vals.set {x : V} {u : Value} (r : RelV x u) : ∀ {xs : List V} {us : List Value} (i : Nat), Vals xs us → Vals (xs.set i x) (us.set i u)
  | _, _, _, .nil => .nil
  | _, _, 0, .cons _ t => .cons r t
  | _, _, i + 1, .cons q t => .cons q (Vals.set r i t)
theorem Vals.append : ∀ {xs ys : List V} {us ws : List Value}, Vals xs us → Vals ys ws → Vals (xs ++ ys) (us ++ ws)
  | _, _, _, _, .nil, s => s
  | _, _, _, _, .cons r t, s => .cons r (Vals.append t s)
theorem Vals.take : ∀ {xs : List V} {us : List Value} (n : Nat), Vals xs us → Vals (xs.take n) (us.take n)
  | _, _, 0, _ => .nil
  | _, _, _ + 1, .nil => .nil
  | _, _, n + 1, .cons r t => .cons r (Vals.take n t)
theorem Vals.drop : ∀ {xs : List V} {us : List Value} (n : Nat), Vals xs us → Vals (xs.drop n) (us.drop n)
  | _, _, 0, r => r
  | _, _, _ + 1, .nil => .nil
  | _, _, n + 1, .cons _ t => Vals.drop n t
theorem Vals.none_of : ∀ {xs : List V} {us : List Value} {i : Nat}, Vals xs us → xs[i]? = none → us[i]? = none := fun {xs us i} r e => by
  have h1 := r.length
  have h2 : xs.length ≤ i := List.getElem?_eq_none_iff.mp e
  exact List.getElem?_eq_none_iff.mpr (by omega)

def RelO : Option V → Option Value → Prop
  | some v, some u => RelV v u
  | none, none => True
  | _, _ => False
def KV {κ : Type} : List (κ × V) → List (κ × Value) → Prop := Paired fun (p : κ × V) (q : κ × Value) => p.1 = q.1 ∧ RelV p.2 q.2

/-- a key of a dict (00_mix): an int or a text -/
def kV : Key → V
  | .inl i => .int i
  | .inr x => .str x

/-- what stands at a tracked address -/
inductive HO where
  /-- a list -/
  | lst (xs : List V)
  /-- a tuple (never changes) -/
  | tup (xs : List V)
  /-- a dict whose keys are ints and texts; one whose keys are tuples of ints and texts (the empty one is both) -/
  | dK (kvs : List (Key × V)) | dT (kvs : List (List Key × V))
  /-- a set of ints: its members, its size -/
  | set (S : Int → Bool) (n : Nat)
  /-- an instance of the class at C, its dict at dx, its attributes -/
  | ins (C dx : Addr) (fs : List (Str × V))
  /-- the dict of the instance at x -/
  | own (x : Addr)
  /-- the dict of an exception -/
  | xd (fs : List (Str × V))
  /-- a bound method, f of x -/
  | met (f x : Addr)
  /-- a range object lo, lo + 1, .. below hi -/
  | rng (lo hi : Int)
  /-- a thing that is known to the object (the script; a dict while a loop walks it): read, never written while it is so -/
  | frz (o : Obj) (u : HO)
  /-- a code object's table -/
  | tbl (ps : Array Value)
  /-- any other thing, by what is true of its one object (a def of one's own: SetO a S n := HO.ext fun h => ..) -/
  | ext (φ : Heap → Prop)

abbrev Hp := Addr → Option HO
def upd (H : Hp) (a : Addr) (o : HO) : Hp := fun b => if b = a then some o else H b
theorem upd_same {H : Hp} {a : Addr} {o : HO} : upd H a o a = some o := by unfold upd; rw [if_pos rfl]
theorem upd_ne {H : Hp} {a b : Addr} {o : HO} (h : b ≠ a) : upd H a o b = H b := by unfold upd; rw [if_neg h]
theorem upd_upd {H : Hp} {a : Addr} {o u : HO} : upd (upd H a o) a u = upd H a u := by
  funext b; unfold upd; split <;> rfl
/-- two objects of different content stand apart -/
theorem ne_of {H : Hp} {a b : Addr} {o u : HO} (h : H a = some o) (h' : H b = some u) (d : o ≠ u) : a ≠ b := by
  intro e; subst e; rw [h] at h'; exact d (Option.some.inj h')
theorem ne_of_none {H : Hp} {a b : Addr} {o : HO} (h : H a = some o) (h' : H b = none) : a ≠ b := by
  intro e; subst e; rw [h] at h'; cases h'

section
variable (P : Program) (w : World)
def ObjOk (H : Hp) (h : Heap) (a : Addr) : HO → Prop
  | .lst xs => xs.length ≤ sizeLine ∧ ∃ (its : List Value) (n : Nat), Vals xs its ∧ h.get? a = some { cls := .type "list", data := .seq its.toArray n }
  | .tup xs => xs.length ≤ sizeLine ∧ ∃ its : List Value, Vals xs its ∧ IsTup h a its.toArray
  | .dK kvs => kvs.length ≤ sizeLine ∧ (a == sysModules) = false ∧ ∃ vs, KV kvs vs ∧ h.DictOf (mixKind P w) a vs
  | .dT kvs => kvs.length ≤ sizeLine ∧ (a == sysModules) = false ∧ ∃ xs : List (List Key × Addr × Value),
      Paired (fun (p : List Key × V) (q : List Key × Addr × Value) => p.1 = q.1 ∧ H q.2.1 = some (.tup (p.1.map kV)) ∧ RelV p.2 q.2.2) kvs xs ∧
      ∃ o es ep, h.get? a = some o ∧ o.ExactDict ∧ o.data = .dict es ep ∧ es.toList = xs.map (entryOfKey (tupleKind (mixKind P w))) ∧ (xs.map (·.1)).Nodup
  | .set S n => h.SetOf (intKind P w) a S n
  | .ins C dx fs => H dx = some (.own a) ∧ fs.length ≤ 1000 ∧ dx ≠ a ∧ h.get? a = some (PySem.W.instObj C dx) ∧
      ∃ mA, h.Ns1 dx mA ∧ (∀ f, RelO (fs.lookup f) (mA f)) ∧ PySem.Within mA (fs.map (·.1))
  | .own _ => ∃ o, h.get? a = some o
  | .xd fs => ∃ mA, h.Ns1 a mA ∧ ∀ f, RelO (fs.lookup f) (mA f)
  | .rng lo hi => ∃ t u v, h.get? a = some { cls := .type "range", data := .fields #[.int lo t, .int hi u, .int 1 v] }
  | .frz o u => h.get? a = some o ∧ ObjOk H h a u
  | .tbl ps => h.get? a = some { cls := .none, data := .fields ps }
  | .met f x => h.get? a = some (PySem.W.methodObj (.ref f) (.ref x))
  | .ext φ => φ h ∧ (∃ o, h.get? a = some o) ∧ ∀ h1 h2 : Heap, φ h1 → (∀ o, h1.get? a = some o → h2.get? a = some o) → φ h2
/-- the abstract heap is held -/
def HOk (H : Hp) (h : Heap) : Prop := ∀ a o, H a = some o → ObjOk P w H h a o
end

section
variable {P : Program} {w : World} {H H' : Hp} {h h' : Heap} {a : Addr} {o : HO}
theorem ObjOk.lt (x : ObjOk P w H h a o) : a < h.objs.size := by
  cases o with
  | lst xs => obtain ⟨_, _, _, _, e⟩ := x; exact Heap.lt_size e
  | tup xs => obtain ⟨_, _, _, p⟩ := x; exact p.lt
  | dK kvs => obtain ⟨_, _, _, _, o, _, _, e, _⟩ := x; exact Heap.lt_size e
  | dT kvs => obtain ⟨_, _, _, _, o, _, _, e, _⟩ := x; exact Heap.lt_size e
  | set S n => obtain ⟨o, _, _, _, e, _⟩ := x; exact Heap.lt_size e
  | ins C dx fs => obtain ⟨_, _, _, e, _⟩ := x; exact Heap.lt_size e
  | own y => obtain ⟨_, e⟩ := x; exact Heap.lt_size e
  | xd fs => obtain ⟨_, ⟨_, _, _, e, _⟩, _⟩ := x; exact Heap.lt_size e
  | rng lo hi => obtain ⟨_, _, _, e⟩ := x; exact Heap.lt_size e
  | frz ob u => obtain ⟨e, _⟩ := x; exact Heap.lt_size e
  | tbl ps => exact Heap.lt_size (show h.get? a = some _ from x)
  | met f y => exact Heap.lt_size (show h.get? a = some _ from x)
  | ext φ => obtain ⟨_, ⟨_, e⟩, _⟩ := x; exact Heap.lt_size e
theorem Paired.mapP {α β : Type} {F G : α → β → Prop} : ∀ {l₁ : List α} {l₂ : List β}, Paired F l₁ l₂ → (∀ a b, F a b → G a b) → Paired G l₁ l₂
  | _, _, .nil, _ => .nil
  | _, _, .cons r t, f => .cons (f _ _ r) (Paired.mapP t f)
theorem Paired.imp' {α β : Type} {F G : α → β → Prop} (f : ∀ a b, F a b → G a b) {l₁ : List α} {l₂ : List β} (r : Paired F l₁ l₂) : Paired G l₁ l₂ := Paired.mapP r f
/-- what an object's description leans on: its own object, its own dict, the tuples -/
theorem ObjOk.stay (x : ObjOk P w H h a o) (k : ∀ b u, (b = a ∨ H b = some (.own a)) → h.get? b = some u → h'.get? b = some u)
    (ho : ∀ b, H b = some (.own a) → H' b = some (.own a)) (ht : ∀ b xs, H b = some (.tup xs) → H' b = some (.tup xs)) : ObjOk P w H' h' a o := by
  induction o with
  | lst xs => obtain ⟨z, its, n, r, e⟩ := x; exact ⟨z, its, n, r, k _ _ (.inl rfl) e⟩
  | tup xs => obtain ⟨z, its, r, ob, e, c⟩ := x; exact ⟨z, its, r, ob, k _ _ (.inl rfl) e, c⟩
  | dK kvs => obtain ⟨z, y, vs, r, ob, es, ep, e, c⟩ := x; exact ⟨z, y, vs, r, ob, es, ep, k _ _ (.inl rfl) e, c⟩
  | dT kvs =>
    obtain ⟨z, y, xs, r, ob, es, ep, e, c⟩ := x
    exact ⟨z, y, xs, Paired.mapP r fun p q z => ⟨z.1, ht _ _ z.2.1, z.2.2⟩, ob, es, ep, k _ _ (.inl rfl) e, c⟩
  | set S n => obtain ⟨ob, es, ep, t, e, c⟩ := x; exact ⟨ob, es, ep, t, k _ _ (.inl rfl) e, c⟩
  | ins C dx fs =>
    obtain ⟨d, z, ne, e, mA, ⟨od, es, ep, e2, c⟩, r⟩ := x
    exact ⟨ho _ d, z, ne, k _ _ (.inl rfl) e, mA, ⟨od, es, ep, k _ _ (.inr d) e2, c⟩, r⟩
  | own y => obtain ⟨ob, e⟩ := x; exact ⟨ob, k _ _ (.inl rfl) e⟩
  | xd fs => obtain ⟨mA, ⟨od, es, ep, e, c⟩, r⟩ := x; exact ⟨mA, ⟨od, es, ep, k _ _ (.inl rfl) e, c⟩, r⟩
  | rng lo hi => obtain ⟨t, u, v, e⟩ := x; exact ⟨t, u, v, k _ _ (.inl rfl) e⟩
  | frz ob u ih => obtain ⟨e, q⟩ := x; exact ⟨k _ _ (.inl rfl) e, ih q⟩
  | tbl ps =>
    have e : h.get? a = some { cls := .none, data := .fields ps } := x
    show h'.get? a = some { cls := .none, data := .fields ps }
    exact k a _ (.inl rfl) e
  | met f y =>
    have e : h.get? a = some (PySem.W.methodObj (.ref f) (.ref y)) := x
    show h'.get? a = some (PySem.W.methodObj (.ref f) (.ref y))
    exact k a _ (.inl rfl) e
  | ext φ => obtain ⟨p, ⟨o, e⟩, st⟩ := x; exact ⟨st _ _ p fun o q => k _ _ (.inl rfl) q, ⟨o, k _ _ (.inl rfl) e⟩, st⟩
theorem HOk.lt (x : HOk P w H h) (e : H a = some o) : a < h.objs.size := (x a o e).lt
theorem HOk.fresh (x : HOk P w H h) (e : h.objs.size ≤ a) : H a = none := by
  cases q : H a with
  | none => rfl
  | some u => exact absurd (Nat.lt_of_lt_of_le (x.lt q) e) (Nat.lt_irrefl _)
/-- every object of the heap is kept -/
theorem HOk.kept (x : HOk P w H h) (k : ∀ b u, h.get? b = some u → h'.get? b = some u) : HOk P w H h' := fun a o e =>
  (x a o e).stay (fun b u _ q => k b u q) (fun _ q => q) fun _ _ q => q
/-- a new object is laid and tracked -/
theorem HOk.laid (x : HOk P w H h) (k : ∀ b u, h.get? b = some u → h'.get? b = some u) (hp : h.objs.size ≤ a) (new : ObjOk P w (upd H a o) h' a o) : HOk P w (upd H a o) h' := fun b u e => by
  have hn := x.fresh hp
  by_cases hb : b = a
  · subst hb; rw [upd_same] at e; cases e; exact new
  · rw [upd_ne hb] at e
    exact (x b u e).stay (fun c v _ q => k c v q) (fun c q => by rw [upd_ne (ne_of_none q hn)]; exact q) fun c xs q => by rw [upd_ne (ne_of_none q hn)]; exact q
end

/-- what may be read as u: it is u, or a known u -/
def Rd (H : Hp) (a : Addr) (u : HO) : Prop := H a = some u ∨ ∃ o, H a = some (.frz o u)
theorem Rd.of {H : Hp} {a : Addr} {u : HO} (h : H a = some u) : Rd H a u := .inl h
theorem Rd.ok {P : Program} {w : World} {H : Hp} {h : Heap} {a : Addr} {u : HO} (r : Rd H a u) (x : HOk P w H h) : ObjOk P w H h a u := by
  rcases r with r | ⟨o, r⟩
  · exact x a u r
  · obtain ⟨_, q⟩ := x a _ r
    exact q
/-- what may be written -/
def Mut : Option HO → Prop
  | some (.lst _) => True
  | some (.dK _) => True
  | some (.dT _) => True
  | some (.set _ _) => True
  | some (.ins _ _ _) => True
  | some (.ext _) => True
  | _ => False
section
variable {P : Program} {w : World} {H : Hp} {h h' : Heap} {x e : Addr} {o' : HO}
/-- the object at e is changed: x itself, or the dict of the instance x -/
theorem HOk.write (ok : HOk P w H h) (mu : Mut (H x)) (he : e = x ∨ H e = some (.own x)) (k : ∀ b u, b ≠ e → h.get? b = some u → h'.get? b = some u) (heo : ∃ u, h'.get? e = some u)
    (new : ObjOk P w (upd H x o') h' x o') : HOk P w (upd H x o') h' := fun b u q => by
  have nown : ∀ c y, H c = some (.own y) → c ≠ x := fun c y r z => by subst z; rw [r] at mu; exact mu
  have ntup : ∀ c xs, H c = some (.tup xs) → c ≠ x := fun c xs r z => by subst z; rw [r] at mu; exact mu
  by_cases hb : b = x
  · subst hb; rw [upd_same] at q; cases q; exact new
  · rw [upd_ne hb] at q
    by_cases hbe : b = e
    · have q' : H b = some (.own x) := by
        rcases he with z | z
        · exact absurd (hbe.trans z) hb
        · rw [hbe]; exact z
      rw [q] at q'; cases q'
      obtain ⟨v, hv⟩ := heo
      exact ⟨v, by rw [hbe]; exact hv⟩
    · refine (ok b u q).stay (fun c v hc r => k c v ?_ r) (fun c r => by rw [upd_ne (nown c b r)]; exact r) fun c xs r => by rw [upd_ne (ntup c xs r)]; exact r
      rcases hc with rfl | hc
      · exact hbe
      · rintro rfl
        rcases he with z | z
        · exact nown c b hc z
        · rw [hc] at z; cases z; exact hb rfl
end

/-! ### kept unless tracked; of the frames at fs (the callers') the slots may change (an exception that passes writes there); of the records at ex (iterators) nothing is said -/
structure Un (fs ex : List Addr) (H H' : Hp) (h h' : Heap) : Prop where
  keep : ∀ b o, h.get? b = some o → H b = none → b ∉ fs → b ∉ ex → h'.get? b = some o
  slot : ∀ b o, h.get? b = some o → H b = none → b ∈ fs → b ∉ ex → ∃ sl, h'.get? b = some { o with slots := sl }
  free : ∀ b o, h.get? b = some o → H b = none → b ∉ ex → H' b = none
  there : ∀ b o, h.get? b = some o → b ∉ ex → ∃ o', h'.get? b = some o'
  tups : ∀ b xs, H b = some (.tup xs) → H' b = some (.tup xs)
  frzs : ∀ b o u, H b = some (.frz o u) → H' b = some (.frz o u)
  tbls : ∀ b ps, H b = some (.tbl ps) → ∃ more, H' b = some (.tbl (ps ++ more))
section
variable {fs fs' ex ex' : List Addr} {H H1 H2 : Hp} {h h1 h2 h' : Heap} {a x e : Addr} {o : HO}
theorem Un.any (u : Un fs ex H H1 h h1) {b : Addr} {ob : Obj} (q : h.get? b = some ob) (n : H b = none) (hx : b ∉ ex) : ∃ sl, h1.get? b = some { ob with slots := sl } := by
  by_cases hb : b ∈ fs
  · exact u.slot b ob q n hb hx
  · exact ⟨ob.slots, u.keep b ob q n hb hx⟩
theorem Un.trans (a : Un fs ex H H1 h h1) (b : Un fs ex H1 H2 h1 h2) : Un fs ex H H2 h h2 where
  keep := fun c ob q n hc hx => b.keep c ob (a.keep c ob q n hc hx) (a.free c ob q n hx) hc hx
  slot := fun c ob q n hc hx => by
    obtain ⟨sl, e1⟩ := a.slot c ob q n hc hx
    obtain ⟨sl', e2⟩ := b.slot c _ e1 (a.free c ob q n hx) hc hx
    exact ⟨sl', e2⟩
  free := fun c ob q n hx => by
    obtain ⟨o', e1⟩ := a.there c ob q hx
    exact b.free c o' e1 (a.free c ob q n hx) hx
  there := fun c ob q hx => by
    obtain ⟨o', e1⟩ := a.there c ob q hx
    exact b.there c o' e1 hx
  tups := fun c xs q => b.tups c xs (a.tups c xs q)
  frzs := fun c ob xs q => b.frzs c ob xs (a.frzs c ob xs q)
  tbls := fun c ps q => by
    obtain ⟨m1, e1⟩ := a.tbls c ps q
    obtain ⟨m2, e2⟩ := b.tbls c _ e1
    exact ⟨m1 ++ m2, by rw [e2, Array.append_assoc]⟩
theorem Un.kept (k : ∀ b u, h.get? b = some u → h'.get? b = some u) : Un fs ex H H h h' :=
  ⟨fun b ob q _ _ _ => k b ob q, fun b ob q _ _ _ => ⟨ob.slots, k b ob q⟩, fun _ _ _ n _ => n, fun b ob q _ => ⟨ob, k b ob q⟩, fun _ _ q => q, fun _ _ _ q => q, fun _ ps q => ⟨#[], by rw [q]; simp⟩⟩
theorem Un.refl : Un fs ex H H h h := Un.kept fun _ _ q => q
theorem Un.laid (k : ∀ b u, h.get? b = some u → h'.get? b = some u) (hp : h.objs.size ≤ a) (hn : H a = none) : Un fs ex H (upd H a o) h h' where
  keep := fun b u q _ _ _ => k b u q
  slot := fun b u q _ _ _ => ⟨u.slots, k b u q⟩
  free := fun b u q n _ => by rw [upd_ne (Nat.ne_of_lt (Nat.lt_of_lt_of_le (Heap.lt_size q) hp))]; exact n
  there := fun b u q _ => ⟨u, k b u q⟩
  tups := fun b xs q => by rw [upd_ne (ne_of_none q hn)]; exact q
  frzs := fun b u xs q => by rw [upd_ne (ne_of_none q hn)]; exact q
  tbls := fun b ps q => ⟨#[], by rw [upd_ne (ne_of_none q hn), q]; simp⟩
theorem Un.write (mu : Mut (H x)) (he : e = x ∨ H e = some (.own x)) (k : ∀ b u, b ≠ e → h.get? b = some u → h'.get? b = some u) (heo : ∃ u, h'.get? e = some u) : Un fs ex H (upd H x o) h h' := by
  have hx : ∀ b, H b = none → b ≠ x := fun b n z => by subst z; rw [n] at mu; exact mu
  have hb : ∀ b, H b = none → b ≠ e := fun b n z => by
    subst z
    rcases he with r | r
    · exact hx b n r
    · rw [n] at r; cases r
  have hm : ∀ b u, H b = some u → ¬ Mut (some u) → b ≠ x := fun b u q nm z => by subst z; rw [q] at mu; exact nm mu
  refine ⟨fun b u q n _ _ => k b u (hb b n) q, fun b u q n _ _ => ⟨u.slots, k b u (hb b n) q⟩, fun b u q n _ => by rw [upd_ne (hx b n)]; exact n, fun b u q _ => ?_,
    fun b xs q => by rw [upd_ne (hm b _ q fun z => z)]; exact q, fun b u xs q => by rw [upd_ne (hm b _ q fun z => z)]; exact q, fun b ps q => ⟨#[], by rw [upd_ne (hm b _ q fun z => z), q]; simp⟩⟩
  by_cases hbe : b = e
  · subst hbe; exact heo
  · exact ⟨u, k b u hbe q⟩
theorem Un.mono (u : Un fs ex H H1 h h1) (hs : ∀ b ∈ fs, b ∈ fs') (hx : ∀ b ∈ ex, b ∈ ex') : Un fs' ex' H H1 h h1 :=
  ⟨fun b ob q n hb he => u.keep b ob q n (fun z => hb (hs b z)) fun z => he (hx b z), fun _ _ q n _ he => u.any q n fun z => he (hx _ z), fun b ob q n he => u.free b ob q n fun z => he (hx b z), fun b ob q he => u.there b ob q fun z => he (hx b z), u.tups, u.frzs, u.tbls⟩
end

/-! ### the heap without what is tracked -/
def trk (h : Heap) (H : Hp) : List Addr := (List.range h.objs.size).filter fun a => (H a).isSome
def hidT (h : Heap) (H : Hp) : Heap := PySem.W.hideAll h (trk h H)
theorem hidT_size (h : Heap) (H : Hp) : (hidT h H).objs.size = h.objs.size := PySem.W.hideAll_size _ _
theorem hidT_get {h : Heap} {H : Hp} {b : Addr} {o : Obj} (e : h.get? b = some o) (n : H b = none) : (hidT h H).get? b = some o :=
  PySem.W.hideAll_get _ e fun hm => by
    have q : (H b).isSome = true := (List.mem_filter.mp hm).2
    rw [n] at q; simp at q
theorem of_hidT {h : Heap} {H : Hp} {b : Addr} {o : Obj} (e : (hidT h H).get? b = some o) : h.get? b = some o ∧ H b = none := by
  have e' : h.get? b = some o := PySem.W.of_hideAll (trk h H) e
  refine ⟨e', ?_⟩
  cases q : H b with
  | none => rfl
  | some x =>
    have hm : b ∈ trk h H := List.mem_filter.mpr ⟨List.mem_range.mpr (Heap.lt_size e'), by simp [q]⟩
    have z : (hidT h H).get? b = none := PySem.W.hideAll_none (trk h H) hm
    rw [z] at e; cases e

/-! ### OpenK's ledger, filled with every new object but one -/
def allNews (g h : Heap) (L : Addr) : List (Addr × Obj) := (List.range h.objs.size).filterMap fun a => if a = L ∨ (g.get? a).isSome = true then none else (h.get? a).map fun o => (a, o)
theorem mem_allNews {g h : Heap} {L a : Addr} {o : Obj} (h1 : a ≠ L) (h2 : g.get? a = none) (h3 : h.get? a = some o) : (a, o) ∈ allNews g h L :=
  List.mem_filterMap.mpr ⟨a, List.mem_range.mpr (Heap.lt_size h3), by simp [h1, h2, h3]⟩
theorem of_mem_allNews {g h : Heap} {L : Addr} {p : Addr × Obj} (hp : p ∈ allNews g h L) : p.1 ≠ L ∧ g.get? p.1 = none ∧ h.get? p.1 = some p.2 := by
  obtain ⟨b, _, e⟩ := List.mem_filterMap.mp hp
  split at e
  · cases e
  · rename_i hn
    cases q : h.get? b with
    | none => rw [q] at e; simp at e
    | some u =>
      rw [q] at e
      simp only [Option.map_some, Option.some.injEq] at e
      subst e
      refine ⟨fun z => hn (.inl z), ?_, q⟩
      show g.get? b = none
      cases r : g.get? b with
      | none => rfl
      | some v => exact (hn (.inr (by simp [r]))).elim
def rest (g h : Heap) (L d : Addr) : List (Addr × Obj) := (allNews g h L).filter fun p => decide (p.1 ≠ d)
theorem rest_ne {g h : Heap} {L d : Addr} : ∀ p ∈ rest g h L d, p.1 ≠ d := fun p hp => of_decide_eq_true (List.mem_filter.mp hp).2
theorem mem_rest {g h : Heap} {L d a : Addr} {o : Obj} (h1 : a ≠ L) (h2 : g.get? a = none) (h3 : h.get? a = some o) (h4 : a ≠ d) : (a, o) ∈ rest g h L d :=
  List.mem_filter.mpr ⟨mem_allNews h1 h2 h3, decide_eq_true h4⟩
theorem news_all {g h : Heap} {L : Addr} : News g L h (allNews g h L) := fun p hp => let ⟨a, b, c⟩ := of_mem_allNews hp; ⟨c, a, b⟩
theorem news_at {g h : Heap} {L d : Addr} {o : Obj} (h1 : d ≠ L) (h2 : g.get? d = none) (h3 : h.get? d = some o) : News g L h ((d, o) :: rest g h L d) := fun p hp => by
  rcases List.mem_cons.mp hp with rfl | hp
  · exact ⟨h3, h1, h2⟩
  · exact news_all p (List.mem_filter.mp hp).1
/-- behind a rule that changed d alone: all else but the frame is kept -/
theorem kept_of_news {g h h' : Heap} {L d : Addr} {m : Str → Option Value} (k : ∀ b o, g.get? b = some o → h.get? b = some o) (F : Fr g L h' m) (N : News g L h' (rest g h L d)) :
    ∀ b o, b ≠ L → b ≠ d → h.get? b = some o → h'.get? b = some o := fun b o h1 h2 e => by
  cases q : g.get? b with
  | some u =>
    have := k b u q
    rw [e] at this; cases this
    exact F.keep b _ q
  | none => exact (N (b, o) (mem_rest h1 q e h2)).1
end L2

namespace L2
open PySem PySem.Spec PyProof.Rows

/-- the module's facts, over the base: the heap at the law's entry without what is tracked there -/
structure Mod (K : PySem.W.Frag) (mg : Str → Option Value) (base : Heap) : Prop where
  kin : K.In base
  glob : base.Ns mainGlobals mg
  blt : ∃ mb, base.Ns builtinsNs mb ∧ ∀ x : Str, x ≠ "__name__" → mb x = bootBuiltins x
  nolimit : base.NoLimit

/-- the context: a def's body (or a comprehension's block) running. base: fixed through the whole law; s₀, H₀: the entry; outer: the frames whose slots others may change (a def's callers); stack: all frames that run;
   ex: iterators that were made ahead of the entry and are walked here (a comprehension's); fn: the names whose cells were made at the entry (a def: all; a comprehension's block: its own); calm: not within an except suite; pn: pins that every state bears; xe: what is wanted of an exception that leaves the code -/
structure Cx where
  prog : Program
  w : World
  K : PySem.W.Frag
  mg : Str → Option Value
  base : Heap
  A : Around
  N : List Str
  s₀ : Shared
  H₀ : Hp
  env : Env
  outer : List Env
  stack : List Env
  ex : List Addr
  fn : Str → Bool
  calm : Bool
  pn : List (Addr × Obj)
  xe : Value → Shared → Prop
/-- the callers' frames -/
def frs (l : List Env) : List Addr := l.filterMap (·.frame)
abbrev Cx.fs (X : Cx) : List Addr := frs X.outer

def Vis (sc : Scope) (x : Str) : Prop := sc.names.lookup x = some .local ∨ sc.names.lookup x = some .cell ∨ sc.names.lookup x = some .free
def Loc (sc : Scope) (x : Str) : Prop := sc.names.lookup x = some .local ∨ sc.names.lookup x = some .cell
def Look (env : Env) (h : Heap) (m : Str → Option Value) (x : Str) (u : Value) : Prop :=
  (env.kindOf x = some .local ∧ m x = some u) ∨ ((env.kindOf x = some .cell ∨ env.kindOf x = some .free) ∧ ∃ c, env.cells.lookup x = some c ∧ h.IsCell c (some u))

structure Cx.Ok (X : Cx) : Prop where
  mod : Mod X.K X.mg X.base
  kind : X.env.scope.kind = .function
  glob : X.env.globals = mainGlobals
  blt : X.env.builtins = builtinsNs
  above : X.s₀.heap.objs.size ≤ X.env.locals
  inj : ∀ x y c, X.env.cells.lookup x = some c → X.env.cells.lookup y = some c → x = y
  has : ∀ x, (X.env.kindOf x = some .cell ∨ X.env.kindOf x = some .free) → ∃ c, X.env.cells.lookup x = some c
  cab : ∀ x c, X.fn x = true → X.env.cells.lookup x = some c → X.s₀.heap.objs.size ≤ c
  hd : X.calm = true → X.A.handled = none
  frames : X.A.frames = some X.stack
  stk : X.stack = X.outer ∨ (X.stack = X.env :: X.outer ∧ X.env.frame = some X.env.locals)
  exf : ∀ b ∈ X.ex, b ≠ X.env.locals ∧ ∀ x c, X.env.cells.lookup x = some c → c ≠ b
  bs : ∀ b o, X.base.get? b = some o → X.s₀.heap.get? b = some o ∧ X.H₀ b = none
  bsz : X.base.objs.size ≤ X.s₀.heap.objs.size
  noex : ∀ b o, X.base.get? b = some o → b ∉ X.ex
  exfs : ∀ b ∈ X.ex, b ∉ X.fs
  funs : X.s₀.heap.FunFrames X.base X.outer
  frf : ∀ b ∈ X.fs, X.H₀ b = none

structure Inv (X : Cx) (pins : List (Addr × Obj)) (σ : List (Option V)) (H : Hp) (s : Shared) : Prop where
  ok : X.Ok
  os : s.os = X.s₀.os
  bare : AllBare s.gens
  base : Un X.fs X.ex X.H₀ H X.s₀.heap s.heap
  loc : ∃ m, s.heap.Ns X.env.locals m ∧ ∀ (i : Nat) (x : Str) (v : V), X.N[i]? = some x → σ[i]? = some (some v) → Vis X.env.scope x → ∃ u, RelV v u ∧ Look X.env s.heap m x u
  cell : ∀ x c, X.env.cells.lookup x = some c → ∃ v, s.heap.IsCell c v
  free : H X.env.locals = none
  freeC : ∀ x c, X.env.cells.lookup x = some c → H c = none
  pin : ∀ p ∈ X.pn ++ pins, s.heap.get? p.1 = some p.2 ∧ H p.1 = none ∧ p.1 ≠ X.env.locals ∧ p.1 ∉ X.fs ∧ ∀ v, p.2.data ≠ .cell v
  hok : HOk X.prog X.w H s.heap
  len : σ.length = X.N.length

section
variable {X : Cx} {pins : List (Addr × Obj)} {σ : List (Option V)} {H H' : Hp} {s : Shared} {h' : Heap}

theorem Cx.Ok.nofr (ok : X.Ok) {b : Addr} {o : Obj} (e : X.base.get? b = some o) : b ∉ X.fs := fun hb => by
  have := (ok.funs.mem hb).1
  rw [e] at this; cases this
theorem Inv.bs (I : Inv X pins σ H s) : ∀ b o, X.base.get? b = some o → s.heap.get? b = some o ∧ H b = none := fun b o e =>
  ⟨I.base.keep b o (I.ok.bs b o e).1 (I.ok.bs b o e).2 (I.ok.nofr e) (I.ok.noex b o e), I.base.free b o (I.ok.bs b o e).1 (I.ok.bs b o e).2 (I.ok.noex b o e)⟩
theorem Inv.bk (I : Inv X pins σ H s) : ∀ b o, X.base.get? b = some o → s.heap.get? b = some o := fun b o e => (I.bs b o e).1
theorem Inv.mod (I : Inv X pins σ H s) : Mod X.K X.mg X.base := I.ok.mod
theorem Inv.kIn (I : Inv X pins σ H s) : X.K.In s.heap := I.ok.mod.kin.keeps I.bk
theorem Inv.nolimit (I : Inv X pins σ H s) : s.heap.NoLimit := I.ok.mod.nolimit.keeps I.bk
/-- the frame over the base: for OpenK's rules (K.In X.base is I.mod.kin) -/
theorem Inv.fr (I : Inv X pins σ H s) : ∃ m, Fr X.base X.env.locals s.heap m :=
  let ⟨m, hn, _⟩ := I.loc
  ⟨m, hn, I.bk, Nat.le_trans I.ok.bsz I.ok.above⟩
theorem Inv.lt (I : Inv X pins σ H s) : X.env.locals < s.heap.objs.size := let ⟨_, hn, _⟩ := I.loc; hn.lt
theorem Inv.sz (I : Inv X pins σ H s) : X.s₀.heap.objs.size ≤ s.heap.objs.size := Nat.le_trans I.ok.above (Nat.le_of_lt I.lt)
theorem Inv.nofs (I : Inv X pins σ H s) {a : Addr} (h : s.heap.objs.size ≤ a) : a ∉ X.fs := fun hb => by
  obtain ⟨_, o, ho, _⟩ := I.ok.funs.mem hb
  exact absurd (Nat.lt_of_lt_of_le (Heap.lt_size ho) (Nat.le_trans I.sz h)) (Nat.lt_irrefl _)
theorem Inv.cne (I : Inv X pins σ H s) : ∀ x c, X.env.cells.lookup x = some c → c ≠ X.env.locals := fun x c e z => by
  obtain ⟨v, o, ho, hd⟩ := I.cell x c e
  obtain ⟨m, ⟨o', es, ep, ho', hd', _⟩, _⟩ := I.loc
  rw [z, ho'] at ho; cases ho; rw [hd'] at hd; cases hd
theorem Inv.funs (I : Inv X pins σ H s) : s.heap.FunFrames X.base X.outer := by
  have all : ∀ (l : List Env), (∀ b ∈ frs l, b ∈ X.fs) → X.s₀.heap.FunFrames X.base l → s.heap.FunFrames X.base l := by
    intro l
    induction l with
    | nil => intro _ _; trivial
    | cons env r ih =>
      intro hs hl
      obtain ⟨hk, ⟨L, o, hf, hn, ho, hd⟩, hr⟩ := hl
      have hL : L ∈ X.fs := hs L (by unfold frs; rw [List.filterMap_cons, hf]; exact List.mem_cons_self)
      obtain ⟨sl, e⟩ := I.base.slot L o ho (I.ok.frf L hL) hL fun z => I.ok.exfs L z hL
      exact ⟨hk, ⟨L, _, hf, hn, e, hd⟩, ih (fun b hb => hs b (by unfold frs; rw [List.filterMap_cons, hf]; exact List.mem_cons_of_mem _ hb)) hr⟩
  exact all X.outer (fun _ hb => hb) I.ok.funs

/-- the frames that run, for a call -/
theorem Inv.stack (I : Inv X pins σ H s) : s.heap.FunFrames X.base X.stack := by
  rcases I.ok.stk with e | ⟨e, hf⟩
  · rw [e]; exact I.funs
  · rw [e]
    obtain ⟨m, hn, _⟩ := I.loc
    refine .cons (by rw [I.ok.kind]; decide) hf hn ?_ I.funs
    exact Heap.get?_none_of_le (Nat.le_trans I.ok.bsz I.ok.above)
theorem Inv.stkSub (I : Inv X pins σ H s) : ∀ b ∈ frs X.stack, b ∈ X.env.locals :: X.fs := fun b hb => by
  rcases I.ok.stk with e | ⟨e, hf⟩
  · rw [e] at hb; exact List.mem_cons_of_mem _ hb
  · rw [e] at hb
    unfold frs at hb
    rw [List.filterMap_cons, hf] at hb
    exact hb
theorem Inv.stkFree (I : Inv X pins σ H s) : ∀ b ∈ frs X.stack, H b = none := fun b hb => by
  rcases List.mem_cons.mp (I.stkSub b hb) with e | hb
  · rw [e]; exact I.free
  · obtain ⟨_, o, ho, _⟩ := I.ok.funs.mem hb
    exact I.base.free b o ho (I.ok.frf b hb) fun z => I.ok.exfs b z hb

/-- THE STEP: the untracked objects but the frame and the records at ch are kept (the callers' frames up to slots), the frame's map is kept, the new abstract heap is held -/
theorem Inv.step {g' : Array GenState} {t' : Nat} {d' : Drawn} {ch : List Addr} (I : Inv X pins σ H s)
    (hch : ∀ b ∈ ch, (b ∈ X.ex ∨ X.s₀.heap.objs.size ≤ b) ∧ b ≠ X.env.locals ∧ (∀ x c, X.env.cells.lookup x = some c → c ≠ b) ∧ ∀ p ∈ X.pn ++ pins, p.1 ≠ b)
    (keep : ∀ b o, b ≠ X.env.locals → b ∉ X.fs → b ∉ ch → s.heap.get? b = some o → H b = none → h'.get? b = some o)
    (slot : ∀ b o, b ≠ X.env.locals → b ∈ X.fs → b ∉ ch → s.heap.get? b = some o → H b = none → ∃ sl, h'.get? b = some { o with slots := sl }) (free : ∀ b o, b ∉ ch → s.heap.get? b = some o → H b = none → H' b = none)
    (there : ∀ b o, b ∉ ch → s.heap.get? b = some o → ∃ o', h'.get? b = some o')
    (tups : ∀ b xs, H b = some (.tup xs) → H' b = some (.tup xs)) (frzs : ∀ b o u, H b = some (.frz o u) → H' b = some (.frz o u)) (tbls : ∀ b ps, H b = some (.tbl ps) → ∃ more, H' b = some (.tbl (ps ++ more)))
    (ns : ∀ m, s.heap.Ns X.env.locals m → h'.Ns X.env.locals m) (hok : HOk X.prog X.w H' h') (hg : AllBare g') :
    Inv X pins σ H' { s with heap := h', gens := g', drawn := d', toks := t' } := by
  have neL : ∀ b o, X.s₀.heap.get? b = some o → b ≠ X.env.locals := fun b o e => Nat.ne_of_lt (Nat.lt_of_lt_of_le (Heap.lt_size e) I.ok.above)
  have neC : ∀ b o, X.s₀.heap.get? b = some o → b ∉ X.ex → b ∉ ch := fun b o e hx hb => by
    rcases (hch b hb).1 with z | z
    · exact hx z
    · exact absurd (Nat.lt_of_lt_of_le (Heap.lt_size e) z) (Nat.lt_irrefl _)
  have cellK : ∀ x c, X.env.cells.lookup x = some c → ∀ v, s.heap.IsCell c v → h'.IsCell c v := fun x c e v ⟨o, ho, hd⟩ => by
    have nch : c ∉ ch := fun z => (hch c z).2.2.1 x c e rfl
    by_cases hc : c ∈ X.fs
    · obtain ⟨sl, q⟩ := slot c o (I.cne x c e) hc nch ho (I.freeC x c e)
      exact ⟨_, q, hd⟩
    · exact ⟨o, keep c o (I.cne x c e) hc nch ho (I.freeC x c e), hd⟩
  refine ⟨I.ok, I.os, hg, ⟨fun b o e n hb hx => ?_, fun b o e n hb hx => ?_, fun b o e n hx => ?_, fun b o e hx => ?_, fun b xs e => tups b xs (I.base.tups b xs e), fun b o xs e => frzs b o xs (I.base.frzs b o xs e), fun b ps e => ?_⟩, ?_, fun x c e => ?_, ?_, fun x c e => ?_, fun p hp => ?_, hok, I.len⟩
  · exact keep b o (neL b o e) hb (neC b o e hx) (I.base.keep b o e n hb hx) (I.base.free b o e n hx)
  · obtain ⟨sl, e1⟩ := I.base.slot b o e n hb hx
    obtain ⟨sl', e2⟩ := slot b _ (neL b o e) hb (neC b o e hx) e1 (I.base.free b o e n hx)
    exact ⟨sl', e2⟩
  · obtain ⟨o', e1⟩ := I.base.there b o e hx
    exact free b o' (neC b o e hx) e1 (I.base.free b o e n hx)
  · obtain ⟨o', e1⟩ := I.base.there b o e hx
    exact there b o' (neC b o e hx) e1
  · obtain ⟨m1, e1⟩ := I.base.tbls b ps e
    obtain ⟨m2, e2⟩ := tbls b _ e1
    exact ⟨m1 ++ m2, by rw [e2, Array.append_assoc]⟩
  · obtain ⟨m, hn, hl⟩ := I.loc
    refine ⟨m, ns m hn, fun i x v e1 e2 e3 => ?_⟩
    obtain ⟨u, r, l⟩ := hl i x v e1 e2 e3
    refine ⟨u, r, ?_⟩
    rcases l with l | ⟨k, c, e, z⟩
    · exact .inl l
    · exact .inr ⟨k, c, e, cellK x c e _ z⟩
  · obtain ⟨v, z⟩ := I.cell x c e
    exact ⟨v, cellK x c e v z⟩
  · obtain ⟨m, ⟨o, _, _, ho, _⟩, _⟩ := I.loc
    exact free _ o (fun z => (hch _ z).2.1 rfl) ho I.free
  · obtain ⟨v, o, ho, hd⟩ := I.cell x c e
    exact free c o (fun z => (hch c z).2.2.1 x c e rfl) ho (I.freeC x c e)
  · obtain ⟨e, n, ne, nf, d⟩ := I.pin p hp
    have nch : p.1 ∉ ch := fun z => (hch p.1 z).2.2.2 p hp rfl
    exact ⟨keep p.1 p.2 ne nf nch e n, free p.1 p.2 nch e n, ne, nf, d⟩
/-- .. where the frame's own object is kept too -/
theorem Inv.un {t' : Nat} (I : Inv X pins σ H s) (u : Un X.fs [] H H' s.heap h') (hok : HOk X.prog X.w H' h') : Inv X pins σ H' { s with heap := h', toks := t' } := by
  obtain ⟨m, ⟨o, es, ep, ho, r⟩, _⟩ := id I.loc
  obtain ⟨sl, hL⟩ := u.any ho I.free (by simp)
  exact I.step (g' := s.gens) (d' := s.drawn) (ch := []) (fun _ z => nomatch z) (fun b o _ hb _ e n => u.keep b o e n hb (by simp)) (fun b o _ hb _ e n => u.slot b o e n hb (by simp)) (fun b o _ e n => u.free b o e n (by simp)) (fun b o _ e => u.there b o e (by simp)) u.tups u.frzs u.tbls (fun m' hm => by
    obtain ⟨o', es', ep', ho', r'⟩ := hm
    rw [ho] at ho'; cases ho'
    exact ⟨_, es', ep', hL, r'⟩) hok I.bare
/-- behind a call (or a comprehension's block): the slots of this frame may have changed too, the records at ch may have turned -/
theorem Inv.call {g' : Array GenState} {t' : Nat} {d' : Drawn} {ch : List Addr} (I : Inv X pins σ H s) (u : Un (frs X.stack) ch H H' s.heap h') (hok : HOk X.prog X.w H' h') (hg : AllBare g')
    (hch : ∀ b ∈ ch, (b ∈ X.ex ∨ X.s₀.heap.objs.size ≤ b) ∧ b ≠ X.env.locals ∧ (∀ x c, X.env.cells.lookup x = some c → c ≠ b) ∧ ∀ p ∈ X.pn ++ pins, p.1 ≠ b) :
    Inv X pins σ H' { s with heap := h', gens := g', drawn := d', toks := t' } := by
  obtain ⟨m, ⟨o, es, ep, ho, r⟩, _⟩ := id I.loc
  obtain ⟨sl, hL⟩ := u.any ho I.free fun z => (hch _ z).2.1 rfl
  exact I.step (ch := ch) hch (fun b o hL hb hc e n => u.keep b o e n (fun z => (List.mem_cons.mp (I.stkSub b z)).elim hL hb) hc) (fun b o _ _ hc e n => u.any e n hc) (fun b o hc e n => u.free b o e n hc) (fun b o hc e => u.there b o e hc) u.tups u.frzs u.tbls (fun m' hm => by
    obtain ⟨o', es', ep', ho', r'⟩ := hm
    rw [ho] at ho'; cases ho'
    exact ⟨_, es', ep', hL, r'⟩) hok hg
/-- an untracked record of ours (an iterator) has turned -/
theorem Inv.turned {t' : Nat} {it : Addr} (I : Inv X pins σ H s) (k : ∀ b o, b ≠ it → s.heap.get? b = some o → h'.get? b = some o) (hn : H it = none) (hL : it ≠ X.env.locals)
    (h1 : it ∈ X.ex ∨ X.s₀.heap.objs.size ≤ it) (h2 : ∀ x c, X.env.cells.lookup x = some c → c ≠ it) (h3 : ∀ p ∈ X.pn ++ pins, p.1 ≠ it) : Inv X pins σ H { s with heap := h', toks := t' } := by
  have nit : ∀ b u, H b = some u → b ≠ it := fun b u e z => by rw [z, hn] at e; cases e
  refine I.step (g' := s.gens) (d' := s.drawn) (ch := [it]) (fun b hb => ?_) (fun b o _ _ hc e _ => k b o (fun z => hc (by simp [z])) e) (fun b o _ _ hc e _ => ⟨o.slots, k b o (fun z => hc (by simp [z])) e⟩) (fun _ _ _ _ n => n)
    (fun b o hc e => ⟨o, k b o (fun z => hc (by simp [z])) e⟩) (fun _ _ e => e) (fun _ _ _ e => e) (fun b ps e => ⟨#[], by rw [e]; simp⟩) (fun m hm => ?_) (fun b u e => ?_) I.bare
  · have e : b = it := by simpa using hb
    subst e
    exact ⟨h1, hL, h2, h3⟩
  · obtain ⟨o, es, ep, ho, r⟩ := hm
    exact ⟨o, es, ep, k _ o (Ne.symm hL) ho, r⟩
  · refine (I.hok b u e).stay (fun c v hc q => k c v ?_ q) (fun _ q => q) fun _ _ q => q
    rcases hc with z | z
    · rw [z]; exact nit b u e
    · exact nit c _ z
theorem Inv.tok (I : Inv X pins σ H s) (t : Nat) : Inv X pins σ H { s with toks := t } := I.un (h' := s.heap) (t' := t) Un.refl I.hok
/-- all objects kept -/
theorem Inv.kept {t' : Nat} (I : Inv X pins σ H s) (k : ∀ b u, s.heap.get? b = some u → h'.get? b = some u) : Inv X pins σ H { s with heap := h', toks := t' } := I.un (Un.kept k) (I.hok.kept k)
/-- a new object laid and tracked -/
theorem Inv.laid {a : Addr} {o : HO} {t' : Nat} (I : Inv X pins σ H s) (k : ∀ b u, s.heap.get? b = some u → h'.get? b = some u) (hp : s.heap.objs.size ≤ a) (new : ObjOk X.prog X.w (upd H a o) h' a o) :
    Inv X pins σ (upd H a o) { s with heap := h', toks := t' } := I.un (Un.laid k hp (I.hok.fresh hp)) (I.hok.laid k hp new)
/-- an object written -/
theorem Inv.write {x e : Addr} {o : HO} {t' : Nat} (I : Inv X pins σ H s) (mu : Mut (H x)) (he : e = x ∨ H e = some (.own x)) (k : ∀ b u, b ≠ e → s.heap.get? b = some u → h'.get? b = some u) (heo : ∃ u, h'.get? e = some u)
    (new : ObjOk X.prog X.w (upd H x o) h' x o) : Inv X pins σ (upd H x o) { s with heap := h', toks := t' } := I.un (Un.write mu he k heo) (I.hok.write mu he k heo new)
/-- forgetting slots, pins -/
theorem Inv.weak {σ' : List (Option V)} (I : Inv X pins σ H s) (hl : σ'.length = σ.length) (w : ∀ (i : Nat) v, σ'[i]? = some (some v) → σ[i]? = some (some v)) : Inv X pins σ' H s :=
  ⟨I.ok, I.os, I.bare, I.base, let ⟨m, hn, hl'⟩ := I.loc; ⟨m, hn, fun i x v e1 e2 e3 => hl' i x v e1 (w i v e2) e3⟩, I.cell, I.free, I.freeC, I.pin, I.hok, hl.trans I.len⟩
theorem Inv.pins_of {pins' : List (Addr × Obj)} (I : Inv X pins σ H s) (h : ∀ p ∈ pins', s.heap.get? p.1 = some p.2 ∧ H p.1 = none ∧ p.1 ≠ X.env.locals ∧ p.1 ∉ X.fs ∧ ∀ v, p.2.data ≠ .cell v) : Inv X pins' σ H s :=
  ⟨I.ok, I.os, I.bare, I.base, I.loc, I.cell, I.free, I.freeC, fun p hp => (List.mem_append.mp hp).elim (fun z => I.pin p (List.mem_append_left _ z)) (h p), I.hok, I.len⟩

theorem nodup_ix {N : List Str} (hN : N.Nodup) {i j : Nat} {x : Str} (a : N[i]? = some x) (b : N[j]? = some x) : i = j := by
  obtain ⟨h1, e1⟩ := List.getElem?_eq_some_iff.mp a
  obtain ⟨h2, e2⟩ := List.getElem?_eq_some_iff.mp b
  exact (List.getElem_inj hN).mp (e1.trans e2.symm)

/-- a name is stored; what changed -/
theorem store_ok2 {M : Model} {A : Around} {E : Value → Shared → Prop} {i : Nat} {x : Str} {v : V} {u : Value} {Q : Unit → Shared → Prop} (I : Inv X pins σ H s) (hN : X.N.Nodup) (hi : X.N[i]? = some x) (hx : Loc X.env.scope x) (r : RelV v u)
    (h : ∀ s', Inv X pins (σ.set i (some v)) H s' → (∃ a, Heap.SameBut a s.heap s'.heap ∧ (a = X.env.locals ∨ X.env.cells.lookup x = some a)) → Q () s') (hf : X.fn x = true ∨ X.env.scope.names.lookup x = some .local := by first | exact .inl rfl | exact .inr rfl | assumption) : wpAny M A (storeName X.env x u) Q E s := by
  obtain ⟨m, hn, hl⟩ := id I.loc
  have hcls : (X.env.scope.kind == .class || (X.env.scope.kind == .module && X.env.locals != X.env.globals)) = false := by rw [I.ok.kind]; rfl
  have hiσ : i < σ.length := by rw [I.len]; exact (List.getElem?_eq_some_iff.mp hi).1
  have cne := I.cne
  have tracked : ∀ {a : Addr} {h' : Heap}, (∃ o, s.heap.get? a = some o ∧ H a = none) → Heap.SameBut a s.heap h' → HOk X.prog X.w H h' := fun {a h'} ha hs b ob e => by
    obtain ⟨_, _, hfree⟩ := ha
    refine (I.hok b ob e).stay (fun c w' hc q => (hs.2 c ?_).trans q) (fun _ q => q) fun _ _ q => q
    rintro rfl
    rcases hc with rfl | hc
    · rw [hfree] at e; cases e
    · rw [hfree] at hc; cases hc
  rcases hx with hk | hk
  · refine wpAny_storeName_local hk hn (fun h' hn' hs => ?_) hcls
    obtain ⟨oL, _, _, hoL, _⟩ := id hn
    refine h _ ⟨I.ok, I.os, I.bare, ⟨fun b o e n hb hx => ?_, fun b o e n hb hx => ?_, I.base.free, fun b o e hx => ?_, I.base.tups, I.base.frzs, I.base.tbls⟩, ⟨_, hn', fun j y v' e1 e2 e3 => ?_⟩, fun y c e => ?_, I.free, I.freeC, fun p hp => ?_, tracked ⟨oL, hoL, I.free⟩ hs, by simpa using I.len⟩ ⟨_, hs, .inl rfl⟩
    · exact (hs.2 b (Nat.ne_of_lt (Nat.lt_of_lt_of_le (Heap.lt_size e) I.ok.above))).trans (I.base.keep b o e n hb hx)
    · obtain ⟨sl, e1⟩ := I.base.slot b o e n hb hx
      exact ⟨sl, (hs.2 b (Nat.ne_of_lt (Nat.lt_of_lt_of_le (Heap.lt_size e) I.ok.above))).trans e1⟩
    · obtain ⟨o', e1⟩ := I.base.there b o e hx
      exact ⟨o', (hs.2 b (Nat.ne_of_lt (Nat.lt_of_lt_of_le (Heap.lt_size e) I.ok.above))).trans e1⟩
    · by_cases hj : j = i
      · subst hj
        rw [hi] at e1; cases e1
        rw [List.getElem?_set_self hiσ] at e2
        cases e2
        exact ⟨u, r, .inl ⟨hk, by simp⟩⟩
      · rw [List.getElem?_set_ne (Ne.symm hj)] at e2
        obtain ⟨u', r', q⟩ := hl j y v' e1 e2 e3
        refine ⟨u', r', ?_⟩
        rcases q with ⟨k, e⟩ | ⟨k, c, e, z⟩
        · refine .inl ⟨k, ?_⟩
          have : y ≠ x := fun e => hj (nodup_ix hN e1 (e ▸ hi))
          simp [this, e]
        · exact .inr ⟨k, c, e, z.sameBut hs (cne y c e)⟩
    · obtain ⟨w', z⟩ := I.cell y c e
      exact ⟨w', z.sameBut hs (cne y c e)⟩
    · obtain ⟨e, n, ne, nf, d⟩ := I.pin p hp
      exact ⟨(hs.2 p.1 ne).trans e, n, ne, nf, d⟩
  · have hfn : X.fn x = true := by
      rcases hf with z | z
      · exact z
      · rw [z] at hk; cases hk
    obtain ⟨c, hc⟩ := I.ok.has x (.inl hk)
    obtain ⟨w', z⟩ := I.cell x c hc
    refine wpAny_storeName_cell I.ok.kind hk hc z (fun h' hc' hs => ?_)
    obtain ⟨oc, hoc, hocd⟩ := id z
    refine h { s with heap := h' } ⟨I.ok, I.os, I.bare, ⟨fun b o e n hb hx => ?_, fun b o e n hb hx => ?_, I.base.free, fun b o e hx => ?_, I.base.tups, I.base.frzs, I.base.tbls⟩, ⟨m, hn.sameBut hs (Ne.symm (cne x c hc)), fun j y v' e1 e2 e3 => ?_⟩, fun y c' e => ?_, I.free, I.freeC, fun p hp => ?_, tracked ⟨oc, hoc, I.freeC x c hc⟩ hs, by simpa using I.len⟩ ⟨c, hs, .inr hc⟩
    · exact (hs.2 b (Nat.ne_of_lt (Nat.lt_of_lt_of_le (Heap.lt_size e) (I.ok.cab x c hfn hc)))).trans (I.base.keep b o e n hb hx)
    · obtain ⟨sl, e1⟩ := I.base.slot b o e n hb hx
      exact ⟨sl, (hs.2 b (Nat.ne_of_lt (Nat.lt_of_lt_of_le (Heap.lt_size e) (I.ok.cab x c hfn hc)))).trans e1⟩
    · obtain ⟨o', e1⟩ := I.base.there b o e hx
      exact ⟨o', (hs.2 b (Nat.ne_of_lt (Nat.lt_of_lt_of_le (Heap.lt_size e) (I.ok.cab x c hfn hc)))).trans e1⟩
    · by_cases hj : j = i
      · subst hj
        rw [hi] at e1; cases e1
        rw [List.getElem?_set_self hiσ] at e2
        cases e2
        exact ⟨u, r, .inr ⟨.inl hk, c, hc, hc'⟩⟩
      · rw [List.getElem?_set_ne (Ne.symm hj)] at e2
        obtain ⟨u', r', q⟩ := hl j y v' e1 e2 e3
        refine ⟨u', r', ?_⟩
        rcases q with q | ⟨k, c', e, z'⟩
        · exact .inl q
        · refine .inr ⟨k, c', e, z'.sameBut hs ?_⟩
          rintro rfl
          exact hj (nodup_ix hN e1 (I.ok.inj _ _ _ e hc ▸ hi))
    · by_cases hcc : c' = c
      · subst hcc; exact ⟨_, hc'⟩
      · obtain ⟨w2, z2⟩ := I.cell y c' e
        exact ⟨w2, z2.sameBut hs hcc⟩
    · obtain ⟨e, n, ne, nf, d⟩ := I.pin p hp
      refine ⟨(hs.2 p.1 ?_).trans e, n, ne, nf, d⟩
      intro q
      rw [q, hoc] at e
      have q' : oc = p.2 := Option.some.inj e
      exact d w' (by rw [← q']; exact hocd)
theorem store_ok {M : Model} {A : Around} {E : Value → Shared → Prop} {i : Nat} {x : Str} {v : V} {u : Value} {Q : Unit → Shared → Prop} (I : Inv X pins σ H s) (hN : X.N.Nodup) (hi : X.N[i]? = some x) (hx : Loc X.env.scope x) (r : RelV v u)
    (h : ∀ s', Inv X pins (σ.set i (some v)) H s' → Q () s') (hf : X.fn x = true ∨ X.env.scope.names.lookup x = some .local := by first | exact .inl rfl | exact .inr rfl | assumption) : wpAny M A (storeName X.env x u) Q E s :=
  store_ok2 I hN hi hx r (fun s' I' _ => h s' I') hf
/-- behind a call or a block, the state as it is -/
theorem Inv.call' {s' : Shared} {ch : List Addr} (I : Inv X pins σ H s) (ho : s'.os = s.os) (u : Un (frs X.stack) ch H H' s.heap s'.heap) (hok : HOk X.prog X.w H' s'.heap) (hg : AllBare s'.gens)
    (hch : ∀ b ∈ ch, (b ∈ X.ex ∨ X.s₀.heap.objs.size ≤ b) ∧ b ≠ X.env.locals ∧ (∀ x c, X.env.cells.lookup x = some c → c ≠ b) ∧ ∀ p ∈ X.pn ++ pins, p.1 ≠ b) : Inv X pins σ H' s' := by
  obtain ⟨h', g', d', t', o'⟩ := s'
  have e : o' = s.os := ho
  subst e
  exact I.call (g' := g') (t' := t') (d' := d') u hok hg hch
end

/-! ### the judgements -/
/-- an exception: its class, its own dict's address (where it has one), the abstract heap behind it -/
abbrev XK := Value → Option Addr → Hp → Prop
abbrev St := List (Option V)
abbrev VK := V → Hp → Prop
/-- an expression's reading; a test's; an argument list's -/
abbrev TE := St → Hp → VK → Prop
abbrev TT := St → Hp → (Bool → Hp → Prop) → Prop
abbrev TA := St → Hp → (List V → Hp → Prop) → Prop
/-- what is wanted behind a statement -/
structure Ends where
  nx : St → Hp → Prop
  rt : VK
  bk : St → Hp → Prop := fun _ _ => False
  ct : St → Hp → Prop := fun _ _ => False
abbrev TS := Ends → St → Hp → Prop

def EP (X : Cx) (pins : List (Addr × Obj)) (σ : St) (Q : VK) (u : Value) (s' : Shared) : Prop := ∃ v H', Inv X pins σ H' s' ∧ RelV v u ∧ Q v H'
def TP (X : Cx) (pins : List (Addr × Obj)) (σ : St) (Q : Bool → Hp → Prop) (b : Bool) (s' : Shared) : Prop := ∃ H', Inv X pins σ H' s' ∧ Q b H'
def AP (X : Cx) (pins : List (Addr × Obj)) (σ : St) (Q : List V → Hp → Prop) (us : List Value) (s' : Shared) : Prop := ∃ vs H', Inv X pins σ H' s' ∧ Vals vs us ∧ Q vs H'
def SP (X : Cx) (pins : List (Addr × Obj)) (D : Ends) (f : Flow) (s' : Shared) : Prop :=
  match f with
  | .next => ∃ σ' H', Inv X pins σ' H' s' ∧ D.nx σ' H'
  | .brk => ∃ σ' H', Inv X pins σ' H' s' ∧ D.bk σ' H'
  | .cont => ∃ σ' H', Inv X pins σ' H' s' ∧ D.ct σ' H'
  | .ret u => ∃ v σ' H', Inv X pins σ' H' s' ∧ RelV v u ∧ D.rt v H'

def PE (X : Cx) (e : Expr) (t : TE) : Prop :=
  ∀ (pins : List (Addr × Obj)) (s : Shared) (σ : St) (H : Hp) (Q : VK), Inv X pins σ H s → t σ H Q → wpAny (model X.prog X.w) X.A (eval e X.env) (EP X pins σ Q) X.xe s
def PT (X : Cx) (e : Expr) (t : TT) : Prop :=
  ∀ (pins : List (Addr × Obj)) (s : Shared) (σ : St) (H : Hp) (Q : Bool → Hp → Prop), Inv X pins σ H s → t σ H Q → wpAny (model X.prog X.w) X.A (isTrue e X.env (eval e X.env)) (TP X pins σ Q) X.xe s
/-- a test whatever its 'whole' is (and, or) -/
def PW (X : Cx) (e : Expr) (t : TT) : Prop :=
  ∀ (whole : Sem Value) (pins : List (Addr × Obj)) (s : Shared) (σ : St) (H : Hp) (Q : Bool → Hp → Prop), Inv X pins σ H s → t σ H Q → wpAny (model X.prog X.w) X.A (isTrue e X.env whole) (TP X pins σ Q) X.xe s
theorem PW.pt {X : Cx} {e : Expr} {t : TT} (h : PW X e t) : PT X e t := h _
/-- an argument list (no star), from the left -/
def PA (X : Cx) (es : List Expr) (t : TA) : Prop :=
  ∀ (pos : Pos) (pins : List (Addr × Obj)) (s : Shared) (σ : St) (H : Hp) (Q : List V → Hp → Prop), Inv X pins σ H s → t σ H Q → wpAny (model X.prog X.w) X.A (spliced (backTo pos (starEach es X.env))) (AP X pins σ Q) X.xe s
def PS (X : Cx) (st : Stmt) (t : TS) : Prop :=
  ∀ (pins : List (Addr × Obj)) (s : Shared) (σ : St) (H : Hp) (D : Ends), Inv X pins σ H s → t D σ H → wpAny (model X.prog X.w) X.A (exec st X.env) (SP X pins D) X.xe s
def PSs (X : Cx) (st : List Stmt) (t : TS) : Prop :=
  ∀ (pins : List (Addr × Obj)) (s : Shared) (σ : St) (H : Hp) (D : Ends), Inv X pins σ H s → t D σ H → wpAny (model X.prog X.w) X.A (execs st X.env) (SP X pins D) X.xe s
/-- weaken the end -/
theorem thn {α : Type} {t : Sem α} {Q Q' : α → Shared → Prop} {M : Model} {A : Around} {E : Value → Shared → Prop} {s : Shared} (h : wpAny M A t Q E s) (hQ : ∀ a s, Q a s → Q' a s) : wpAny M A t Q' E s := wpAny_mono h hQ fun _ _ x => x
end L2

namespace L2
open PySem PySem.Spec PyProof.Rows
section
variable {X : Cx}

/-- two expressions in a row -/
theorem bin {a b : Expr} {ta tb : TE} (ha : PE X a ta) (hb : PE X b tb) {pins : List (Addr × Obj)} {s : Shared} {σ : St} {H : Hp} {R : V → V → Hp → Prop} (I : Inv X pins σ H s) (h : ta σ H fun x H1 => tb σ H1 fun y H2 => R x y H2)
    {α : Type} {Q : α → Shared → Prop} {f : Value → Value → Sem α}
    (hf : ∀ v u s2 x y H2, Inv X pins σ H2 s2 → RelV x v → RelV y u → R x y H2 → wpAny (model X.prog X.w) X.A (f v u) Q X.xe s2) :
    wpAny (model X.prog X.w) X.A (eval a X.env) (fun v s₁ => wpAny (model X.prog X.w) X.A (eval b X.env) (fun u s₂ => wpAny (model X.prog X.w) X.A (f v u) Q X.xe s₂) X.xe s₁) X.xe s := by
  refine thn (ha pins s σ H _ I h) fun v s1 ⟨x, H1, I1, r1, q1⟩ => ?_
  refine thn (hb pins s1 σ H1 _ I1 q1) fun u s2 ⟨y, H2, I2, r2, q2⟩ => ?_
  exact hf v u s2 x y H2 I2 r1 r2 q2

/-! ### names and constants -/
def tVar (i : Nat) : TE := fun σ H Q => ∃ v, σ[i]? = some (some v) ∧ Q v H
def tC (v : V) : TE := fun _ H Q => Q v H
theorem pe_var {i : Nat} {x : Str} {pos : Pos} (hN : X.N[i]? = some x) (hv : Vis X.env.scope x) (hd : (x == ("__debug__" : Str)) = false := by decide) (hcd : (x == ("__classdict__" : Str)) = false := by decide) : PE X (.Name x pos) (tVar i) := by
  intro pins s σ H Q I h
  obtain ⟨v, e, h⟩ := h
  obtain ⟨m, hn, hl⟩ := I.loc
  obtain ⟨u, r, l⟩ := hl i x v hN e hv
  have fin : EP X pins σ Q u s := ⟨v, H, I, r, h⟩
  rcases l with ⟨hk, hm⟩ | ⟨hk, c, hc, hcell⟩
  · exact wpAny_Name (wpAny_loadName_local I.ok.kind hk hn hm fin) hd
  · rcases hk with hk | hk
    · exact wpAny_Name (wpAny_loadName_cell I.ok.kind hk hc hcell fin) hd
    · exact wpAny_Name (wpAny_loadName_free I.ok.kind hk hc hcell fin hcd) hd
theorem pe_int {i j pos} : PE X (.Constant (.int i) j pos) (tC (.int i)) := fun _ _ _ H _ I h => wpAny_Constant_int ⟨.int i, H, I.tok _, ⟨_, rfl⟩, h⟩
theorem pe_bl {b j pos} : PE X (.Constant (.bool b) j pos) (tC (.bl b)) := fun _ _ _ H _ I h => Constant_bool ⟨.bl b, H, I, rfl, h⟩
theorem pe_non {j pos} : PE X (.Constant .none j pos) (tC .non) := fun _ _ _ H _ I h => Constant_none ⟨.non, H, I, rfl, h⟩
theorem pe_str {x j pos} : PE X (.Constant (.str x) j pos) (tC (.str x)) := fun _ _ _ H _ I h => Calls.Constant_str ⟨.str x, H, I.tok _, ⟨_, rfl⟩, h⟩

/-- a global name of the def -/
def Gl (X : Cx) (x : Str) : Prop := X.env.kindOf x = some .globalImplicit
theorem ld_glob {E : Value → Shared → Prop} {pins : List (Addr × Obj)} {s : Shared} {σ : St} {H : Hp} {x : Str} {u : Value} {pos : Pos} {Q : Value → Shared → Prop} (I : Inv X pins σ H s) (hg : Gl X x) (hm : X.mg x = some u) (h : Q u s)
    (hd : (x == ("__debug__" : Str)) = false := by decide) : wpAny (model X.prog X.w) X.A (eval (.Name x pos) X.env) Q E s :=
  Calls.Name_function_global I.ok.kind hg (Calls.loadGlobal_global (by rw [I.ok.glob]; exact I.mod.glob.keeps I.bk) hm h) hd
theorem ld_blt {E : Value → Shared → Prop} {pins : List (Addr × Obj)} {s : Shared} {σ : St} {H : Hp} {x : Str} {u : Value} {pos : Pos} {Q : Value → Shared → Prop} (I : Inv X pins σ H s) (hg : Gl X x) (hm : X.mg x = none) (hv : bootBuiltins x = some u) (h : Q u s)
    (hn : x ≠ "__name__" := by decide) (hd : (x == ("__debug__" : Str)) = false := by decide) : wpAny (model X.prog X.w) X.A (eval (.Name x pos) X.env) Q E s := by
  obtain ⟨mb, h1, h2⟩ := I.mod.blt
  exact Calls.Name_function_global I.ok.kind hg (Calls.loadGlobal_builtin (by rw [I.ok.glob]; exact I.mod.glob.keeps I.bk) hm (by rw [I.ok.blt]; exact h1.keeps I.bk) ((h2 x hn).trans hv) h) hd
/-- a module's constant, a class, a function, as a value -/
theorem pe_glob {x : Str} {v : V} {u : Value} {pos : Pos} (hg : Gl X x) (hm : X.mg x = some u) (r : RelV v u) (hd : (x == ("__debug__" : Str)) = false := by decide) : PE X (.Name x pos) (tC v) :=
  fun _ _ _ H _ I h => ld_glob I hg hm ⟨v, H, I, r, h⟩ hd
theorem pe_bltn {x : Str} {v : V} {u : Value} {pos : Pos} (hg : Gl X x) (hm : X.mg x = none) (hv : bootBuiltins x = some u) (r : RelV v u) (hn : x ≠ "__name__" := by decide) (hd : (x == ("__debug__" : Str)) = false := by decide) : PE X (.Name x pos) (tC v) :=
  fun _ _ _ H _ I h => ld_blt I hg hm hv ⟨v, H, I, r, h⟩ hn hd

/-! ### arithmetic -/
/-- two ints -/
def t2I (ta tb : TE) (k : Int → Int → Hp → Prop) : St → Hp → Prop := fun σ H => ta σ H fun x H1 => tb σ H1 fun y H2 => ∃ i j, x = .int i ∧ y = .int j ∧ k i j H2
def tAdd (ta tb : TE) : TE := fun σ H Q => t2I ta tb (fun i j H2 => Q (.int (i + j)) H2) σ H
def tSub (ta tb : TE) : TE := fun σ H Q => t2I ta tb (fun i j H2 => Q (.int (i - j)) H2) σ H
/-- the left factor below 2^64 -/
def tMul (ta tb : TE) : TE := fun σ H Q => t2I ta tb (fun i j H2 => (-(2 ^ 64) < i ∧ i < 2 ^ 64) ∧ Q (.int (i * j)) H2) σ H
variable {a b : Expr} {ta tb : TE} {pos : Pos}
theorem pe_add (ha : PE X a ta) (hb : PE X b tb) : PE X (.BinOp a .Add b pos) (tAdd ta tb) := by
  intro pins s σ H Q I h
  refine wpAny_BinOp (bin ha hb I h fun v u s2 x y H2 I2 rx ry q => ?_)
  obtain ⟨i, j, rfl, rfl, q⟩ := q
  obtain ⟨t, rfl⟩ := rx
  obtain ⟨t', rfl⟩ := ry
  exact add_int ⟨.int _, H2, I2.tok _, ⟨_, rfl⟩, q⟩
theorem pe_sub (ha : PE X a ta) (hb : PE X b tb) : PE X (.BinOp a .Sub b pos) (tSub ta tb) := by
  intro pins s σ H Q I h
  refine wpAny_BinOp (bin ha hb I h fun v u s2 x y H2 I2 rx ry q => ?_)
  obtain ⟨i, j, rfl, rfl, q⟩ := q
  obtain ⟨t, rfl⟩ := rx
  obtain ⟨t', rfl⟩ := ry
  exact sub_int ⟨.int _, H2, I2.tok _, ⟨_, rfl⟩, q⟩
theorem pe_mul (ha : PE X a ta) (hb : PE X b tb) : PE X (.BinOp a .Mult b pos) (tMul ta tb) := by
  intro pins s σ H Q I h
  refine wpAny_BinOp (bin ha hb I h fun v u s2 x y H2 I2 rx ry q => ?_)
  obtain ⟨i, j, rfl, rfl, ⟨q1, q2⟩, q⟩ := q
  obtain ⟨t, rfl⟩ := rx
  obtain ⟨t', rfl⟩ := ry
  exact mul_int ⟨.int _, H2, I2.tok _, ⟨_, rfl⟩, q⟩ (.of_left (intBits_le_64 q1 q2))

/-! ### comparisons -/
def PC (X : Cx) (op : CmpOp) (a b : Expr) (t : TE) : Prop :=
  ∀ (pins : List (Addr × Obj)) (s : Shared) (σ : St) (H : Hp) (Q : VK), Inv X pins σ H s → t σ H Q →
    wpAny (model X.prog X.w) X.A (eval a X.env) (fun v s₁ => wpAny (model X.prog X.w) X.A (eval b X.env) (fun u s₂ => wpAny (model X.prog X.w) X.A (compareOp op v u) (EP X pins σ Q) X.xe s₂) X.xe s₁) X.xe s
theorem nobehind (b : Expr) {op : CmpOp} (h : op ≠ .In) (h2 : op ≠ .NotIn) : behindInMarks op b = false := by
  have e1 : (op == CmpOp.In) = false := by cases op <;> first | rfl | exact absurd rfl h
  have e2 : (op == CmpOp.NotIn) = false := by cases op <;> first | rfl | exact absurd rfl h2
  cases b <;> simp [behindInMarks, e1, e2]
def tCmp (p : Int → Int → Bool) (ta tb : TE) : TE := fun σ H Q => t2I ta tb (fun i j H2 => Q (.bl (p i j)) H2) σ H
abbrev tLt : TE → TE → TE := tCmp fun i j => decide (i < j)
abbrev tLe : TE → TE → TE := tCmp fun i j => decide (i ≤ j)
abbrev tGt : TE → TE → TE := tCmp fun i j => decide (j < i)
abbrev tGe : TE → TE → TE := tCmp fun i j => decide (j ≤ i)
abbrev tEqI : TE → TE → TE := tCmp fun i j => decide (i = j)
abbrev tNeI : TE → TE → TE := tCmp fun i j => !decide (i = j)
/-- a comparison of two ints, by its rule -/
theorem pc_int {op : CmpOp} {p : Int → Int → Bool} (ha : PE X a ta) (hb : PE X b tb)
    (rule : ∀ (i j : Int) (t u : Tok) (Q : Value → Shared → Prop) (s : Shared), Q (.bool (p i j)) s → wpAny (model X.prog X.w) X.A (compareOp op (.int i t) (.int j u)) Q X.xe s) : PC X op a b (tCmp p ta tb) := by
  intro pins s σ H Q I h
  refine bin ha hb I h fun v u s2 x y H2 I2 rx ry q => ?_
  obtain ⟨i, j, rfl, rfl, q⟩ := q
  obtain ⟨t, rfl⟩ := rx
  obtain ⟨t', rfl⟩ := ry
  exact rule i j t t' _ s2 ⟨.bl _, H2, I2, rfl, q⟩
theorem pc_lt (ha : PE X a ta) (hb : PE X b tb) : PC X .Lt a b (tLt ta tb) := pc_int ha hb fun _ _ _ _ _ _ h => lt_int h
theorem pc_le (ha : PE X a ta) (hb : PE X b tb) : PC X .LtE a b (tLe ta tb) := pc_int ha hb fun _ _ _ _ _ _ h => le_int h
theorem pc_gt (ha : PE X a ta) (hb : PE X b tb) : PC X .Gt a b (tGt ta tb) := pc_int ha hb fun _ _ _ _ _ _ h => gt_int h
theorem pc_ge (ha : PE X a ta) (hb : PE X b tb) : PC X .GtE a b (tGe ta tb) := pc_int ha hb fun _ _ _ _ _ _ h => ge_int h
theorem pc_eqI (ha : PE X a ta) (hb : PE X b tb) : PC X .Eq a b (tEqI ta tb) := pc_int ha hb fun _ _ _ _ _ _ h => eq_int (by rw [Bool.beq_eq_decide_eq]; exact h)
theorem pc_neI (ha : PE X a ta) (hb : PE X b tb) : PC X .NotEq a b (tNeI ta tb) := pc_int ha hb fun _ _ _ _ _ _ h => ne_int (by rw [bne, Bool.beq_eq_decide_eq]; exact h)
/-- is None -/
def tIsN (ta : TE) : TE := fun σ H Q => ta σ H fun x H1 => Q (.bl (decide (x = .non))) H1
def tNotN (ta : TE) : TE := fun σ H Q => ta σ H fun x H1 => Q (.bl (!decide (x = .non))) H1
theorem RelV.none_iff {x : V} {v : Value} (r : RelV x v) : (v == Value.none) = decide (x = .non) := by
  cases x with
  | non => cases r; rfl
  | bl _ => cases r; rfl
  | int _ => obtain ⟨t, rfl⟩ := r; rfl
  | str _ => obtain ⟨t, rfl⟩ := r; rfl
  | byt _ => obtain ⟨t, rfl⟩ := r; rfl
  | flt _ => obtain ⟨t, rfl⟩ := r; rfl
  | ref _ => cases r; rfl
  | ty _ => cases r; rfl
theorem pc_isN {j pos'} (ha : PE X a ta) : PC X .Is a (.Constant .none j pos') (tIsN ta) := by
  intro pins s σ H Q I h
  refine thn (ha pins s σ H _ I h) fun v s1 ⟨x, H1, I1, r1, q1⟩ => ?_
  exact Constant_none (is_none_gen ⟨.bl _, H1, I1, by rw [r1.none_iff]; rfl, q1⟩)
theorem pc_notN {j pos'} (ha : PE X a ta) : PC X .IsNot a (.Constant .none j pos') (tNotN ta) := by
  intro pins s σ H Q I h
  refine thn (ha pins s σ H _ I h) fun v s1 ⟨x, H1, I1, r1, q1⟩ => ?_
  exact Constant_none (isnot_none_gen ⟨.bl _, H1, I1, by rw [r1.none_iff]; rfl, q1⟩)
/-- a comparison as a value, as a test -/
def tB (t : TE) : TT := fun σ H Q => t σ H fun x H1 => ∃ c, x = .bl c ∧ Q c H1
theorem pe_cmp {op : CmpOp} {t : TE} (h : PC X op a b t) (h1 : behindInMarks op b = false := by first | exact nobehind _ (by decide) (by decide) | rfl) : PE X (.Compare a [op] [b] pos) t := fun pins s σ H Q I hw => wpAny_Compare1 (h pins s σ H Q I hw) h1
theorem pt_cmp {op : CmpOp} {t : TE} (h : PC X op a b t) (h1 : behindInMarks op b = false := by first | exact nobehind _ (by decide) (by decide) | rfl) : PT X (.Compare a [op] [b] pos) (tB t) := by
  intro pins s σ H Q I hw
  refine wpAny_isTrue_Compare1 (thn (h pins s σ H _ I hw) fun v s1 h1 => thn h1 fun u s2 h2 => thn h2 fun c s3 ⟨x, H1, I1, r1, q1⟩ => ?_) h1
  obtain ⟨d, rfl, q⟩ := q1
  cases r1
  exact wpAny_truthy_bool ⟨H1, I1, q⟩
/-- an expression whose value is a bool, as a test -/
theorem pt_val {e : Expr} {t : TE} (h : PE X e t) (he : ∀ whole, isTrue e X.env whole = (do let v ← whole; standAt e.pos; holding [v] (truthy v)) := by intro _; rfl) : PT X e (tB t) := by
  intro pins s σ H Q I hw
  refine isTrue_plain (thn (h pins s σ H _ I hw) fun v s1 ⟨x, H1, I1, r1, q1⟩ => ?_) (he _)
  obtain ⟨d, rfl, q⟩ := q1
  cases r1
  exact wpAny_truthy_bool ⟨H1, I1, q⟩

/-! ### and, or, not -/
variable {tA tB' : TT} {rest : List Expr}
def tAnd (t u : TT) : TT := fun σ H Q => t σ H fun c H1 => if c = true then u σ H1 Q else Q false H1
def tOr (t u : TT) : TT := fun σ H Q => t σ H fun c H1 => if c = true then Q true H1 else u σ H1 Q
def tNot (t : TT) : TT := fun σ H Q => t σ H fun c H1 => Q (!c) H1
theorem pw_and1 (ha : PT X a tA) : PW X (.BoolOp .And [a] pos) tA := by
  intro wh pins s σ H Q I h
  refine isTrue_and (thn (ha pins s σ H Q I h) fun c s1 e => ?_)
  cases c with
  | true => exact isTrue_and_nil e
  | false => exact e
theorem pw_or1 (ha : PT X a tA) : PW X (.BoolOp .Or [a] pos) tA := by
  intro wh pins s σ H Q I h
  refine isTrue_or (thn (ha pins s σ H Q I h) fun c s1 e => ?_)
  cases c with
  | false => exact isTrue_or_nil e
  | true => exact e
theorem pw_and (ha : PT X a tA) (hb : PW X (.BoolOp .And (b :: rest) pos) tB') : PW X (.BoolOp .And (a :: b :: rest) pos) (tAnd tA tB') := by
  intro wh pins s σ H Q I h
  refine isTrue_and (thn (ha pins s σ H _ I h) fun c s1 ⟨H1, I1, q1⟩ => ?_)
  cases c with
  | true => exact hb wh pins s1 σ H1 Q I1 q1
  | false => exact ⟨H1, I1, q1⟩
theorem pw_or (ha : PT X a tA) (hb : PW X (.BoolOp .Or (b :: rest) pos) tB') : PW X (.BoolOp .Or (a :: b :: rest) pos) (tOr tA tB') := by
  intro wh pins s σ H Q I h
  refine isTrue_or (thn (ha pins s σ H _ I h) fun c s1 ⟨H1, I1, q1⟩ => ?_)
  cases c with
  | true => exact ⟨H1, I1, q1⟩
  | false => exact hb wh pins s1 σ H1 Q I1 q1
theorem pt_not (ha : PT X a tA) : PT X (.UnaryOp .Not a pos) (tNot tA) := by
  intro pins s σ H Q I h
  exact isTrue_not (ha pins s σ H (fun c H1 => Q (!c) H1) I h)
/-- .. as values (bools) -/
def tAndV (ta tb : TE) : TE := fun σ H Q => ta σ H fun x H1 => ∃ c, x = .bl c ∧ if c = true then tb σ H1 Q else Q (.bl false) H1
def tOrV (ta tb : TE) : TE := fun σ H Q => ta σ H fun x H1 => ∃ c, x = .bl c ∧ if c = true then Q (.bl true) H1 else tb σ H1 Q
def tNotV (ta : TE) : TE := fun σ H Q => ta σ H fun x H1 => ∃ c, x = .bl c ∧ Q (.bl (!c)) H1
theorem pe_one {op} {t : TE} (h : PE X a t) : PE X (.BoolOp op [a] pos) t := fun pins s σ H Q I hw => BoolOp_one (h pins s σ H Q I hw)
theorem pe_and (ha : PE X a ta) (hb : PE X (.BoolOp .And (b :: rest) pos) tb) : PE X (.BoolOp .And (a :: b :: rest) pos) (tAndV ta tb) := by
  intro pins s σ H Q I h
  refine BoolOp_and (thn (ha pins s σ H _ I h) fun v s1 ⟨x, H1, I1, r1, q1⟩ => ?_)
  obtain ⟨c, rfl, q1⟩ := q1
  cases r1
  refine wpAny_truthy_bool ?_
  cases c with
  | true => exact hb pins s1 σ H1 Q I1 q1
  | false => exact ⟨.bl false, H1, I1, rfl, q1⟩
theorem pe_or (ha : PE X a ta) (hb : PE X (.BoolOp .Or (b :: rest) pos) tb) : PE X (.BoolOp .Or (a :: b :: rest) pos) (tOrV ta tb) := by
  intro pins s σ H Q I h
  refine BoolOp_or (thn (ha pins s σ H _ I h) fun v s1 ⟨x, H1, I1, r1, q1⟩ => ?_)
  obtain ⟨c, rfl, q1⟩ := q1
  cases r1
  refine wpAny_truthy_bool ?_
  cases c with
  | false => exact hb pins s1 σ H1 Q I1 q1
  | true => exact ⟨.bl true, H1, I1, rfl, q1⟩
theorem pe_not (ha : PE X a ta) : PE X (.UnaryOp .Not a pos) (tNotV ta) := by
  intro pins s σ H Q I h
  refine UnaryOp_ (thn (ha pins s σ H _ I h) fun v s1 ⟨x, H1, I1, r1, q1⟩ => ?_)
  obtain ⟨c, rfl, q1⟩ := q1
  cases r1
  exact not_of (wpAny_truthy_bool ⟨.bl (!c), H1, I1, rfl, q1⟩)
/-- a if t else b -/
def tIf (t : TT) (ta tb : TE) : TE := fun σ H Q => t σ H fun c H1 => if c = true then ta σ H1 Q else tb σ H1 Q
theorem pe_ifExp {c : Expr} (hc : PT X c tA) (ha : PE X a ta) (hb : PE X b tb) : PE X (.IfExp c a b pos) (tIf tA ta tb) := by
  intro pins s σ H Q I h
  refine wpAny_IfExp (thn (hc pins s σ H _ I h) fun d s1 ⟨H1, I1, q1⟩ => ?_)
  cases d with
  | true => exact ha pins s1 σ H1 Q I1 q1
  | false => exact hb pins s1 σ H1 Q I1 q1
end
end L2

namespace L2
open PySem PySem.Spec PyProof.Rows

/-! ### a list, a tuple that is read: tracked, frozen, or an object of the module -/
def SqL (K : PySem.W.Frag) (H : Hp) (a : Addr) (xs : List V) : Prop :=
  Rd H a (.lst xs) ∨
    ∃ (o : Obj) (its : Array Value) (n : Nat), K.lookup a = some o ∧ o.cls = .type "list" ∧ o.dict = none ∧ o.data = .seq its n ∧ its.size ≤ sizeLine ∧ Vals xs its.toList
def SqT (K : PySem.W.Frag) (H : Hp) (a : Addr) (xs : List V) : Prop :=
  Rd H a (.tup xs) ∨
    ∃ (o : Obj) (its : Array Value) (n : Nat), K.lookup a = some o ∧ o.cls = .type "tuple" ∧ o.data = .seq its n ∧ its.size ≤ sizeLine ∧ Vals xs its.toList
def absV : Value → Option V
  | .none => some .non
  | .bool b => some (.bl b)
  | .int i _ => some (.int i)
  | .str x _ => some (.str x)
  | .bytes b _ => some (.byt b)
  | .float b _ => some (.flt b)
  | .ref a => some (.ref a)
  | .type n => some (.ty n)
  | _ => none
theorem RelV.abs {x : V} {u : Value} (r : RelV x u) : absV u = some x := by
  cases x with
  | non => cases r; rfl
  | bl _ => cases r; rfl
  | int _ => obtain ⟨t, rfl⟩ := r; rfl
  | str _ => obtain ⟨t, rfl⟩ := r; rfl
  | byt _ => obtain ⟨t, rfl⟩ := r; rfl
  | flt _ => obtain ⟨t, rfl⟩ := r; rfl
  | ref _ => cases r; rfl
  | ty _ => cases r; rfl
theorem RelV.inj {x y : V} {u : Value} (r : RelV x u) (q : RelV y u) : x = y := Option.some.inj (r.abs.symm.trans q.abs)
theorem Vals.inj : ∀ {xs ys : List V} {us : List Value}, Vals xs us → Vals ys us → xs = ys
  | _, _, _, .nil, .nil => rfl
  | _, _, _, .cons r t, .cons r' t' => by rw [r.inj r', Vals.inj t t']
section
variable {X : Cx} {pins : List (Addr × Obj)} {σ : St} {H : Hp} {s : Shared} {a : Addr} {xs ys : List V}
theorem SqL.of {K : PySem.W.Frag} (h : H a = some (.lst xs)) : SqL K H a xs := .inl (.inl h)
theorem SqT.of {K : PySem.W.Frag} (h : H a = some (.tup xs)) : SqT K H a xs := .inl (.inl h)
theorem Inv.list (I : Inv X pins σ H s) (h : SqL X.K H a xs) : ∃ its : List Value, Vals xs its ∧ PlainL s.heap a its.toArray ∧ xs.length ≤ sizeLine := by
  rcases h with h | ⟨o, its, n, hk, hc, hd, hs, hz, r⟩
  · obtain ⟨z, its, n, r, e⟩ := h.ok I.hok
    exact ⟨its, r, ⟨_, n, e, rfl, rfl, rfl⟩, z⟩
  · refine ⟨its.toList, r, ⟨o, n, I.kIn a o hk, hc, hd, by simpa using hs⟩, ?_⟩
    have e := r.length
    simp only [Array.length_toList] at e
    omega
theorem Inv.tuple (I : Inv X pins σ H s) (h : SqT X.K H a xs) : ∃ its : List Value, Vals xs its ∧ IsTup s.heap a its.toArray ∧ xs.length ≤ sizeLine := by
  rcases h with h | ⟨o, its, n, hk, hc, hs, hz, r⟩
  · obtain ⟨z, its, r, p⟩ := h.ok I.hok
    exact ⟨its, r, p, z⟩
  · refine ⟨its.toList, r, ⟨o, I.kIn a o hk, hc, n, by simpa using hs⟩, ?_⟩
    have e := r.length
    simp only [Array.length_toList] at e
    omega
theorem Inv.list_inj (I : Inv X pins σ H s) (h : SqL X.K H a xs) (h' : SqL X.K H a ys) : xs = ys := by
  obtain ⟨its, r, ⟨o, n, e, _, _, d⟩, _⟩ := I.list h
  obtain ⟨its', r', ⟨o', n', e', _, _, d'⟩, _⟩ := I.list h'
  rw [e] at e'; cases e'
  rw [d] at d'
  injection d' with d1 _
  have : its = its' := by simpa using congrArg Array.toList d1
  subst this
  exact r.inj r'
theorem Inv.tuple_inj (I : Inv X pins σ H s) (h : SqT X.K H a xs) (h' : SqT X.K H a ys) : xs = ys := by
  obtain ⟨its, r, ⟨o, e, _, n, d⟩, _⟩ := I.tuple h
  obtain ⟨its', r', ⟨o', e', _, n', d'⟩, _⟩ := I.tuple h'
  rw [e] at e'; cases e'
  rw [d] at d'
  injection d' with d1 _
  have : its = its' := by simpa using congrArg Array.toList d1
  subst this
  exact r.inj r'
end

/-! ### another wish about exceptions -/
abbrev Cx.wish (X : Cx) (E : Value → Shared → Prop) : Cx := { X with xe := E }
/-- no exception leaves -/
abbrev Cx.nox (X : Cx) : Cx := X.wish fun _ _ => False
theorem Cx.Ok.wish {X : Cx} (ok : X.Ok) (E : Value → Shared → Prop) : (X.wish E).Ok :=
  ⟨ok.mod, ok.kind, ok.glob, ok.blt, ok.above, ok.inj, ok.has, ok.cab, ok.hd, ok.frames, ok.stk, ok.exf, ok.bs, ok.bsz, ok.noex, ok.exfs, ok.funs, ok.frf⟩
theorem Cx.Ok.unwish {X : Cx} {E : Value → Shared → Prop} (ok : (X.wish E).Ok) : X.Ok :=
  ⟨ok.mod, ok.kind, ok.glob, ok.blt, ok.above, ok.inj, ok.has, ok.cab, ok.hd, ok.frames, ok.stk, ok.exf, ok.bs, ok.bsz, ok.noex, ok.exfs, ok.funs, ok.frf⟩
section
variable {X : Cx} {pins : List (Addr × Obj)} {σ : St} {H : Hp} {s : Shared} {E : Value → Shared → Prop}
theorem Inv.wish (I : Inv X pins σ H s) (E : Value → Shared → Prop) : Inv (X.wish E) pins σ H s := ⟨I.ok.wish E, I.os, I.bare, I.base, I.loc, I.cell, I.free, I.freeC, I.pin, I.hok, I.len⟩
theorem Inv.unwish (I : Inv (X.wish E) pins σ H s) : Inv X pins σ H s := ⟨I.ok.unwish, I.os, I.bare, I.base, I.loc, I.cell, I.free, I.freeC, I.pin, I.hok, I.len⟩
theorem SP.unwish {D : Ends} {f : Flow} {s' : Shared} (h : SP (X.wish E) pins D f s') : SP X pins D f s' := by
  cases f with
  | next => obtain ⟨σ', H', I, q⟩ := h; exact ⟨σ', H', I.unwish, q⟩
  | brk => obtain ⟨σ', H', I, q⟩ := h; exact ⟨σ', H', I.unwish, q⟩
  | cont => obtain ⟨σ', H', I, q⟩ := h; exact ⟨σ', H', I.unwish, q⟩
  | ret u => obtain ⟨v, σ', H', I, r, q⟩ := h; exact ⟨v, σ', H', I.unwish, r, q⟩
theorem PE.nox {e : Expr} {t : TE} (h : PE X.nox e t) : PE X e t := fun pins s σ H Q I hw =>
  wpAny_mono (h pins s σ H Q (I.wish _) hw) (fun _ _ ⟨v, H', I', r, q⟩ => ⟨v, H', I'.unwish, r, q⟩) fun _ _ z => False.elim z
theorem PT.nox {e : Expr} {t : TT} (h : PT X.nox e t) : PT X e t := fun pins s σ H Q I hw =>
  wpAny_mono (h pins s σ H Q (I.wish _) hw) (fun _ _ ⟨H', I', q⟩ => ⟨H', I'.unwish, q⟩) fun _ _ z => False.elim z
theorem PSs.nox {st : List Stmt} {t : TS} (h : PSs X.nox st t) : PSs X st t := fun pins s σ H D I hw =>
  wpAny_mono (h pins s σ H D (I.wish _) hw) (fun _ _ q => q.unwish) fun _ _ z => False.elim z
end

/-! ### blocks and small statements -/
section
variable {X : Cx} {st : Stmt} {rest : List Stmt} {t u : TS} {e : Expr} {te : TE} {pos : Pos}
def tNext : TS := fun D σ H => D.nx σ H
def tSeq (t u : TS) : TS := fun D σ H => t { D with nx := u D } σ H
theorem pss_nil : PSs X [] tNext := fun _ _ σ H _ I h => wpAny_execs_nil ⟨σ, H, I, h⟩
theorem pss_cons (h1 : PS X st t) (h2 : PSs X rest u) : PSs X (st :: rest) (tSeq t u) := by
  intro pins s σ H D I h
  refine wpAny_execs_cons (thn (h1 pins s σ H { D with nx := u D } I h) fun f s1 q => ?_)
  cases f with
  | next =>
    obtain ⟨σ', H', I', q⟩ := q
    exact h2 pins s1 σ' H' D I' q
  | ret v => exact q
  | brk => exact q
  | cont => exact q
theorem pss_one (h1 : PS X st t) : PSs X [st] t := by
  intro pins s σ H D I h
  refine wpAny_execs_cons (thn (h1 pins s σ H D I h) fun f s1 q => ?_)
  cases f with
  | next => exact wpAny_execs_nil q
  | ret v => exact q
  | brk => exact q
  | cont => exact q
def tBreak : TS := fun D σ H => D.bk σ H
def tCont : TS := fun D σ H => D.ct σ H
theorem ps_pass : PS X (.Pass pos) tNext := fun _ _ σ H _ I h => wpAny_Pass ⟨σ, H, I, h⟩
theorem ps_break : PS X (.Break pos) tBreak := fun _ _ σ H _ I h => wpAny_Break ⟨σ, H, I, h⟩
theorem ps_continue : PS X (.Continue pos) tCont := fun _ _ σ H _ I h => wpAny_Continue ⟨σ, H, I, h⟩
/-- in a def's body nothing is shown -/
theorem Inv.quiet {pins : List (Addr × Obj)} {σ : St} {H : Hp} {s : Shared} (I : Inv X pins σ H s) : interactive X.env = false := by simp [interactive, I.ok.kind]
/-- a docstring -/
theorem ps_doc {x j pos pos'} : PS X (.Expr (.Constant (.str x) j pos) pos') tNext := fun _ s σ H _ I h => wpAny_Expr (Calls.Constant_str (show SP X _ _ .next { s with toks := s.toks + 1 } from ⟨σ, H, I.tok _, h⟩)) I.quiet
/-- an expression whose value is dropped -/
def tDrop (te : TE) : TS := fun D σ H => te σ H fun _ H1 => D.nx σ H1
theorem ps_expr (he : PE X e te) (hs : swapsWith e none pos.line X.env = pure false := by rfl) : PS X (.Expr e pos) (tDrop te) := by
  intro pins s σ H D I h
  exact wpAny_Expr_any (thn (he pins s σ H _ I h) fun v s1 ⟨x, H1, I1, r1, q1⟩ => ⟨σ, H1, I1, q1⟩) I.quiet hs
def tRet (te : TE) : TS := fun D σ H => te σ H D.rt
theorem ps_ret (he : PE X e te) : PS X (.Return (some e) pos) (tRet te) := by
  intro pins s σ H D I h
  exact wpAny_Return_some (thn (he pins s σ H _ I h) fun v s1 ⟨x, H1, I1, r1, q1⟩ => ⟨x, σ, H1, I1, r1, q1⟩)
def tRetN : TS := fun D _ H => D.rt .non H
theorem ps_retN : PS X (.Return none pos) tRetN := fun _ _ σ H _ I h => wpAny_Return_none ⟨.non, σ, H, I, rfl, h⟩
def tIfS (c : TT) (t u : TS) : TS := fun D σ H => c σ H fun b H1 => if b = true then t D σ H1 else u D σ H1
theorem ps_if {c : Expr} {a b : List Stmt} {tc : TT} (hc : PT X c tc) (ha : PSs X a t) (hb : PSs X b u) : PS X (.If c a b pos) (tIfS tc t u) := by
  intro pins s σ H D I h
  refine wpAny_If (thn (hc pins s σ H _ I h) fun d s1 ⟨H1, I1, q1⟩ => ?_)
  cases d with
  | true => exact ha pins s1 σ H1 D I1 q1
  | false => exact hb pins s1 σ H1 D I1 q1
/-- code that the proof never comes to -/
def tNever : TS := fun _ _ _ => False
theorem ps_never : PS X st tNever := fun _ _ _ _ _ _ h => h.elim
theorem pss_never {sts : List Stmt} : PSs X sts tNever := fun _ _ _ _ _ _ h => h.elim
end

/-! ### targets -/
abbrev TG := V → St → Hp → (St → Hp → Prop) → Prop
abbrev TGs := List V → St → Hp → (St → Hp → Prop) → Prop
def PG (X : Cx) (target : Expr) (t : TG) : Prop :=
  ∀ (pins : List (Addr × Obj)) (s : Shared) (σ : St) (H : Hp) (v : V) (u : Value) (Q : St → Hp → Prop), Inv X pins σ H s → RelV v u → t v σ H Q →
    wpAny (model X.prog X.w) X.A (assign target X.env u) (fun _ s' => ∃ σ' H', Inv X pins σ' H' s' ∧ Q σ' H') X.xe s
/-- several targets, one after another -/
def PGs (X : Cx) (ts : List Expr) (t : TGs) : Prop :=
  ∀ (pins : List (Addr × Obj)) (s : Shared) (σ : St) (H : Hp) (vs : List V) (us : List Value) (Q : St → Hp → Prop), Inv X pins σ H s → Vals vs us → t vs σ H Q →
    wpAny (model X.prog X.w) X.A (assignInOrder ((assignEach ts X.env).map (·.2)) us) (fun _ s' => ∃ σ' H', Inv X pins σ' H' s' ∧ Q σ' H') X.xe s
/-- o[i] = v, by values -/
abbrev TSet := V → V → V → Hp → (Hp → Prop) → Prop
def PSet (X : Cx) (t : TSet) : Prop :=
  ∀ (pins : List (Addr × Obj)) (s : Shared) (σ : St) (H : Hp) (o i v : V) (ov iv u : Value) (Q : Hp → Prop), Inv X pins σ H s → RelV o ov → RelV i iv → RelV v u → t o i v H Q →
    wpAny (model X.prog X.w) X.A (setItem ov iv u) (fun _ s' => ∃ H', Inv X pins σ H' s' ∧ Q H') X.xe s
/-- a op= b, by values -/
abbrev TIp := V → V → Hp → VK → Prop
def PIp (X : Cx) (op : Operator) (t : TIp) : Prop :=
  ∀ (pins : List (Addr × Obj)) (s : Shared) (σ : St) (H : Hp) (x y : V) (v u : Value) (Q : VK), Inv X pins σ H s → RelV x v → RelV y u → t x y H Q →
    wpAny (model X.prog X.w) X.A (inplaceOp op v u) (EP X pins σ Q) X.xe s
section
variable {X : Cx} {pos : Pos}
def gName (i : Nat) : TG := fun v σ H Q => Q (σ.set i (some v)) H
theorem pg_name {i : Nat} {x : Str} (hN : X.N.Nodup) (hi : X.N[i]? = some x) (hx : Loc X.env.scope x) (hf : X.fn x = true ∨ X.env.scope.names.lookup x = some .local := by first | exact .inl rfl | exact .inr rfl | assumption) : PG X (.Name x pos) (gName i) := by
  intro pins s σ H v u Q I r h
  exact wpAny_assign_Name (store_ok I hN hi hx r (fun s' I' => ⟨_, H, I', h⟩) hf)
def gNil : TGs := fun vs σ H Q => vs = [] ∧ Q σ H
def gCons (t : TG) (u : TGs) : TGs := fun vs σ H Q => ∃ v r, vs = v :: r ∧ t v σ H fun σ' H' => u r σ' H' Q
theorem pgs_nil : PGs X [] gNil := by
  intro pins s σ H vs us Q I r h
  obtain ⟨e, h⟩ := h
  subst e
  cases r
  exact assignInOrder_nil ⟨σ, H, I, h⟩
theorem pgs_cons {e : Expr} {es : List Expr} {t : TG} {u : TGs} (h1 : PG X e t) (h2 : PGs X es u)
    (hs : (assignEach (e :: es) X.env).map (·.2) = assign e X.env :: (assignEach es X.env).map (·.2) := by rfl) : PGs X (e :: es) (gCons t u) := by
  intro pins s σ H vs us Q I r h
  obtain ⟨v, vr, e1, h⟩ := h
  subst e1
  cases r with
  | cons r rr =>
    rw [hs]
    refine assignInOrder_cons (thn (h1 pins s σ H _ _ _ I r h) fun _ s1 ⟨σ1, H1, I1, q1⟩ => ?_)
    exact h2 pins s1 σ1 H1 _ _ Q I1 rr q1
/-- (a, b, ..) = a tuple of that length -/
def gTup (K : PySem.W.Frag) (n : Nat) (t : TGs) : TG := fun v σ H Q => ∃ a xs, v = .ref a ∧ SqT K H a xs ∧ xs.length = n ∧ t xs σ H Q
theorem pg_tup {es : List Expr} {k : Nat} {t : TGs} {n : Nat} (hc : X.calm = true) (h : PGs X es t)
    (hn : (assignEach es X.env).length = n := by rfl) (hst : (assignEach es X.env).findIdx? (·.1) = none := by rfl) : PG X (.Tuple es k pos) (gTup X.K n t) := by
  intro pins s σ H v u Q I r hw
  obtain ⟨a, xs, e1, hq, hl, hw⟩ := hw
  subst e1
  cases r
  obtain ⟨its, rv, ht, hz⟩ := I.tuple hq
  refine assign_Tuple_tuple (I.ok.hd hc) ht (by simp [hn, ← hl, rv.length]) hst fun h' hx => ?_
  have I1 : Inv X pins σ H { s with heap := h' } := I.kept (t' := s.toks) fun b o e => hx b o (Nat.ne_of_lt (Heap.lt_size e)) e
  exact h pins _ σ H xs _ Q I1 (by simpa using rv) hw
/-- o[i] = .. -/
def gSub (to ti : TE) (t : TSet) : TG := fun v σ H Q => to σ H fun o H1 => ti σ H1 fun i H2 => t o i v H2 fun H3 => Q σ H3
theorem pg_sub {o i : Expr} {to ti : TE} {t : TSet} (ho : PE X o to) (hi : PE X i ti) (hs : PSet X t)
    (ha : ∀ v, assign (.Subscript o i pos) X.env v = (do
      let ov ← holding [v] (eval o X.env)
      let iv ← holding [v, ov] (eval i X.env)
      standAt pos
      holding [v, ov, iv] (setItem ov iv v)
      release [v, ov, iv] []) := by intro _; rfl) : PG X (.Subscript o i pos) (gSub to ti t) := by
  intro pins s σ H v u Q I r h
  rw [ha]
  refine wpAny_bind (wpAny_holding (thn (ho pins s σ H _ I h) fun ov s1 ⟨x, H1, I1, r1, q1⟩ => ?_))
  refine wpAny_bind (wpAny_holding (thn (hi pins s1 σ H1 _ I1 q1) fun iv s2 ⟨y, H2, I2, r2, q2⟩ => ?_))
  refine wpAny_bind (wpAny_standAt (wpAny_bind (wpAny_holding (thn (hs pins s2 σ H2 x y v ov iv u _ I2 r1 r2 r q2) fun _ s3 ⟨H3, I3, q3⟩ => ?_))))
  exact wpAny_release ⟨σ, H3, I3, q3⟩
/-- target = value -/
def tAsg (te : TE) (g : TG) : TS := fun D σ H => te σ H fun x H1 => g x σ H1 D.nx
theorem ps_asg {tg e : Expr} {te : TE} {g : TG} (he : PE X e te) (hg : PG X tg g) (hs : swapsWithSole [tg] e pos.line X.env = pure false := by rfl) (hw : swappedStores [tg] e X.env = pure none := by rfl)
    (h1 : (assignEach [tg] X.env).map (·.2) = [assign tg X.env] := by rfl) : PS X (.Assign [tg] e pos) (tAsg te g) := by
  intro pins s σ H D I h
  refine wpAny_Assign_stores (thn (he pins s σ H _ I h) fun v s1 ⟨x, H1, I1, r1, q1⟩ => ?_) hs hw
  rw [h1]
  exact thn (hg pins s1 σ H1 x v _ I1 r1 q1) fun _ s2 q => q
/-- name = value -/
theorem ps_set {i : Nat} {x : Str} {e : Expr} {te : TE} {pos' : Pos} (hN : X.N.Nodup) (hi : X.N[i]? = some x) (hx : Loc X.env.scope x) (he : PE X e te) (hs : swapsWith e (some (.Name x pos')) pos.line X.env = pure false := by rfl) (hf : X.fn x = true ∨ X.env.scope.names.lookup x = some .local := by first | exact .inl rfl | exact .inr rfl | assumption) :
    PS X (.Assign [.Name x pos'] e pos) (tAsg te (gName i)) := by
  intro pins s σ H D I h
  refine wpAny_Assign_Name (thn (he pins s σ H _ I h) fun v s1 ⟨y, H1, I1, r1, q1⟩ => ?_) hs
  exact store_ok I1 hN hi hx r1 (fun s2 I2 => ⟨_, H1, I2, q1⟩) hf
/-- a, b = x, y with plain local names: stored from the right; the pair itself is not tracked (the opening rows as in PyProof/Rows/TupAssign.lean:23) -/
def tPar (i j : Nat) (ta : TA) : TS := fun D σ H => ta σ H fun vs H1 => ∃ v w, vs = [v, w] ∧ D.nx ((σ.set i (some v)).set j (some w)) H1
theorem ps_par {i j : Nat} {x y : Str} {a b : Expr} {ta : TA} {px py pt : Pos} {kt k2 pt2} (hc : X.calm = true) (hN : X.N.Nodup) (hi : X.N[i]? = some x) (hj : X.N[j]? = some y) (hij : i ≠ j)
    (hx : X.env.scope.names.lookup x = some .local) (hy : X.env.scope.names.lookup y = some .local) (ha : PA X [a, b] ta)
    (hw : swappedStores [.Tuple [.Name x px, .Name y py] kt pt] (.Tuple [a, b] k2 pt2) X.env = pure (some [x, y]))
    (hs : swapsWithSole [.Tuple [.Name x px, .Name y py] kt pt] (.Tuple [a, b] k2 pt2) pos.line X.env = pure false := by rfl) :
    PS X (.Assign [.Tuple [.Name x px, .Name y py] kt pt] (.Tuple [a, b] k2 pt2) pos) (tPar i j ta) := by
  intro pins s σ H D I h
  rw [exec_Assign_arm]
  refine wpAny_bind (wpAny_standAt ?_)
  rw [hs]
  refine wpAny_bind (wpAny_pure ?_)
  rw [if_neg (by decide)]
  refine wpAny_bind (Tuple_ (thn (ha _ pins s σ H _ I h) fun us s1 ⟨vs, H1, I1, r1, q1⟩ => ?_))
  obtain ⟨v, w, e1, q1⟩ := q1
  subst e1
  obtain ⟨u1, u2, rfl, rv, rw'⟩ : ∃ u1 u2, us = [u1, u2] ∧ RelV v u1 ∧ RelV w u2 := by
    cases r1 with
    | cons p q =>
      cases q with
      | cons p' q' =>
        cases q'
        exact ⟨_, _, rfl, p, p'⟩
  refine wpAny_newObj_type ?_ (by show 2 ≤ sizeLine; decide)
  have I2 : Inv X pins σ H1 { s1 with heap := s1.heap.push { cls := .type "tuple", data := .seq [u1, u2].toArray } } := I1.kept (t' := s1.toks) fun b o e => Heap.get?_push_of_some _ e
  rw [hw]
  refine wpAny_bind (wpAny_pure ?_)
  show wpAny (model X.prog X.w) X.A (do rule "assign.swapped-stores"; let items ← unpackItems (.ref s1.heap.objs.size) 2 none; assignInOrder [fun v => bindName X.env y v, fun v => bindName X.env x v] items.reverse; pure Flow.next) _ _ _
  refine wpAny_bind (wpAny_rule (wpAny_bind (unpackItems_tuple (items := #[u1, u2]) (I.ok.hd hc) (IsTup.new s1.heap _) fun h' hx' => ?_)))
  have I3 := I2.kept (h' := h') (t' := s1.toks) fun b o e => hx' b o (Nat.ne_of_lt (Heap.lt_size e)) e
  show wpAny _ _ (assignInOrder [fun v => bindName X.env y v, fun v => bindName X.env x v] [u2, u1] >>= fun _ => pure Flow.next) _ _ _
  refine wpAny_bind (assignInOrder_cons (wpAny_bindName (store_ok I3 hN hj (.inl hy) rw' (fun s2 I4 => ?_) (.inr hy))))
  refine assignInOrder_cons (wpAny_bindName (store_ok I4 hN hi (.inl hx) rv (fun s3 I5 => assignInOrder_nil (wpAny_pure ?_)) (.inr hx)))
  rw [List.set_comm _ _ (Ne.symm hij)] at I5
  exact ⟨_, H1, I5, q1⟩
/-- name op= e -/
def tAug (i : Nat) (te : TE) (ti : TIp) : TS := fun D σ H => ∃ x, σ[i]? = some (some x) ∧ te σ H fun y H1 => ti x y H1 fun z H2 => D.nx (σ.set i (some z)) H2
theorem ps_aug {i : Nat} {x : Str} {e : Expr} {te : TE} {op : Operator} {ti : TIp} {pos' : Pos} (hN : X.N.Nodup) (hi : X.N[i]? = some x) (hx : Loc X.env.scope x) (he : PE X e te) (ho : PIp X op ti) (hf : X.fn x = true ∨ X.env.scope.names.lookup x = some .local := by first | exact .inl rfl | exact .inr rfl | assumption) :
    PS X (.AugAssign (.Name x pos') op e pos) (tAug i te ti) := by
  intro pins s σ H D I h
  obtain ⟨v, e1, h⟩ := h
  obtain ⟨m, hn, hl⟩ := I.loc
  have vis : Vis X.env.scope x := by rcases hx with k | k; exact .inl k; exact .inr (.inl k)
  obtain ⟨u, r, l⟩ := hl i x v hi e1 vis
  refine wpAny_AugAssign_Name ?_
  have go : wpAny (model X.prog X.w) X.A (eval e X.env) (fun w s₂ => wpAny (model X.prog X.w) X.A (inplaceOp op u w) (fun r s₃ => wpAny (model X.prog X.w) X.A (storeName X.env x r) (fun _ => SP X pins D .next) X.xe s₃) X.xe s₂) X.xe s := by
    refine thn (he pins s σ H _ I h) fun w s1 ⟨y, H1, I1, r1, q1⟩ => ?_
    refine thn (ho pins s1 σ H1 v y u w _ I1 r r1 q1) fun z s2 ⟨zv, H2, I2, r2, q2⟩ => ?_
    exact store_ok I2 hN hi hx r2 (fun s3 I3 => ⟨_, H2, I3, q2⟩) hf
  rcases l with ⟨hk, hm⟩ | ⟨hk, c, hc, hcell⟩
  · exact wpAny_loadName_local I.ok.kind hk hn hm go
  · rcases hk with hk | hk
    · exact wpAny_loadName_cell I.ok.kind hk hc hcell go
    · rcases hx with k | k
      · have : X.env.scope.names.lookup x = some .free := hk
        rw [k] at this; cases this
      · have : X.env.scope.names.lookup x = some .free := hk
        rw [k] at this; cases this
/-- o[i] op= e -/
def tAugS (to ti te : TE) (tget : V → V → Hp → VK → Prop) (tip : TIp) (tset : TSet) : TS := fun D σ H => to σ H fun o H1 => ti σ H1 fun i H2 => tget o i H2 fun x H3 => te σ H3 fun y H4 => tip x y H4 fun z H5 => tset o i z H5 fun H6 => D.nx σ H6
/-- o[i], by values -/
def PGet (X : Cx) (t : V → V → Hp → VK → Prop) : Prop :=
  ∀ (pins : List (Addr × Obj)) (s : Shared) (σ : St) (H : Hp) (o i : V) (ov iv : Value) (Q : VK), Inv X pins σ H s → RelV o ov → RelV i iv → t o i H Q →
    wpAny (model X.prog X.w) X.A (getItem ov iv) (EP X pins σ Q) X.xe s
theorem ps_augS {o i e : Expr} {to ti te : TE} {tget : V → V → Hp → VK → Prop} {tip : TIp} {tset : TSet} {op : Operator} {tpos : Pos} (ho : PE X o to) (hi : PE X i ti) (hg : PGet X tget) (he : PE X e te) (hp : PIp X op tip) (hs : PSet X tset)
    (ha : ∀ ov iv new, augStore i ov iv new = (do holding [new, ov, iv] (setItem ov iv new); release [new, ov, iv] []; pure .next) := by intros; rfl) : PS X (.AugAssign (.Subscript o i tpos) op e pos) (tAugS to ti te tget tip tset) := by
  intro pins s σ H D I h
  refine wpAny_AugAssign_SubscriptAny (thn (ho pins s σ H _ I h) fun ov s1 ⟨x1, H1, I1, r1, q1⟩ => ?_) ha
  refine thn (hi pins s1 σ H1 _ I1 q1) fun iv s2 ⟨x2, H2, I2, r2, q2⟩ => ?_
  refine thn (hg pins s2 σ H2 x1 x2 ov iv _ I2 r1 r2 q2) fun old s3 ⟨x3, H3, I3, r3, q3⟩ => ?_
  refine thn (he pins s3 σ H3 _ I3 q3) fun v s4 ⟨x4, H4, I4, r4, q4⟩ => ?_
  refine thn (hp pins s4 σ H4 x3 x4 old v _ I4 r3 r4 q4) fun new s5 ⟨x5, H5, I5, r5, q5⟩ => ?_
  exact thn (hs pins s5 σ H5 x1 x2 x5 ov iv new _ I5 r1 r2 r5 q5) fun _ s6 ⟨H6, I6, q6⟩ => ⟨σ, H6, I6, q6⟩
/-- ints -/
def ipI (f : Int → Int → Int) : TIp := fun x y H Q => ∃ i j, x = .int i ∧ y = .int j ∧ Q (.int (f i j)) H
theorem ip_add : PIp X .Add (ipI fun i j => i + j) := by
  intro pins s σ H x y v u Q I r1 r2 h
  obtain ⟨i, j, e1, e2, q⟩ := h
  subst e1; subst e2
  obtain ⟨t, rfl⟩ := r1
  obtain ⟨t', rfl⟩ := r2
  exact iadd_int ⟨.int _, H, I.tok _, ⟨_, rfl⟩, q⟩
theorem ip_sub : PIp X .Sub (ipI fun i j => i - j) := by
  intro pins s σ H x y v u Q I r1 r2 h
  obtain ⟨i, j, e1, e2, q⟩ := h
  subst e1; subst e2
  obtain ⟨t, rfl⟩ := r1
  obtain ⟨t', rfl⟩ := r2
  exact isub_int ⟨.int _, H, I.tok _, ⟨_, rfl⟩, q⟩
end

/-! ### while -/
section
variable {X : Cx} {pos : Pos}
/-- the invariant W with its measure -/
def tWhile (c : TT) (tb : TS) : TS := fun D σ H => ∃ W : Nat → St → Hp → Prop, (∃ m, W m σ H) ∧ ∀ m σ H, W m σ H →
  c σ H fun b H1 => if b = true then ∃ N : St → Hp → Prop, (∀ σ' H', N σ' H' → ∃ m', m' < m ∧ W m' σ' H') ∧ tb { D with nx := N, ct := N, bk := D.nx } σ H1 else D.nx σ H1
theorem ps_while {c : Expr} {body : List Stmt} {tc : TT} {tb : TS} (hp : PassesOwn (model X.prog X.w) X.A X.env X.xe) (hc : PT X c tc) (hb : PSs X body tb) : PS X (.While c body [] pos) (tWhile tc tb) := by
  intro pins s σ H D I h
  obtain ⟨W, ⟨m0, w0⟩, turn⟩ := h
  refine wpAny_While (codeAny_whileLoop (fun n s' => ∃ σ' H', Inv X pins σ' H' s' ∧ W n σ' H') ?_ m0 ⟨σ, H, I, w0⟩)
  rintro n s1 ⟨σ1, H1, I1, w1⟩
  refine wpAny_passesOwn hp (thn (hc pins s1 σ1 H1 _ I1 (turn n σ1 H1 w1)) fun b s2 ⟨H2, I2, q2⟩ => ?_)
  cases b with
  | true =>
    obtain ⟨N, hN, q2⟩ := q2
    rw [if_pos rfl]
    refine wpAny_passesOwn hp (thn (hb pins s2 σ1 H2 _ I2 q2) fun f s3 q3 => ?_)
    cases f with
    | next =>
      obtain ⟨σ3, H3, I3, n3⟩ := q3
      obtain ⟨m', hm, w3⟩ := hN σ3 H3 n3
      exact ⟨m', hm, σ3, H3, I3, w3⟩
    | cont =>
      obtain ⟨σ3, H3, I3, n3⟩ := q3
      obtain ⟨m', hm, w3⟩ := hN σ3 H3 n3
      exact ⟨m', hm, σ3, H3, I3, w3⟩
    | brk => exact q3
    | ret v => exact q3
  | false =>
    rw [if_neg Bool.false_ne_true]
    exact wpAny_execs_nil ⟨σ1, H2, I2, q2⟩
end

/-! ### what a loop or a comprehension walks -/
/-- at turn i: it yields x (the heap may grow), or it stops -/
structure It where
  go : Nat → Hp → Prop
  yld : Nat → Hp → V → Hp → Prop
  stop : Nat → Hp → Prop
/-- the iterator's own objects may turn: they are not the frame's, not pinned, younger than the entry (or a comprehension's own) -/
def FpOk (X : Cx) (pins : List (Addr × Obj)) (H : Hp) (b : Addr) : Prop :=
  H b = none ∧ b ≠ X.env.locals ∧ b ∉ X.fs ∧ (b ∈ X.ex ∨ X.s₀.heap.objs.size ≤ b) ∧ (∀ x c, X.env.cells.lookup x = some c → c ≠ b) ∧ ∀ p ∈ X.pn ++ pins, p.1 ≠ b
theorem Inv.fpOk {X : Cx} {pins : List (Addr × Obj)} {σ : St} {H H' : Hp} {s : Shared} {b : Addr} (I : Inv X pins σ H s) (hb : s.heap.objs.size ≤ b) (hn : H' b = none) : FpOk X pins H' b := by
  refine ⟨hn, Nat.ne_of_gt (Nat.lt_of_lt_of_le I.lt hb), I.nofs hb, .inr (Nat.le_trans I.sz hb), fun x c e z => ?_, fun p hp z => ?_⟩
  · obtain ⟨v, q⟩ := I.cell x c e
    exact absurd (Nat.lt_of_lt_of_le q.lt (by rw [z]; exact hb)) (Nat.lt_irrefl _)
  · exact absurd (Nat.lt_of_lt_of_le (Heap.lt_size (I.pin p hp).1) (by rw [z]; exact hb)) (Nat.lt_irrefl _)
structure Turn (P : Program) (w : World) (K : PySem.W.Frag) (tg : Expr) (J : It) (fp : List Addr) (it : Addr) (tn : Nat → Heap → Prop) : Prop where
  mem : it ∈ fp
  obj : ∀ i h, tn i h → ∀ b ∈ fp, ∃ o, h.get? b = some o ∧ ∀ v, o.data ≠ .cell v
  keep : ∀ i h h', tn i h → (∀ b ∈ fp, ∀ o, h.get? b = some o → h'.get? b = some o) → tn i h'
  item : ∀ (X : Cx), X.prog = P → X.w = w → X.K = K → X.calm = true → ∀ (i : Nat) (pins : List (Addr × Obj)) (s : Shared) (σ : St) (H : Hp) (E : Value → Shared → Prop), Inv X pins σ H s → (∀ b ∈ fp, FpOk X pins H b) → tn i s.heap → J.go i H →
    wpAny (model P w) X.A (pyNext (.ref it)) (fun r s1 => ∃ u, r = some u ∧
      wpAny (model P w) X.A (letOwnedTupleGo tg (.ref it) u) (fun _ s2 => ∃ x H', Inv X pins σ H' s2 ∧ RelV x u ∧ J.yld i H x H' ∧ tn (i + 1) s2.heap ∧ ∀ b ∈ fp, H' b = none) E s1) E s
  done : ∀ (X : Cx), X.prog = P → X.w = w → X.K = K → X.calm = true → ∀ (i : Nat) (pins : List (Addr × Obj)) (s : Shared) (σ : St) (H : Hp) (E : Value → Shared → Prop), Inv X pins σ H s → (∀ b ∈ fp, FpOk X pins H b) → tn i s.heap → J.stop i H →
    wpAny (model P w) X.A (pyNext (.ref it)) (fun r s1 => r = none ∧ Inv X pins σ H s1) E s
  self : ∀ (A : Around) (i : Nat) (s : Shared) (Q : Value → Shared → Prop) (E : Value → Shared → Prop), tn i s.heap → Q (.ref it) s → wpAny (model P w) A (pyIter (.ref it)) Q E s
abbrev TI := St → Hp → (It → Hp → Prop) → Prop
/-- an iterator has come -/
def PIE (X : Cx) (pins : List (Addr × Obj)) (σ : St) (tg : Expr) (R : It → Hp → Prop) (itv : Value) (s2 : Shared) : Prop :=
  ∃ (it : Addr) (fp : List Addr) (tn : Nat → Heap → Prop) (J : It) (H' : Hp), itv = .ref it ∧ Inv X pins σ H' s2 ∧ Turn X.prog X.w X.K tg J fp it tn ∧ tn 0 s2.heap ∧ (∀ b ∈ fp, FpOk X pins H' b) ∧ R J H'
def PI (X : Cx) (tg iter : Expr) (wi : TI) : Prop :=
  ∀ (pins : List (Addr × Obj)) (s : Shared) (σ : St) (H : Hp) (R : It → Hp → Prop), Inv X pins σ H s → wi σ H R →
    wpAny (model X.prog X.w) X.A (eval iter X.env) (fun v s1 => wpAny (model X.prog X.w) X.A (pyIter v) (PIE X pins σ tg R) X.xe s1) X.xe s

/-- the step ahead of the store is nothing for an iterator that keeps no tuple -/
theorem go_of {M : Model} {A : Around} {E : Value → Shared → Prop} {s : Shared} {tg : Expr} {it : Addr} {u : Value} {o : Obj} {n : String} {vs : Array Value} {Q : Unit → Shared → Prop} (ho : s.heap.get? it = some o) (hc : o.cls = .type n) (hd : o.data = .fields vs)
    (hn : ["enumerate", "zip", "dict_itemiterator", "dict_reverseitemiterator", "odict_iterator", "itertools.zip_longest", "itertools.pairwise"].contains n = false) (hQ : Q () s) : wpAny M A (letOwnedTupleGo tg (.ref it) u) Q E s := by
  unfold letOwnedTupleGo
  cases tg <;> first
    | exact wpAny_pure hQ
    | (cases u <;> first
        | exact wpAny_pure hQ
        | (refine wpAny_bind (wpAny_load ho ?_)
           rw [hc, hd]
           show wpAny M A (if (["enumerate", "zip", "dict_itemiterator", "dict_reverseitemiterator", "odict_iterator", "itertools.zip_longest", "itertools.pairwise"].contains n && vs[0]? == some (rawInt _)) = true then _ else _) Q E s
           rw [if_neg (by intro h; rw [hn, Bool.false_and] at h; cases h)]
           exact wpAny_pure hQ))

/-- the list at a, as it stands at each turn (a loop may append to it) -/
def Itl (K : PySem.W.Frag) (a : Addr) : It :=
  ⟨fun i H => ∃ xs x, SqL K H a xs ∧ xs[i]? = some x, fun i H x H' => H' = H ∧ ∀ xs, SqL K H a xs → xs[i]? = some x, fun i H => ∃ xs, SqL K H a xs ∧ xs.length ≤ i⟩
def Itt (K : PySem.W.Frag) (a : Addr) : It :=
  ⟨fun i H => ∃ xs x, SqT K H a xs ∧ xs[i]? = some x, fun i H x H' => H' = H ∧ ∀ xs, SqT K H a xs → xs[i]? = some x, fun i H => ∃ xs, SqT K H a xs ∧ xs.length ≤ i⟩
/-- lo, lo + 1, .. (n of them) -/
def Itr (lo : Int) (n : Nat) : It := ⟨fun i _ => i < n, fun i H x H' => H' = H ∧ x = .int (lo + i), fun i _ => n ≤ i⟩
theorem turn_list {P : Program} {w : World} {K : PySem.W.Frag} {tg : Expr} (a it : Addr) : Turn P w K tg (Itl K a) [it] it (fun i h => h.IsListIter it a i) where
  mem := by simp
  obj := fun i h st b hb => by
    have e : b = it := by simpa using hb
    subst e
    obtain ⟨o, e, c, d⟩ := st
    exact ⟨o, e, fun v z => by rw [d] at z; cases z⟩
  keep := fun i h h' st k => st.at fun o e => k it (by simp) o e
  item := by
    intro X hP hw hK hc i pins s σ H E I hf st hg
    subst hP hw hK
    obtain ⟨xs, x, hq, hx⟩ := hg
    obtain ⟨its, rv, p, hz⟩ := I.list hq
    obtain ⟨u, hu, ru⟩ := rv.get hx
    obtain ⟨f0, f1, f2, f3, f4, f5⟩ := hf it (by simp)
    refine wpAny_pyNext_list_item st p.isList (x := u) (by simpa using hu) fun h' st' sb => ?_
    have I1 : Inv X pins σ H { s with heap := h' } := I.turned (t' := s.toks) (fun b o hb e => (sb.2 b hb).trans e) f0 f1 f3 f4 f5
    obtain ⟨o, e, c, d⟩ := id st'
    exact ⟨u, rfl, go_of (s := { s with heap := h' }) e c d (by decide) ⟨x, H, I1, ru, ⟨rfl, fun ys hy => by rw [I.list_inj hy hq]; exact hx⟩, st', fun b hb => (hf b hb).1⟩⟩
  done := by
    intro X hP hw hK hc i pins s σ H E I hf st hg
    subst hP hw hK
    obtain ⟨xs, hq, hx⟩ := hg
    obtain ⟨its, rv, p, hz⟩ := I.list hq
    obtain ⟨f0, f1, f2, f3, f4, f5⟩ := hf it (by simp)
    have hl := rv.length
    exact wpAny_pyNext_list_end (I.ok.hd hc) st p.isList (by simp; omega) fun h' eb => ⟨rfl, I.turned (t' := s.toks) (fun b o hb e => eb b o hb e) f0 f1 f3 f4 f5⟩
  self := fun _ _ _ _ _ st h => wpAny_pyIter_listiter st h
theorem turn_tuple {P : Program} {w : World} {K : PySem.W.Frag} {tg : Expr} (a it : Addr) : Turn P w K tg (Itt K a) [it] it (fun i h => h.IsTupleIter it a i) where
  mem := by simp
  obj := fun i h st b hb => by
    have e : b = it := by simpa using hb
    subst e
    obtain ⟨o, e, c, d⟩ := st
    exact ⟨o, e, fun v z => by rw [d] at z; cases z⟩
  keep := fun i h h' st k => st.at fun o e => k it (by simp) o e
  item := by
    intro X hP hw hK hc i pins s σ H E I hf st hg
    subst hP hw hK
    obtain ⟨xs, x, hq, hx⟩ := hg
    obtain ⟨its, rv, p, hz⟩ := I.tuple hq
    obtain ⟨u, hu, ru⟩ := rv.get hx
    obtain ⟨f0, f1, f2, f3, f4, f5⟩ := hf it (by simp)
    refine wpAny_pyNext_tuple_item st (show s.heap.IsTuple a its.toArray from p) (x := u) (by simpa using hu) fun h' st' sb => ?_
    have I1 : Inv X pins σ H { s with heap := h' } := I.turned (t' := s.toks) (fun b o hb e => (sb.2 b hb).trans e) f0 f1 f3 f4 f5
    obtain ⟨o, e, c, d⟩ := id st'
    exact ⟨u, rfl, go_of (s := { s with heap := h' }) e c d (by decide) ⟨x, H, I1, ru, ⟨rfl, fun ys hy => by rw [I.tuple_inj hy hq]; exact hx⟩, st', fun b hb => (hf b hb).1⟩⟩
  done := by
    intro X hP hw hK hc i pins s σ H E I hf st hg
    subst hP hw hK
    obtain ⟨xs, hq, hx⟩ := hg
    obtain ⟨its, rv, p, hz⟩ := I.tuple hq
    obtain ⟨f0, f1, f2, f3, f4, f5⟩ := hf it (by simp)
    have hl := rv.length
    exact wpAny_pyNext_tuple_end (I.ok.hd hc) st (show s.heap.IsTuple a its.toArray from p) (by simp; omega) fun h' eb => ⟨rfl, I.turned (t' := s.toks) (fun b o hb e => eb b o hb e) f0 f1 f3 f4 f5⟩
  self := fun _ _ _ _ _ st h => wpAny_pyIter_tupleiter st h
theorem turn_range {P : Program} {w : World} {K : PySem.W.Frag} {tg : Expr} (it : Addr) (lo : Int) (n : Nat) : Turn P w K tg (Itr lo n) [it] it (fun i h => IsRangeIter h it (lo + (i : Nat) * 1) ((n : Int) - (i : Nat)) 1) where
  mem := by simp
  obj := fun i h st b hb => by
    have e : b = it := by simpa using hb
    subst e
    exact ⟨_, st, fun v z => by
      have z' : Data.fields _ = Data.cell v := z
      cases z'⟩
  keep := fun i h h' st k => k it (by simp) _ st
  item := by
    intro X hP hw hK hc i pins s σ H E I hf st hg
    subst hP hw hK
    obtain ⟨f0, f1, f2, f3, f4, f5⟩ := hf it (by simp)
    have W := Walks.range (prog := X.prog) (w := X.w) (I.ok.hd hc) it lo 1 n
    refine W.item i s _ _ hg st fun v h' tk hv st' kk => ?_
    obtain ⟨t, rfl⟩ := hv
    have I1 : Inv X pins σ H { s with heap := h', toks := tk } := I.turned (fun b o hb e => kk b o (by simpa using hb) e) f0 f1 f3 f4 f5
    refine ⟨_, rfl, go_of (s := { s with heap := h', toks := tk }) (n := "range_iterator") st' rfl rfl (by decide) ⟨.int (lo + i), H, I1, ⟨t, ?_⟩, ⟨rfl, rfl⟩, st', fun b hb => (hf b hb).1⟩⟩
    rw [Int.mul_one]
  done := by
    intro X hP hw hK hc i pins s σ H E I hf st hg
    subst hP hw hK
    obtain ⟨f0, f1, f2, f3, f4, f5⟩ := hf it (by simp)
    exact wpAny_pyNext_range_end (I.ok.hd hc) st (by have : n ≤ i := hg; omega) fun h' eb => ⟨rfl, I.turned (t' := s.toks) (fun b o hb e => eb b o hb e) f0 f1 f3 f4 f5⟩
  self := fun _ _ _ _ _ st h => wpAny_pyIter_rangeiter st h
end L2

namespace L2
open PySem PySem.Spec PyProof.Rows
section
variable {X : Cx} {tg : Expr}
def iList (K : PySem.W.Frag) (tl : TE) : TI := fun σ H R => tl σ H fun x H1 => ∃ a, x = .ref a ∧ (∃ xs, SqL K H1 a xs) ∧ R (Itl K a) H1
def iTup (K : PySem.W.Frag) (tl : TE) : TI := fun σ H R => tl σ H fun x H1 => ∃ a, x = .ref a ∧ (∃ xs, SqT K H1 a xs) ∧ R (Itt K a) H1
theorem pi_list {l : Expr} {tl : TE} (hl : PE X l tl) : PI X tg l (iList X.K tl) := by
  intro pins s σ H R I h
  refine thn (hl pins s σ H _ I h) fun v s1 ⟨x, H1, I1, r1, q1⟩ => ?_
  obtain ⟨a, e, ⟨xs, hq⟩, q⟩ := q1
  subst e
  cases r1
  obtain ⟨its, rv, p, hz⟩ := I1.list hq
  refine wpAny_pyIter_list p.isList ?_
  refine ⟨s1.heap.objs.size, [s1.heap.objs.size], _, _, H1, rfl, I1.kept (t' := s1.toks) fun b o e => Heap.get?_push_of_some _ e, turn_list a _, ⟨_, Heap.get?_push_size _ rfl, rfl, rfl⟩, fun b hb => ?_, q⟩
  have e : b = s1.heap.objs.size := by simpa using hb
  subst e
  exact I1.fpOk (Nat.le_refl _) (I1.hok.fresh (Nat.le_refl _))
theorem pi_tup {l : Expr} {tl : TE} (hl : PE X l tl) : PI X tg l (iTup X.K tl) := by
  intro pins s σ H R I h
  refine thn (hl pins s σ H _ I h) fun v s1 ⟨x, H1, I1, r1, q1⟩ => ?_
  obtain ⟨a, e, ⟨xs, hq⟩, q⟩ := q1
  subst e
  cases r1
  obtain ⟨its, rv, p, hz⟩ := I1.tuple hq
  refine wpAny_pyIter_tuple (show s1.heap.IsTuple a its.toArray from p) ?_
  refine ⟨s1.heap.objs.size, [s1.heap.objs.size], _, _, H1, rfl, I1.kept (t' := s1.toks) fun b o e => Heap.get?_push_of_some _ e, turn_tuple a _, ⟨_, Heap.get?_push_size _ rfl, rfl, rfl⟩, fun b hb => ?_, q⟩
  have e : b = s1.heap.objs.size := by simpa using hb
  subst e
  exact I1.fpOk (Nat.le_refl _) (I1.hok.fresh (Nat.le_refl _))
/-- a range object just made, walked -/
theorem range_it {pins : List (Addr × Obj)} {σ : St} {H : Hp} {s : Shared} {R : It → Hp → Prop} {E : Value → Shared → Prop} {lo hi : Int} {t u v : Tok} {tk : Nat} (I : Inv X pins σ H s) (h1 : -(2 ^ 62) ≤ lo) (h2 : lo < 2 ^ 62) (h3 : -(2 ^ 62) ≤ hi) (h4 : hi < 2 ^ 62)
    (q : R (Itr lo (hi - lo).toNat) H) : wpAny (model X.prog X.w) X.A (pyIter (.ref s.heap.objs.size)) (PIE X pins σ tg R) E { s with heap := s.heap.push { cls := .type "range", data := .fields #[.int lo t, .int hi u, .int 1 v] }, toks := tk } := by
  refine wpAny_pyIter_range (IsRange.new ..) (small_one h1 h2 h3 h4) ?_
  have I1 : Inv X pins σ H { s with heap := s.heap.push { cls := .type "range", data := .fields #[.int lo t, .int hi u, .int 1 v] }, toks := tk } := I.kept fun b o e => Heap.get?_push_of_some _ e
  refine ⟨(s.heap.push { cls := .type "range", data := .fields #[.int lo t, .int hi u, .int 1 v] }).objs.size, [(s.heap.push { cls := .type "range", data := .fields #[.int lo t, .int hi u, .int 1 v] }).objs.size], _, _, H, rfl,
    I1.kept (t' := tk) fun b o e => Heap.get?_push_of_some _ e, turn_range _ lo (hi - lo).toNat, ?_, fun b hb => ?_, q⟩
  · have e1 : lo + ((0 : Nat) : Int) * 1 = lo := by simp
    have e2 : (((hi - lo).toNat : Nat) : Int) - ((0 : Nat) : Int) = Builtin.Range.rangeSize lo hi 1 := by rw [rangeSize_one]; split <;> omega
    show IsRangeIter _ _ (lo + ((0 : Nat) : Int) * 1) ((((hi - lo).toNat : Nat) : Int) - ((0 : Nat) : Int)) 1
    rw [e1, e2]
    exact Heap.get?_push_size _ rfl
  · have e : b = (s.heap.push { cls := .type "range", data := .fields #[.int lo t, .int hi u, .int 1 v] }).objs.size := by simpa using hb
    subst e
    exact I1.fpOk (Nat.le_refl _) (I1.hok.fresh (Nat.le_refl _))
def iRng1 (ta : TA) : TI := fun σ H R => ta σ H fun vs H1 => ∃ j : Int, vs = [.int j] ∧ -(2 ^ 62) ≤ j ∧ j < 2 ^ 62 ∧ R (Itr 0 j.toNat) H1
def iRng2 (ta : TA) : TI := fun σ H R => ta σ H fun vs H1 => ∃ i j : Int, vs = [.int i, .int j] ∧ (-(2 ^ 62) ≤ i ∧ i < 2 ^ 62 ∧ -(2 ^ 62) ≤ j ∧ j < 2 ^ 62) ∧ R (Itr i (j - i).toNat) H1
theorem pi_range1 {a : Expr} {ta : TA} {p pos : Pos} (hg : Gl X "range") (hm : X.mg "range" = none) (ha : PA X [a] ta) (hs : starEach [a] X.env = [(false, eval a X.env)] := by rfl) : PI X tg (.Call (.Name "range" p) [a] [] pos) (iRng1 ta) := by
  intro pins s σ H R I h
  refine Call_ (ld_blt I hg hm boot_range (PyProof.Rows.callWith_type1 (thn (ha pos pins s σ H _ I h) fun us s1 ⟨vs, H1, I1, r1, q1⟩ => ?_) hs rfl))
  obtain ⟨j, e, q1, q2, q⟩ := q1
  subst e
  cases r1 with
  | cons r rr =>
    cases rr
    obtain ⟨t, rfl⟩ := r
    exact call_range_1 (range_it I1 (by omega) (by omega) q1 q2 (by simpa using q))
theorem pi_range2 {a b : Expr} {ta : TA} {p pos : Pos} (hg : Gl X "range") (hm : X.mg "range" = none) (ha : PA X [a, b] ta) (hs : starEach [a, b] X.env = [(false, eval a X.env), (false, eval b X.env)] := by rfl) (hs2 : starEach [b] X.env = [(false, eval b X.env)] := by rfl) :
    PI X tg (.Call (.Name "range" p) [a, b] [] pos) (iRng2 ta) := by
  intro pins s σ H R I h
  refine Call_ (ld_blt I hg hm boot_range (PyProof.Rows.callWith_type1 (thn (ha pos pins s σ H _ I h) fun us s1 ⟨vs, H1, I1, r1, q1⟩ => ?_) (by rw [hs, hs2]) (by rw [hs2]; rfl)))
  obtain ⟨i, j, e, ⟨q1, q2, q3, q4⟩, q⟩ := q1
  subst e
  cases r1 with
  | cons r rr =>
    cases rr with
    | cons r' rr =>
      cases rr
      obtain ⟨t, rfl⟩ := r
      obtain ⟨t', rfl⟩ := r'
      exact call_range_2 (range_it I1 q1 q2 q3 q4 q)

/-! ### for -/
/-- W: the invariant by the turn and a measure; N: what the body is to reach -/
def tFor (wi : TI) (g : TG) (tb : TS) : TS := fun D σ H => wi σ H fun J H1 => ∃ W : Nat → Nat → St → Hp → Prop, (∃ m, W 0 m σ H1) ∧ ∀ i m σ H, W i m σ H →
  (J.stop i H ∧ D.nx σ H) ∨ (J.go i H ∧ ∃ N : St → Hp → Prop, (∀ σ' H', N σ' H' → ∃ m', m' < m ∧ W (i + 1) m' σ' H') ∧ ∀ x H', J.yld i H x H' → g x σ H' fun σ2 H2 => tb { D with nx := N, ct := N, bk := D.nx } σ2 H2)
/-- the records at fp as they stand -/
def pinsAt (fp : List Addr) (h : Heap) : List (Addr × Obj) := fp.filterMap fun b => (h.get? b).map fun o => (b, o)
theorem mem_pinsAt {fp : List Addr} {h : Heap} {b : Addr} {o : Obj} (hb : b ∈ fp) (e : h.get? b = some o) : (b, o) ∈ pinsAt fp h := List.mem_filterMap.mpr ⟨b, hb, by rw [e]; rfl⟩
theorem of_pinsAt {fp : List Addr} {h : Heap} {p : Addr × Obj} (hp : p ∈ pinsAt fp h) : p.1 ∈ fp ∧ h.get? p.1 = some p.2 := by
  obtain ⟨b, hb, e⟩ := List.mem_filterMap.mp hp
  cases q : h.get? b with
  | none => rw [q] at e; cases e
  | some o =>
    rw [q] at e
    have e' : (b, o) = p := Option.some.inj e
    subst e'
    exact ⟨hb, q⟩
theorem Inv.pinned {pins : List (Addr × Obj)} {σ : St} {H : Hp} {s : Shared} {fp : List Addr} (I : Inv X pins σ H s) (hf : ∀ b ∈ fp, FpOk X pins H b) (ho : ∀ b ∈ fp, ∃ o, s.heap.get? b = some o ∧ ∀ v, o.data ≠ .cell v) : Inv X (pins ++ pinsAt fp s.heap) σ H s :=
  I.pins_of fun p hp => (List.mem_append.mp hp).elim (fun z => I.pin p (List.mem_append_right _ z)) fun z => by
    obtain ⟨hb, e⟩ := of_pinsAt z
    obtain ⟨f0, f1, f2, _⟩ := hf p.1 hb
    obtain ⟨o, e', d⟩ := ho p.1 hb
    rw [e] at e'; cases e'
    exact ⟨e, f0, f1, f2, d⟩
theorem Inv.unpinned {pins pl : List (Addr × Obj)} {σ : St} {H : Hp} {s : Shared} (I : Inv X (pins ++ pl) σ H s) : Inv X pins σ H s := I.pins_of fun p hp => I.pin p (List.mem_append_right _ (List.mem_append_left _ hp))
theorem ps_for {iter : Expr} {body : List Stmt} {wi : TI} {g : TG} {tb : TS} {pos : Pos} (hp : PassesOwn (model X.prog X.w) X.A X.env X.xe) (hc : X.calm = true) (hi : PI X tg iter wi) (hg : PG X tg g) (hb : PSs X body tb)
    (hs : ∀ x, foldedSetIterable iter X.env x = pure x := by intro _; rfl) : PS X (.For tg iter body [] pos) (tFor wi g tb) := by
  intro pins s σ H D I h
  refine wpAny_For (thn (hi pins s σ H _ I h) fun v s1 h1 => thn h1 fun itv s2 h2 => ?_) hs
  obtain ⟨it, fp, tn, J, H2, e, I2, T, st2, f2, W, ⟨m0, w0⟩, turn⟩ := h2
  subst e
  -- what stays true of the iterator's objects through the loop
  have stat : ∀ {H' : Hp}, (∀ b ∈ fp, H' b = none) → ∀ b ∈ fp, FpOk X pins H' b := fun hn b hb => ⟨hn b hb, (f2 b hb).2⟩
  refine codeAny_forLoop_any (fun n s' => ∃ i σ' H', Inv X pins σ' H' s' ∧ tn i s'.heap ∧ (∀ b ∈ fp, H' b = none) ∧ W i n σ' H') ?_ m0 ⟨0, σ, H2, I2, st2, fun b hb => (f2 b hb).1, w0⟩
  rintro n s3 ⟨i, σ3, H3, I3, st3, fr3, w3⟩
  rcases turn i n σ3 H3 w3 with ⟨stop, qn⟩ | ⟨go, N, hN, step⟩
  · refine wpAny_passesOwn hp (thn (T.done X rfl rfl rfl hc i pins s3 σ3 H3 X.xe I3 (stat fr3) st3 stop) fun r s4 ⟨hr, I4⟩ => ?_)
    subst hr
    exact wpAny_execs_nil ⟨σ3, H3, I4, qn⟩
  · refine wpAny_passesOwn hp (thn (T.item X rfl rfl rfl hc i pins s3 σ3 H3 X.xe I3 (stat fr3) st3 go) fun r s4 ⟨u, hr, h4⟩ => ?_)
    subst hr
    refine wpAny_passesOwn hp (thn h4 fun _ s5 ⟨x, H5, I5, r5, y5, st5, fr5⟩ => ?_)
    have I5' := I5.pinned (stat fr5) (T.obj _ _ st5)
    refine wpAny_passesOwn hp (thn (hg _ s5 σ3 H5 x u _ I5' r5 (step x H5 y5)) fun _ s6 ⟨σ6, H6, I6, q6⟩ => ?_)
    refine wpAny_passesOwn hp (thn (hb _ s6 σ6 H6 _ I6 q6) fun f s7 q7 => ?_)
    have again : ∀ {σ7 : St} {H7 : Hp}, Inv X (pins ++ pinsAt fp s5.heap) σ7 H7 s7 → N σ7 H7 → ∃ m, m < n ∧ ∃ i σ' H', Inv X pins σ' H' s7 ∧ tn i s7.heap ∧ (∀ b ∈ fp, H' b = none) ∧ W i m σ' H' := fun {σ7 H7} I7 n7 => by
      obtain ⟨m', hm, w7⟩ := hN σ7 H7 n7
      refine ⟨m', hm, i + 1, σ7, H7, I7.unpinned, T.keep _ _ _ st5 fun b hb o e => (I7.pin (b, o) (List.mem_append_right _ (List.mem_append_right _ (mem_pinsAt hb e)))).1, fun b hb => ?_, w7⟩
      obtain ⟨o, e, d⟩ := T.obj _ _ st5 b hb
      exact (I7.pin (b, o) (List.mem_append_right _ (List.mem_append_right _ (mem_pinsAt hb e)))).2.1
    cases f with
    | next => obtain ⟨σ7, H7, I7, n7⟩ := q7; exact again I7 n7
    | cont => obtain ⟨σ7, H7, I7, n7⟩ := q7; exact again I7 n7
    | brk => obtain ⟨σ7, H7, I7, q7⟩ := q7; exact ⟨σ7, H7, I7.unpinned, q7⟩
    | ret v => obtain ⟨x7, σ7, H7, I7, r7, q7⟩ := q7; exact ⟨x7, σ7, H7, I7.unpinned, r7, q7⟩
end

/-! ### the forms one uses -/
/-- over a list that the body leaves as it is -/
theorem for_list {K : PySem.W.Frag} {a : Addr} {xs : List V} {g : TG} {tb : TS} {D : Ends} {σ : St} {H : Hp} (Pv : Nat → St → Hp → Prop) (h0 : Pv 0 σ H) (hl : ∀ i σ H, i ≤ xs.length → Pv i σ H → SqL K H a xs)
    (hs : ∀ i x σ H, xs[i]? = some x → Pv i σ H → g x σ H fun σ2 H2 => tb { D with nx := Pv (i + 1), ct := Pv (i + 1), bk := D.nx } σ2 H2) (hd : ∀ σ H, Pv xs.length σ H → D.nx σ H) :
    ∃ W : Nat → Nat → St → Hp → Prop, (∃ m, W 0 m σ H) ∧ ∀ i m σ H, W i m σ H →
      ((Itl K a).stop i H ∧ D.nx σ H) ∨ ((Itl K a).go i H ∧ ∃ N : St → Hp → Prop, (∀ σ' H', N σ' H' → ∃ m', m' < m ∧ W (i + 1) m' σ' H') ∧ ∀ x H', (Itl K a).yld i H x H' → g x σ H' fun σ2 H2 => tb { D with nx := N, ct := N, bk := D.nx } σ2 H2) := by
  refine ⟨fun i m σ H => m = xs.length - i ∧ i ≤ xs.length ∧ Pv i σ H, ⟨xs.length, by simp, Nat.zero_le _, h0⟩, ?_⟩
  rintro i m σ H ⟨rfl, hi, p⟩
  have q := hl i σ H hi p
  by_cases hlt : i < xs.length
  · refine .inr ⟨⟨xs, xs[i], q, by simp [hlt]⟩, Pv (i + 1), fun σ' H' p' => ⟨xs.length - (i + 1), by omega, rfl, hlt, p'⟩, fun x H' y => ?_⟩
    obtain ⟨e, y⟩ := y
    subst e
    exact hs i x σ _ (y xs q) p
  · have e : i = xs.length := by omega
    subst e
    exact .inl ⟨⟨xs, q, Nat.le_refl _⟩, hd σ H p⟩
theorem for_tup {K : PySem.W.Frag} {a : Addr} {xs : List V} {g : TG} {tb : TS} {D : Ends} {σ : St} {H : Hp} (Pv : Nat → St → Hp → Prop) (h0 : Pv 0 σ H) (hl : ∀ i σ H, i ≤ xs.length → Pv i σ H → SqT K H a xs)
    (hs : ∀ i x σ H, xs[i]? = some x → Pv i σ H → g x σ H fun σ2 H2 => tb { D with nx := Pv (i + 1), ct := Pv (i + 1), bk := D.nx } σ2 H2) (hd : ∀ σ H, Pv xs.length σ H → D.nx σ H) :
    ∃ W : Nat → Nat → St → Hp → Prop, (∃ m, W 0 m σ H) ∧ ∀ i m σ H, W i m σ H →
      ((Itt K a).stop i H ∧ D.nx σ H) ∨ ((Itt K a).go i H ∧ ∃ N : St → Hp → Prop, (∀ σ' H', N σ' H' → ∃ m', m' < m ∧ W (i + 1) m' σ' H') ∧ ∀ x H', (Itt K a).yld i H x H' → g x σ H' fun σ2 H2 => tb { D with nx := N, ct := N, bk := D.nx } σ2 H2) := by
  refine ⟨fun i m σ H => m = xs.length - i ∧ i ≤ xs.length ∧ Pv i σ H, ⟨xs.length, by simp, Nat.zero_le _, h0⟩, ?_⟩
  rintro i m σ H ⟨rfl, hi, p⟩
  have q := hl i σ H hi p
  by_cases hlt : i < xs.length
  · refine .inr ⟨⟨xs, xs[i], q, by simp [hlt]⟩, Pv (i + 1), fun σ' H' p' => ⟨xs.length - (i + 1), by omega, rfl, hlt, p'⟩, fun x H' y => ?_⟩
    obtain ⟨e, y⟩ := y
    subst e
    exact hs i x σ _ (y xs q) p
  · have e : i = xs.length := by omega
    subst e
    exact .inl ⟨⟨xs, q, Nat.le_refl _⟩, hd σ H p⟩
theorem for_range {lo : Int} {n : Nat} {g : TG} {tb : TS} {D : Ends} {σ : St} {H : Hp} (Pv : Nat → St → Hp → Prop) (h0 : Pv 0 σ H)
    (hs : ∀ i σ H, i < n → Pv i σ H → g (.int (lo + i)) σ H fun σ2 H2 => tb { D with nx := Pv (i + 1), ct := Pv (i + 1), bk := D.nx } σ2 H2) (hd : ∀ σ H, Pv n σ H → D.nx σ H) :
    ∃ W : Nat → Nat → St → Hp → Prop, (∃ m, W 0 m σ H) ∧ ∀ i m σ H, W i m σ H →
      ((Itr lo n).stop i H ∧ D.nx σ H) ∨ ((Itr lo n).go i H ∧ ∃ N : St → Hp → Prop, (∀ σ' H', N σ' H' → ∃ m', m' < m ∧ W (i + 1) m' σ' H') ∧ ∀ x H', (Itr lo n).yld i H x H' → g x σ H' fun σ2 H2 => tb { D with nx := N, ct := N, bk := D.nx } σ2 H2) := by
  refine ⟨fun i m σ H => m = n - i ∧ i ≤ n ∧ Pv i σ H, ⟨n, by simp, Nat.zero_le _, h0⟩, ?_⟩
  rintro i m σ H ⟨rfl, hi, p⟩
  by_cases hlt : i < n
  · refine .inr ⟨hlt, Pv (i + 1), fun σ' H' p' => ⟨n - (i + 1), by omega, rfl, hlt, p'⟩, fun x H' y => ?_⟩
    obtain ⟨e, y⟩ := y
    subst e y
    exact hs i σ _ hlt p
  · have e : i = n := by omega
    subst e
    exact .inl ⟨Nat.le_refl _, hd σ H p⟩
/-- while, by a word and a measure of the state -/
theorem while_by {c : TT} {tb : TS} {D : Ends} {σ : St} {H : Hp} (Pv : St → Hp → Prop) (μ : St → Hp → Nat) (h0 : Pv σ H)
    (hs : ∀ σ H, Pv σ H → c σ H fun b H1 => if b = true then tb { D with nx := fun σ' H' => Pv σ' H' ∧ μ σ' H' < μ σ H, ct := fun σ' H' => Pv σ' H' ∧ μ σ' H' < μ σ H, bk := D.nx } σ H1 else D.nx σ H1)
    (mono : ∀ σ H Q Q', (∀ b H1, Q b H1 → Q' b H1) → c σ H Q → c σ H Q') : tWhile c tb D σ H := by
  refine ⟨fun m σ H => m = μ σ H ∧ Pv σ H, ⟨_, rfl, h0⟩, ?_⟩
  rintro m σ H ⟨rfl, p⟩
  refine mono σ H _ _ (fun b H1 q => ?_) (hs σ H p)
  cases b with
  | true => exact ⟨_, fun σ' H' ⟨p', l⟩ => ⟨_, l, rfl, p'⟩, q⟩
  | false => exact q
end L2

namespace L2
open PySem PySem.Spec PyProof.Rows

abbrev R2 := V → V → Hp → VK → Prop
/-- a two-place operation on values: f is binaryOp op, inplaceOp op or compareOp op -/
def OpR (X : Cx) (f : Value → Value → Sem Value) (r : R2) : Prop :=
  ∀ (pins : List (Addr × Obj)) (s : Shared) (σ : St) (H : Hp) (x y : V) (v u : Value) (Q : VK), Inv X pins σ H s → RelV x v → RelV y u → r x y H Q →
    wpAny (model X.prog X.w) X.A (f v u) (EP X pins σ Q) X.xe s
/-- a one-place operation -/
def UnR (X : Cx) (f : Value → Sem Value) (r : V → Hp → VK → Prop) : Prop :=
  ∀ (pins : List (Addr × Obj)) (s : Shared) (σ : St) (H : Hp) (x : V) (v : Value) (Q : VK), Inv X pins σ H s → RelV x v → r x H Q →
    wpAny (model X.prog X.w) X.A (f v) (EP X pins σ Q) X.xe s
/-- a call of a value that is known (a builtin, a type) with values -/
def CallR (X : Cx) (f : Value) (r : List V → Hp → VK → Prop) : Prop :=
  ∀ (pins : List (Addr × Obj)) (s : Shared) (σ : St) (H : Hp) (xs : List V) (us : List Value) (Q : VK), Inv X pins σ H s → Vals xs us → r xs H Q →
    wpAny (model X.prog X.w) X.A (call f us) (EP X pins σ Q) X.xe s
/-- a value's truth -/
def TruR (X : Cx) (r : V → Hp → (Bool → Hp → Prop) → Prop) : Prop :=
  ∀ (pins : List (Addr × Obj)) (s : Shared) (σ : St) (H : Hp) (x : V) (v : Value) (Q : Bool → Hp → Prop), Inv X pins σ H s → RelV x v → r x H Q →
    wpAny (model X.prog X.w) X.A (truthy v) (TP X pins σ Q) X.xe s

def tOp (r : R2) (ta tb : TE) : TE := fun σ H Q => ta σ H fun x H1 => tb σ H1 fun y H2 => r x y H2 Q
def tUn (r : V → Hp → VK → Prop) (ta : TE) : TE := fun σ H Q => ta σ H fun x H1 => r x H1 Q
/-- ints in, under C, and a value out -/
def rI (C : Int → Int → Prop) (g : Int → Int → V) : R2 := fun x y H Q => ∃ i j, x = .int i ∧ y = .int j ∧ C i j ∧ Q (g i j) H
def rI0 (g : Int → Int → V) : R2 := fun x y H Q => ∃ i j, x = .int i ∧ y = .int j ∧ Q (g i j) H
def rU (g : Int → V) : V → Hp → VK → Prop := fun x H Q => ∃ i, x = .int i ∧ Q (g i) H

section
variable {X : Cx} {a b c : Expr} {ta tb tc : TE} {pos : Pos}

theorem binT (ha : PE X a ta) (hb : PE X b tb) {pins : List (Addr × Obj)} {s : Shared} {σ : St} {H : Hp} {R : V → V → Hp → Prop} (I : Inv X pins σ H s)
    (h : ta σ H fun x H1 => tb σ H1 fun y H2 => R x y H2) {Q : Value → Shared → Prop} {f : Value → Value → Sem Value}
    (hf : ∀ v u s2 x y H2, Inv X pins σ H2 s2 → RelV x v → RelV y u → R x y H2 → wpAny (model X.prog X.w) X.A (f v u) Q X.xe s2) :
    wpAny (model X.prog X.w) X.A (eval a X.env) (fun v s₁ => wpAny (model X.prog X.w) X.A (eval b X.env) (fun u s₂ => wpAny (model X.prog X.w) X.A (f v u) Q X.xe s₂) X.xe s₁) X.xe s := by
  refine thn (ha pins s σ H _ I h) fun v s1 ⟨x, H1, I1, r1, q1⟩ => ?_
  refine thn (hb pins s1 σ H1 _ I1 q1) fun u s2 ⟨y, H2, I2, r2, q2⟩ => ?_
  exact hf v u s2 x y H2 I2 r1 r2 q2

theorem pe_op {op : Operator} {r : R2} (ho : OpR X (binaryOp op) r) (ha : PE X a ta) (hb : PE X b tb) : PE X (.BinOp a op b pos) (tOp r ta tb) := by
  intro pins s σ H Q I h
  exact wpAny_BinOp (binT ha hb I h fun v u s2 x y H2 I2 rx ry q => ho pins s2 σ H2 x y v u Q I2 rx ry q)
theorem pe_un {op : UnaryOp} {r : V → Hp → VK → Prop} (ho : UnR X (unaryOp op) r) (ha : PE X a ta) : PE X (.UnaryOp op a pos) (tUn r ta) := by
  intro pins s σ H Q I h
  exact UnaryOp_ (thn (ha pins s σ H _ I h) fun v s1 ⟨x, H1, I1, r1, q1⟩ => ho pins s1 σ H1 x v Q I1 r1 q1)
/-- a op= e at a name: the name's slot i -/
theorem augR {op : Operator} {r : R2} (ho : OpR X (inplaceOp op) r) {pins : List (Addr × Obj)} {s : Shared} {σ : St} {H : Hp} {x y : V} {v u : Value} {Q : VK} (I : Inv X pins σ H s)
    (rx : RelV x v) (ry : RelV y u) (q : r x y H Q) : wpAny (model X.prog X.w) X.A (inplaceOp op v u) (EP X pins σ Q) X.xe s := ho pins s σ H x y v u Q I rx ry q

/-! ### ints -/
theorem opI {f : Value → Value → Sem Value} {C : Int → Int → Prop} {g : Int → Int → Int}
    (rule : ∀ (i j : Int) (t u : Tok) (s : Shared) (Q : Value → Shared → Prop) (E : Value → Shared → Prop), C i j → Q (.int (g i j) s.toks) { s with toks := s.toks + 1 } → wpAny (model X.prog X.w) X.A (f (.int i t) (.int j u)) Q E s) :
    OpR X f (rI C fun i j => .int (g i j)) := by
  intro pins s σ H x y v u Q I rx ry h
  obtain ⟨i, j, rfl, rfl, hc, q⟩ := h
  obtain ⟨t, rfl⟩ := rx
  obtain ⟨t', rfl⟩ := ry
  exact rule i j t t' s _ _ hc ⟨.int (g i j), H, I.tok _, ⟨_, rfl⟩, q⟩
theorem opI0 {f : Value → Value → Sem Value} {g : Int → Int → Int}
    (rule : ∀ (i j : Int) (t u : Tok) (s : Shared) (Q : Value → Shared → Prop) (E : Value → Shared → Prop), Q (.int (g i j) s.toks) { s with toks := s.toks + 1 } → wpAny (model X.prog X.w) X.A (f (.int i t) (.int j u)) Q E s) :
    OpR X f (rI0 fun i j => .int (g i j)) := by
  intro pins s σ H x y v u Q I rx ry h
  obtain ⟨i, j, rfl, rfl, q⟩ := h
  obtain ⟨t, rfl⟩ := rx
  obtain ⟨t', rfl⟩ := ry
  exact rule i j t t' s _ _ ⟨.int (g i j), H, I.tok _, ⟨_, rfl⟩, q⟩
theorem opB0 {f : Value → Value → Sem Value} {g : Int → Int → Bool}
    (rule : ∀ (i j : Int) (t u : Tok) (s : Shared) (Q : Value → Shared → Prop) (E : Value → Shared → Prop), Q (.bool (g i j)) s → wpAny (model X.prog X.w) X.A (f (.int i t) (.int j u)) Q E s) :
    OpR X f (rI0 fun i j => .bl (g i j)) := by
  intro pins s σ H x y v u Q I rx ry h
  obtain ⟨i, j, rfl, rfl, q⟩ := h
  obtain ⟨t, rfl⟩ := rx
  obtain ⟨t', rfl⟩ := ry
  exact rule i j t t' s _ _ ⟨.bl (g i j), H, I, rfl, q⟩

def CDiv (i j : Int) : Prop := 0 < j ∧ j < 1073741824
def CDivN (i j : Int) : Prop := j ≠ 0 ∧ j.natAbs < 1073741824
def CPow (i j : Int) : Prop := 0 ≤ j ∧ j ≤ 1000000 ∧ i.natAbs < 2 ^ 64
def CMul (i j : Int) : Prop := (-(2 ^ 64) < i ∧ i < 2 ^ 64) ∨ (-(2 ^ 64) < j ∧ j < 2 ^ 64)
theorem CMul.ok {i j : Int} (h : CMul i j) : IntMulOk i j := by
  rcases h with ⟨h1, h2⟩ | ⟨h1, h2⟩
  · exact .of_left (intBits_le_64 h1 h2)
  · exact .of_right (intBits_le_64 h1 h2)
theorem two_pow_nn (k : Nat) : (0 : Int) ≤ 2 ^ k := by
  rw [two_pow_cast]
  exact Int.natCast_nonneg _

theorem op_add : OpR X (binaryOp .Add) (rI0 fun i j => .int (i + j)) := opI0 fun _ _ _ _ _ _ _ q => add_int q
theorem op_sub : OpR X (binaryOp .Sub) (rI0 fun i j => .int (i - j)) := opI0 fun _ _ _ _ _ _ _ q => sub_int q
theorem op_mul : OpR X (binaryOp .Mult) (rI CMul fun i j => .int (i * j)) := opI fun _ _ _ _ _ _ _ hc q => mul_int q hc.ok
/-- // by a positive divisor -/
theorem op_fdiv : OpR X (binaryOp .FloorDiv) (rI CDiv fun i j => .int (i / j)) := opI fun i j _ _ _ _ _ hc q => by
  have h1 : (0 : Int) < j := hc.1
  have h2 : j < 1073741824 := hc.2
  exact floordiv_int (by omega) (by rw [Int.fdiv_eq_ediv_of_nonneg i (by omega)]; exact q) (.inl (PyProof.noPylong_small (by omega)))
theorem op_fdivN : OpR X (binaryOp .FloorDiv) (rI CDivN fun i j => .int (i.fdiv j)) := opI fun _ _ _ _ _ _ _ hc q => floordiv_int hc.1 q (.inl (PyProof.noPylong_small hc.2))
/-- % by a positive divisor of any size -/
theorem op_mod : OpR X (binaryOp .Mod) (rI (fun _ j => 0 < j) fun i j => .int (i % j)) := opI fun i j _ _ _ _ _ hc q => by
  have h1 : (0 : Int) < j := hc
  exact mod_int' (by omega) (by rw [Int.fmod_eq_emod_of_nonneg i (by omega)]; exact q)
theorem op_modN : OpR X (binaryOp .Mod) (rI (fun _ j => j ≠ 0) fun i j => .int (i.fmod j)) := opI fun _ _ _ _ _ _ _ hc q => mod_int' hc q
theorem op_pow : OpR X (binaryOp .Pow) (rI CPow fun i j => .int (i ^ j.toNat)) := opI fun _ _ _ _ _ _ _ hc q => pow_int_small hc.1 hc.2.1 hc.2.2 q
theorem op_shl : OpR X (binaryOp .LShift) (rI CPow fun i j => .int (i * 2 ^ j.toNat)) := opI fun _ _ _ _ _ _ _ hc q => lshift_int_small hc.1 hc.2.1 hc.2.2 q
theorem op_shr : OpR X (binaryOp .RShift) (rI (fun _ j => 0 ≤ j) fun i j => .int (i / 2 ^ j.toNat)) := opI fun i j _ _ _ _ _ hc q =>
  rshift_int hc (by rw [Int.fdiv_eq_ediv_of_nonneg i (two_pow_nn _)]; exact q)
theorem op_and : OpR X (binaryOp .BitAnd) (rI0 fun i j => .int (Builtin.bitAnd i j)) := opI0 fun _ _ _ _ _ _ _ q => and_int q
theorem op_or : OpR X (binaryOp .BitOr) (rI0 fun i j => .int (Builtin.bitOr i j)) := opI0 fun _ _ _ _ _ _ _ q => or_int q
theorem op_xor : OpR X (binaryOp .BitXor) (rI0 fun i j => .int (Builtin.bitXor i j)) := opI0 fun _ _ _ _ _ _ _ q => xor_int q

theorem iop_add : OpR X (inplaceOp .Add) (rI0 fun i j => .int (i + j)) := opI0 fun _ _ _ _ _ _ _ q => iadd_int q
theorem iop_sub : OpR X (inplaceOp .Sub) (rI0 fun i j => .int (i - j)) := opI0 fun _ _ _ _ _ _ _ q => isub_int q
theorem iop_mul : OpR X (inplaceOp .Mult) (rI CMul fun i j => .int (i * j)) := opI fun _ _ _ _ _ _ _ hc q => imul_int q hc.ok
theorem iop_fdiv : OpR X (inplaceOp .FloorDiv) (rI CDiv fun i j => .int (i / j)) := opI fun i j _ _ _ _ _ hc q => by
  have h1 : (0 : Int) < j := hc.1
  have h2 : j < 1073741824 := hc.2
  exact ifloordiv_int (by omega) (by rw [Int.fdiv_eq_ediv_of_nonneg i (by omega)]; exact q) (.inl (PyProof.noPylong_small (by omega)))
theorem iop_mod : OpR X (inplaceOp .Mod) (rI (fun _ j => 0 < j) fun i j => .int (i % j)) := opI fun i j _ _ _ _ _ hc q => by
  have h1 : (0 : Int) < j := hc
  exact imod_int (by omega) (by rw [Int.fmod_eq_emod_of_nonneg i (by omega)]; exact q)
theorem iop_shl : OpR X (inplaceOp .LShift) (rI CPow fun i j => .int (i * 2 ^ j.toNat)) := opI fun _ _ _ _ _ _ _ hc q => ilshift_int_small hc.1 hc.2.1 hc.2.2 q
theorem iop_shr : OpR X (inplaceOp .RShift) (rI (fun _ j => 0 ≤ j) fun i j => .int (i / 2 ^ j.toNat)) := opI fun i j _ _ _ _ _ hc q =>
  irshift_int hc (by rw [Int.fdiv_eq_ediv_of_nonneg i (two_pow_nn _)]; exact q)
theorem iop_and : OpR X (inplaceOp .BitAnd) (rI0 fun i j => .int (Builtin.bitAnd i j)) := opI0 fun _ _ _ _ _ _ _ q => iand_int q
theorem iop_or : OpR X (inplaceOp .BitOr) (rI0 fun i j => .int (Builtin.bitOr i j)) := opI0 fun _ _ _ _ _ _ _ q => ior_int q
theorem iop_xor : OpR X (inplaceOp .BitXor) (rI0 fun i j => .int (Builtin.bitXor i j)) := opI0 fun _ _ _ _ _ _ _ q => ixor_int q

theorem unI {f : Value → Sem Value} {g : Int → Int}
    (rule : ∀ (i : Int) (t : Tok) (s : Shared) (Q : Value → Shared → Prop) (E : Value → Shared → Prop), Q (.int (g i) s.toks) { s with toks := s.toks + 1 } → wpAny (model X.prog X.w) X.A (f (.int i t)) Q E s) :
    UnR X f (rU fun i => .int (g i)) := by
  intro pins s σ H x v Q I rx h
  obtain ⟨i, rfl, q⟩ := h
  obtain ⟨t, rfl⟩ := rx
  exact rule i t s _ _ ⟨.int (g i), H, I.tok _, ⟨_, rfl⟩, q⟩
theorem un_neg : UnR X (unaryOp .USub) (rU fun i => .int (-i)) := unI fun _ _ _ _ _ q => neg_int q
theorem un_inv : UnR X (unaryOp .Invert) (rU fun i => .int (Builtin.bitNot i)) := unI fun _ _ _ _ _ q => invert_int q

/-! ### bools among ints: n += (a < b) -/
theorem op_add_ib : OpR X (binaryOp .Add) (fun x y H Q => ∃ i k, x = .int i ∧ y = .bl k ∧ Q (.int (i + b2i k)) H) := by
  intro pins s σ H x y v u Q I rx ry h
  obtain ⟨i, k, rfl, rfl, q⟩ := h
  obtain ⟨t, rfl⟩ := rx
  cases ry
  exact add_int_bool ⟨.int (i + b2i k), H, I.tok _, ⟨_, rfl⟩, q⟩
end

/-! ### comparisons -/
/-- the scalars that == tells apart as data does -/
def scal : V → V → Bool
  | .non, .non => true | .non, .int _ => true | .int _, .non => true | .non, .bl _ => true | .bl _, .non => true | .non, .str _ => true | .str _, .non => true
  | .int _, .int _ => true | .bl _, .bl _ => true | .str _, .str _ => true | .byt _, .byt _ => true
  | .int _, .str _ => true | .str _, .int _ => true | .bl _, .str _ => true | .str _, .bl _ => true
  | _, _ => false
def rEq : R2 := fun x y H Q => scal x y = true ∧ Q (.bl (decide (x = y))) H
def rNe : R2 := fun x y H Q => scal x y = true ∧ Q (.bl (!decide (x = y))) H

theorem dec_int {i j : Int} : decide (V.int i = V.int j) = (i == j) := by
  rw [Bool.eq_iff_iff]
  simp
theorem dec_bl {i j : Bool} : decide (V.bl i = V.bl j) = (i == j) := by
  rw [Bool.eq_iff_iff]
  simp
theorem dec_str {i j : Str} : decide (V.str i = V.str j) = (i == j) := by
  rw [Bool.eq_iff_iff]
  simp
theorem dec_byt {i j : Array UInt8} : decide (V.byt i = V.byt j) = (i.toList == j.toList) := by
  rw [Bool.eq_iff_iff]
  cases i
  cases j
  simp

section
variable {X : Cx} {a b c : Expr} {ta tb tc : TE} {pos : Pos}
theorem fin_bl {pins : List (Addr × Obj)} {σ : St} {H : Hp} {s : Shared} {Q : VK} {k k' : Bool} (I : Inv X pins σ H s) (q : Q (.bl k) H) (e : k = k') : EP X pins σ Q (.bool k') s := by
  subst e
  exact ⟨.bl k, H, I, rfl, q⟩
theorem op_eq : OpR X (compareOp .Eq) rEq := by
  intro pins s σ H x y v u Q I rx ry h
  obtain ⟨hs, q⟩ := h
  cases x with
  | non =>
    cases rx
    cases y with
    | non => cases ry; exact PySem.EqNone.eq_none_none (fin_bl I q (by simp))
    | bl j => cases ry; exact PySem.EqNone.eq_none_bool (fin_bl I q (by simp))
    | int j => obtain ⟨t', rfl⟩ := ry; exact PySem.EqNone.eq_none_int (fin_bl I q (by simp))
    | str j => obtain ⟨t', rfl⟩ := ry; exact PySem.EqNone.eq_none_str (fin_bl I q (by simp))
    | _ => exact absurd (show false = true from hs) Bool.false_ne_true
  | bl i =>
    cases rx
    cases y with
    | non => cases ry; exact PySem.EqNone.eq_bool_none (fin_bl I q (by simp))
    | bl j => cases ry; exact eq_bool (fin_bl I q dec_bl)
    | str j => obtain ⟨t', rfl⟩ := ry; exact PySem.EqMixed.eq_bool_str (fin_bl I q (by simp))
    | _ => exact absurd (show false = true from hs) Bool.false_ne_true
  | int i =>
    obtain ⟨t, rfl⟩ := rx
    cases y with
    | non => cases ry; exact PySem.EqNone.eq_int_none (fin_bl I q (by simp))
    | int j => obtain ⟨t', rfl⟩ := ry; exact eq_int (fin_bl I q dec_int)
    | str j => obtain ⟨t', rfl⟩ := ry; exact PySem.EqMixed.eq_int_str (fin_bl I q (by simp))
    | _ => exact absurd (show false = true from hs) Bool.false_ne_true
  | str i =>
    obtain ⟨t, rfl⟩ := rx
    cases y with
    | non => cases ry; exact PySem.EqNone.eq_str_none (fin_bl I q (by simp))
    | bl j => cases ry; exact PySem.EqMixed.eq_str_bool (fin_bl I q (by simp))
    | int j => obtain ⟨t', rfl⟩ := ry; exact PySem.EqMixed.eq_str_int (fin_bl I q (by simp))
    | str j => obtain ⟨t', rfl⟩ := ry; exact eq_str (fin_bl I q dec_str)
    | _ => exact absurd (show false = true from hs) Bool.false_ne_true
  | byt i =>
    obtain ⟨t, rfl⟩ := rx
    cases y with
    | byt j => obtain ⟨t', rfl⟩ := ry; exact PySem.W.eq_bytes (fin_bl I q dec_byt)
    | _ => exact absurd (show false = true from hs) Bool.false_ne_true
  | _ => cases y <;> exact absurd (show false = true from hs) Bool.false_ne_true
theorem op_ne : OpR X (compareOp .NotEq) rNe := by
  intro pins s σ H x y v u Q I rx ry h
  obtain ⟨hs, q⟩ := h
  cases x with
  | non =>
    cases rx
    cases y with
    | non => cases ry; exact PySem.EqNone.ne_none_none (fin_bl I q (by simp))
    | bl j => cases ry; exact PySem.EqNone.ne_none_bool (fin_bl I q (by simp))
    | int j => obtain ⟨t', rfl⟩ := ry; exact PySem.EqNone.ne_none_int (fin_bl I q (by simp))
    | str j => obtain ⟨t', rfl⟩ := ry; exact PySem.EqNone.ne_none_str (fin_bl I q (by simp))
    | _ => exact absurd (show false = true from hs) Bool.false_ne_true
  | bl i =>
    cases rx
    cases y with
    | non => cases ry; exact PySem.EqNone.ne_bool_none (fin_bl I q (by simp))
    | bl j => cases ry; exact ne_bool (fin_bl I q (congrArg not dec_bl))
    | str j => obtain ⟨t', rfl⟩ := ry; exact PySem.EqMixed.ne_bool_str (fin_bl I q (by simp))
    | _ => exact absurd (show false = true from hs) Bool.false_ne_true
  | int i =>
    obtain ⟨t, rfl⟩ := rx
    cases y with
    | non => cases ry; exact PySem.EqNone.ne_int_none (fin_bl I q (by simp))
    | int j => obtain ⟨t', rfl⟩ := ry; exact ne_int (fin_bl I q (congrArg not dec_int))
    | str j => obtain ⟨t', rfl⟩ := ry; exact PySem.EqMixed.ne_int_str (fin_bl I q (by simp))
    | _ => exact absurd (show false = true from hs) Bool.false_ne_true
  | str i =>
    obtain ⟨t, rfl⟩ := rx
    cases y with
    | non => cases ry; exact PySem.EqNone.ne_str_none (fin_bl I q (by simp))
    | bl j => cases ry; exact PySem.EqMixed.ne_str_bool (fin_bl I q (by simp))
    | int j => obtain ⟨t', rfl⟩ := ry; exact PySem.EqMixed.ne_str_int (fin_bl I q (by simp))
    | str j => obtain ⟨t', rfl⟩ := ry; exact ne_str (fin_bl I q (congrArg not dec_str))
    | _ => exact absurd (show false = true from hs) Bool.false_ne_true
  | byt i =>
    obtain ⟨t, rfl⟩ := rx
    cases y with
    | byt j => obtain ⟨t', rfl⟩ := ry; exact PySem.W.ne_bytes (fin_bl I q (congrArg not dec_byt))
    | _ => exact absurd (show false = true from hs) Bool.false_ne_true
  | _ => cases y <;> exact absurd (show false = true from hs) Bool.false_ne_true

theorem op_lt : OpR X (compareOp .Lt) (rI0 fun i j => .bl (decide (i < j))) := opB0 fun _ _ _ _ _ _ _ q => lt_int q
theorem op_le : OpR X (compareOp .LtE) (rI0 fun i j => .bl (decide (i ≤ j))) := opB0 fun _ _ _ _ _ _ _ q => le_int q
theorem op_gt : OpR X (compareOp .Gt) (rI0 fun i j => .bl (decide (j < i))) := opB0 fun _ _ _ _ _ _ _ q => gt_int q
theorem op_ge : OpR X (compareOp .GtE) (rI0 fun i j => .bl (decide (j ≤ i))) := opB0 fun _ _ _ _ _ _ _ q => ge_int q
theorem op_lt_str : OpR X (compareOp .Lt) (fun x y H Q => ∃ i j, x = .str i ∧ y = .str j ∧ Q (.bl (decide (i.cps.toList < j.cps.toList))) H) := by
  intro pins s σ H x y v u Q I rx ry h
  obtain ⟨i, j, rfl, rfl, q⟩ := h
  obtain ⟨t, rfl⟩ := rx
  obtain ⟨t', rfl⟩ := ry
  exact lt_str (fin_bl I q rfl)
/-- the one string within the other -/
theorem op_in_str : OpR X (compareOp .In) (fun x y H Q => ∃ i j, x = .str i ∧ y = .str j ∧ Q (.bl (!(Builtin.Str.occurrences j i 0 j.length 1).isEmpty)) H) := by
  intro pins s σ H x y v u Q I rx ry h
  obtain ⟨i, j, rfl, rfl, q⟩ := h
  obtain ⟨t, rfl⟩ := rx
  obtain ⟨t', rfl⟩ := ry
  exact in_str (fin_bl I q rfl)

/-- is None, is not None: the right side a value none -/
theorem op_isN : OpR X (compareOp .Is) (fun x y H Q => y = .non ∧ Q (.bl (decide (x = .non))) H) := by
  intro pins s σ H x y v u Q I rx ry h
  obtain ⟨rfl, q⟩ := h
  cases ry
  refine is_none_gen (fin_bl I q ?_)
  cases x <;> first
    | (cases rx; rfl)
    | (obtain ⟨t, rfl⟩ := rx; rfl)
theorem op_notN : OpR X (compareOp .IsNot) (fun x y H Q => y = .non ∧ Q (.bl (!decide (x = .non))) H) := by
  intro pins s σ H x y v u Q I rx ry h
  obtain ⟨rfl, q⟩ := h
  cases ry
  refine isnot_none_gen (fin_bl I q ?_)
  cases x <;> first
    | (cases rx; rfl)
    | (obtain ⟨t, rfl⟩ := rx; rfl)

theorem op_notin_str : OpR X (compareOp .NotIn) (fun x y H Q => ∃ i j, x = .str i ∧ y = .str j ∧ Q (.bl (!(!(Builtin.Str.occurrences j i 0 j.length 1).isEmpty))) H) := by
  intro pins s σ H x y v u Q I rx ry h
  obtain ⟨i, j, rfl, rfl, q⟩ := h
  obtain ⟨t, rfl⟩ := rx
  obtain ⟨t', rfl⟩ := ry
  exact notIn_str (fin_bl I q rfl)
/-- is, is not of two objects that are tracked lists or instances -/
def isObj : HO → Bool
  | .lst _ => true
  | .ins _ _ _ => true
  | _ => false
theorem obj_there {pins : List (Addr × Obj)} {s : Shared} {σ : St} {H : Hp} {a : Addr} {o : HO} (I : Inv X pins σ H s) (h : H a = some o) (p : isObj o = true) : ∃ ob, s.heap.get? a = some ob ∧ ob.cls ≠ .type "tuple" := by
  cases o with
  | lst xs =>
    obtain ⟨_, its, n, _, e⟩ : xs.length ≤ sizeLine ∧ ∃ (its : List Value) (n : Nat), Vals xs its ∧ s.heap.get? a = some { cls := .type "list", data := .seq its.toArray n } := I.hok a _ h
    exact ⟨_, e, (by show Value.type "list" ≠ .type "tuple"; decide +kernel)⟩
  | ins C dx fs =>
    have x := I.hok a _ h
    obtain ⟨_, _, _, e, _⟩ := x
    exact ⟨_, e, (by show Value.ref C ≠ .type "tuple"; exact fun z => by cases z)⟩
  | _ => exact absurd (show false = true from p) Bool.false_ne_true
theorem op_is_ref : OpR X (compareOp .Is) (fun x y H Q => ∃ a b oa ob, x = .ref a ∧ y = .ref b ∧ H a = some oa ∧ isObj oa = true ∧ H b = some ob ∧ isObj ob = true ∧ Q (.bl (decide (a = b))) H) := by
  intro pins s σ H x y v u Q I rx ry h
  obtain ⟨a, b, oa, ob, rfl, rfl, ha, pa, hb, pb, q⟩ := h
  cases rx
  cases ry
  obtain ⟨o1, e1, n1⟩ := obj_there I ha pa
  obtain ⟨o2, e2, _⟩ := obj_there I hb pb
  by_cases z : a = b
  · subst z
    exact wpAny_is_ref_self (fin_bl I q (by simp))
  · exact wpAny_is_ref_other z e1 e2 n1 (fin_bl I q (by simp [z]))
theorem op_isnot_ref : OpR X (compareOp .IsNot) (fun x y H Q => ∃ a b oa ob, x = .ref a ∧ y = .ref b ∧ H a = some oa ∧ isObj oa = true ∧ H b = some ob ∧ isObj ob = true ∧ Q (.bl (!decide (a = b))) H) := by
  intro pins s σ H x y v u Q I rx ry h
  obtain ⟨a, b, oa, ob, rfl, rfl, ha, pa, hb, pb, q⟩ := h
  cases rx
  cases ry
  obtain ⟨o1, e1, n1⟩ := obj_there I ha pa
  obtain ⟨o2, e2, _⟩ := obj_there I hb pb
  by_cases z : a = b
  · subst z
    exact wpAny_isNot_ref_self (fin_bl I q (by simp))
  · exact wpAny_isNot_ref_other z e1 e2 n1 (fin_bl I q (by simp [z]))

/-- two rules for one operation: by cases -/
theorem OpR.or {f : Value → Value → Sem Value} {r r' : R2} (h : OpR X f r) (h' : OpR X f r') : OpR X f (fun x y H Q => r x y H Q ∨ r' x y H Q) := by
  intro pins s σ H x y v u Q I rx ry q
  rcases q with q | q
  · exact h pins s σ H x y v u Q I rx ry q
  · exact h' pins s σ H x y v u Q I rx ry q

theorem nomark (b : Expr) {op : CmpOp} (h : op ≠ .In := by decide) (h2 : op ≠ .NotIn := by decide) : behindInMarks op b = false := by
  have e1 : (op == CmpOp.In) = false := by cases op <;> first | rfl | exact absurd rfl h
  have e2 : (op == CmpOp.NotIn) = false := by cases op <;> first | rfl | exact absurd rfl h2
  cases b <;> simp [behindInMarks, e1, e2]
/-- a comparison as a value; hm: nomark b, or (for in, not in) by with_unfolding_all rfl -/
theorem pe_cmpR {op : CmpOp} {r : R2} (ho : OpR X (compareOp op) r) (ha : PE X a ta) (hb : PE X b tb) (hm : behindInMarks op b = false) : PE X (.Compare a [op] [b] pos) (tOp r ta tb) := by
  intro pins s σ H Q I h
  exact wpAny_Compare1 (binT ha hb I h fun v u s2 x y H2 I2 rx ry q => ho pins s2 σ H2 x y v u Q I2 rx ry q) hm
/-- a reading of a value as a test -/
def tTest (t : TE) : TT := fun σ H Q => t σ H fun x H' => ∃ k, x = .bl k ∧ Q k H'
theorem pt_cmpR {op : CmpOp} {r : R2} (ho : OpR X (compareOp op) r) (ha : PE X a ta) (hb : PE X b tb) (hm : behindInMarks op b = false) : PT X (.Compare a [op] [b] pos) (tTest (tOp r ta tb)) := by
  intro pins s σ H Q I h
  refine wpAny_isTrue_Compare1 (thn (ha pins s σ H _ I h) fun v s1 ⟨x, H1, I1, r1, q1⟩ => thn (hb pins s1 σ H1 _ I1 q1) fun u s2 ⟨y, H2, I2, r2, q2⟩ =>
    thn (ho pins s2 σ H2 x y v u _ I2 r1 r2 q2) fun c s3 ⟨z, H3, I3, r3, k, e, q3⟩ => ?_) hm
  subst e
  cases r3
  exact wpAny_truthy_bool ⟨H3, I3, q3⟩
/-- a op1 b op2 c -/
def tChain (r r' : R2) (ta tb tc : TE) : TE := fun σ H Q => ta σ H fun x H1 => tb σ H1 fun y H2 => r x y H2 fun z H3 => ∃ k, z = .bl k ∧
  (if k = true then tc σ H3 fun w' H4 => r' y w' H4 Q else Q (.bl false) H3)
theorem pe_chain {op op' : CmpOp} {r r' : R2} (ho : OpR X (compareOp op) r) (ho' : OpR X (compareOp op') r') (ha : PE X a ta) (hb : PE X b tb) (hc : PE X c tc)
    (hm : lastMarks [op, op'] [b, c] = false := by with_unfolding_all rfl) : PE X (.Compare a [op, op'] [b, c] pos) (tChain r r' ta tb tc) := by
  intro pins s σ H Q I h
  refine Compare_chain (thn (ha pins s σ H _ I h) fun v s1 ⟨x, H1, I1, r1, q1⟩ => chain_link (thn (hb pins s1 σ H1 _ I1 q1) fun u s2 ⟨y, H2, I2, r2, q2⟩ =>
    thn (ho pins s2 σ H2 x y v u _ I2 r1 r2 q2) fun d s3 ⟨z, H3, I3, r3, k, e, q3⟩ => ?_)) hm
  subst e
  cases r3
  refine wpAny_truthy_bool ?_
  cases k with
  | false => exact ite_ff ⟨.bl false, H3, I3, rfl, q3⟩
  | true => exact ite_tt (chain_last (thn (hc pins s3 σ H3 _ I3 q3) fun w' s4 ⟨z', H4, I4, r4, q4⟩ => ho' pins s4 σ H4 y z' u w' Q I4 r2 r4 q4))
theorem pt_chain {op op' : CmpOp} {r r' : R2} (ho : OpR X (compareOp op) r) (ho' : OpR X (compareOp op') r') (ha : PE X a ta) (hb : PE X b tb) (hc : PE X c tc)
    (hm : lastMarks [op, op'] [b, c] = false := by with_unfolding_all rfl) : PT X (.Compare a [op, op'] [b, c] pos) (tTest (tChain r r' ta tb tc)) := by
  intro pins s σ H Q I h
  refine isTrue_chain (thn (ha pins s σ H _ I h) fun v s1 ⟨x, H1, I1, r1, q1⟩ => test_link (thn (hb pins s1 σ H1 _ I1 q1) fun u s2 ⟨y, H2, I2, r2, q2⟩ =>
    thn (ho pins s2 σ H2 x y v u _ I2 r1 r2 q2) fun d s3 ⟨z, H3, I3, r3, k, e, q3⟩ => ?_)) hm
  subst e
  cases r3
  refine wpAny_truthy_bool ?_
  cases k with
  | false =>
    obtain ⟨k', e', q'⟩ := q3
    cases e'
    exact ite_ff ⟨H3, I3, q'⟩
  | true =>
    refine ite_tt (test_last (thn (hc pins s3 σ H3 _ I3 q3) fun w' s4 ⟨z', H4, I4, r4, q4⟩ => thn (ho' pins s4 σ H4 y z' u w' _ I4 r2 r4 q4) fun d' s5 ⟨z2, H5, I5, r5, k2, e2, q5⟩ => ?_))
    subst e2
    cases r5
    exact wpAny_truthy_bool ⟨H5, I5, q5⟩

/-! ### truth -/
/-- a value's truth by the abstract heap -/
def TruV (K : PySem.W.Frag) (x : V) (H : Hp) (k : Bool) : Prop :=
  match x with
  | .non => k = false
  | .bl b => k = b
  | .int i => k = (i != 0)
  | .str y => y.length ≤ sizeLine ∧ k = ((y.length : Int) != 0)
  | .byt y => y.size ≤ sizeLine ∧ k = ((y.size : Int) != 0)
  | .ref p => (∃ xs, SqL K H p xs ∧ k = !xs.isEmpty) ∨ (∃ xs, SqT K H p xs ∧ k = !xs.isEmpty) ∨ ∃ kvs, H p = some (.dK kvs) ∧ k = !kvs.isEmpty
  | _ => False
theorem isEmpty_kv {κ : Type} {kvs : List (κ × V)} {vs : List (κ × Value)} (r : KV kvs vs) : (!vs.isEmpty) = !kvs.isEmpty := by
  cases r <;> rfl
theorem isEmpty_of {xs : List V} {its : List Value} (r : Vals xs its) : (!its.toArray.isEmpty) = !xs.isEmpty := by
  cases r <;> simp
theorem line63 : (sizeLine : Nat) < 2 ^ 63 := by rw [sizeLine_eq]; decide
theorem tru_ok : TruR X (fun x H Q => ∃ k, TruV X.K x H k ∧ Q k H) := by
  intro pins s σ H x v Q I rx h
  obtain ⟨k, e, q⟩ := h
  have hl := line63
  have hs : sizeLine = 16777216 := sizeLine_eq
  cases x with
  | non =>
    cases rx
    have e' : k = false := e
    subst e'
    exact truthy_none ⟨H, I, q⟩
  | bl b =>
    cases rx
    have e' : k = b := e
    subst e'
    exact wpAny_truthy_bool ⟨H, I, q⟩
  | int i =>
    obtain ⟨t, rfl⟩ := rx
    have e' : k = (i != 0) := e
    subst e'
    exact PySem.P.truthy_int ⟨H, I, q⟩
  | str y =>
    obtain ⟨t, rfl⟩ := rx
    obtain ⟨hy, e'⟩ : y.length ≤ sizeLine ∧ k = ((y.length : Int) != 0) := e
    subst e'
    exact PySem.P.truthy_str (by omega) ⟨H, I.tok _, q⟩
  | byt y =>
    obtain ⟨t, rfl⟩ := rx
    obtain ⟨hy, e'⟩ : y.size ≤ sizeLine ∧ k = ((y.size : Int) != 0) := e
    subst e'
    exact PySem.W.truthy_bytes (by omega) ⟨H, I.tok _, q⟩
  | ref p =>
    cases rx
    have e' : (∃ xs, SqL X.K H p xs ∧ k = !xs.isEmpty) ∨ (∃ xs, SqT X.K H p xs ∧ k = !xs.isEmpty) ∨ ∃ kvs, H p = some (.dK kvs) ∧ k = !kvs.isEmpty := e
    rcases e' with ⟨xs, hx, e'⟩ | ⟨xs, hx, e'⟩ | ⟨kvs, hx, e'⟩
    · subst e'
      obtain ⟨its, r, pl, hz⟩ := I.list hx
      have hlen := r.length
      exact wpAny_truthy_list pl.isList (by simp only [List.size_toArray]; omega) ⟨H, I.tok _, by rw [isEmpty_of r]; exact q⟩
    · subst e'
      obtain ⟨its, r, pl, hz⟩ := I.tuple hx
      have hlen := r.length
      exact truthy_tuple pl (by simp only [List.size_toArray]; omega) ⟨H, I.tok _, by rw [isEmpty_of r]; exact q⟩
    · subst e'
      obtain ⟨hz, hS, vs, r, m⟩ : kvs.length ≤ sizeLine ∧ (p == sysModules) = false ∧ ∃ vs, KV kvs vs ∧ s.heap.DictOf (mixKind X.prog X.w) p vs := I.hok p _ hx
      have hlen : kvs.length = vs.length := Paired.length r
      exact wpAny_truthy_dict hS m (by omega) ⟨H, I.tok _, by rw [isEmpty_kv r]; exact q⟩
  | _ => exact (show False from e).elim
/-- any expression whose test is its value's truth (a name, a call, a subscript, a field ..: he by fun _ => rfl) -/
theorem pt_truth (ha : PE X a ta) (he : ∀ whole, isTrue a X.env whole = (do let v ← whole; standAt a.pos; holding [v] (truthy v))) :
    PT X a (fun σ H Q => ta σ H fun x H' => ∃ k, TruV X.K x H' k ∧ Q k H') := by
  intro pins s σ H Q I h
  exact isTrue_plain (thn (ha pins s σ H _ I h) fun v s1 ⟨x, H1, I1, r1, q1⟩ => tru_ok pins s1 σ H1 x v Q I1 r1 q1) (he _)

/-! ### strs and bytes -/
theorem pe_byt {x : List UInt8} {k : Nat} : PE X (.Constant (.bytes x) k pos) (fun _ H Q => Q (.byt x.toArray) H) := fun _ _ _ H _ I h => PySem.W.Constant_bytes ⟨.byt x.toArray, H, I.tok _, ⟨_, rfl⟩, h⟩
theorem op_add_str : OpR X (binaryOp .Add) (fun x y H Q => ∃ i j, x = .str i ∧ y = .str j ∧ i.length + j.length ≤ sizeLine ∧ Q (.str (i ++ j)) H) := by
  intro pins s σ H x y v u Q I rx ry h
  obtain ⟨i, j, rfl, rfl, hz, q⟩ := h
  obtain ⟨t, rfl⟩ := rx
  obtain ⟨t', rfl⟩ := ry
  exact add_str (fun t' tk => ⟨.str (i ++ j), H, I.tok _, ⟨_, rfl⟩, q⟩) hz
theorem iop_add_str : OpR X (inplaceOp .Add) (fun x y H Q => ∃ i j, x = .str i ∧ y = .str j ∧ i.length + j.length ≤ sizeLine ∧ Q (.str (i ++ j)) H) := by
  intro pins s σ H x y v u Q I rx ry h
  obtain ⟨i, j, rfl, rfl, hz, q⟩ := h
  obtain ⟨t, rfl⟩ := rx
  obtain ⟨t', rfl⟩ := ry
  exact iadd_str (fun t' tk => ⟨.str (i ++ j), H, I.tok _, ⟨_, rfl⟩, q⟩) hz
theorem op_add_byt : OpR X (binaryOp .Add) (fun x y H Q => ∃ i j, x = .byt i ∧ y = .byt j ∧ i.size + j.size ≤ 16777216 ∧ Q (.byt (i ++ j)) H) := by
  intro pins s σ H x y v u Q I rx ry h
  obtain ⟨i, j, rfl, rfl, hz, q⟩ := h
  obtain ⟨t, rfl⟩ := rx
  obtain ⟨t', rfl⟩ := ry
  exact PySem.W.KBy.add_bytes hz (fun t' tk => ⟨.byt (i ++ j), H, I.tok _, ⟨_, rfl⟩, q⟩)

def PlainIxT (b : Expr) : Prop := ∀ o i, subscripted b false o i = operate [o, i] (getItem o i)
/-- s[i], 0 ≤ i < len -/
theorem pe_item_str (ha : PE X a ta) (hb : PE X b tb) (hs : PlainIxT b) :
    PE X (.Subscript a b pos) (tOp (fun x y H Q => ∃ z i c, x = .str z ∧ y = .int i ∧ 0 ≤ i ∧ i < 2 ^ 63 ∧ i < z.length ∧ z.cps[i.toNat]? = some c ∧ Q (.str ⟨#[c]⟩) H) ta tb) := by
  intro pins s σ H Q I h
  refine Subscript_ (binT ha hb I h fun v u s2 x y H2 I2 rx ry q => ?_)
  obtain ⟨z, i, c, rfl, rfl, h0, h63, h1, hc, q⟩ := q
  obtain ⟨t, rfl⟩ := rx
  obtain ⟨t', rfl⟩ := ry
  have e : seqIndex? i z.length = some i.toNat := PySem.StrLaws.seqIndex_nonneg h0 h1
  exact tail_any (typeIs_str s2 z t) slot_str_getitem.lookup (getItem_str (c := c) (by
    have e1 : decide (i < -(2 ^ 63 : Int)) = false := decide_eq_false (by omega)
    have e2 : decide (i ≥ 2 ^ 63) = false := decide_eq_false (by omega)
    rw [e1, e2] <;> rfl) (by rw [e]; exact hc) ⟨.str ⟨#[c]⟩, H2, I2.tok _, ⟨_, rfl⟩, q⟩) (hs _ _)
/-- b[i], 0 ≤ i < len -/
theorem pe_item_byt (ha : PE X a ta) (hb : PE X b tb) (hs : PlainIxT b) :
    PE X (.Subscript a b pos) (tOp (fun x y H Q => ∃ (z : List UInt8) (i : Int), x = .byt z.toArray ∧ y = .int i ∧ z.length ≤ sizeLine ∧ 0 ≤ i ∧ i < z.length ∧ Q (.int ((z.getD i.toNat 0).toNat : Nat)) H) ta tb) := by
  intro pins s σ H Q I h
  refine Subscript_ (binT ha hb I h fun v u s2 x y H2 I2 rx ry q => ?_)
  obtain ⟨z, i, rfl, rfl, hz, h0, h1, q⟩ := q
  obtain ⟨t, rfl⟩ := rx
  obtain ⟨t', rfl⟩ := ry
  have hl : sizeLine = 16777216 := sizeLine_eq
  exact tail_any (PySem.W.typeIs_bytes s2 z.toArray t) PySem.W.FB.slot_bytes_getitem.lookup (PySem.W.getItem_bytes (by omega) h0 h1 ⟨.int ((z.getD i.toNat 0).toNat : Nat), H2, I2.tok _, ⟨_, rfl⟩, q⟩) (hs _ _)

/-! ### scalar builtins, by CallR -/
theorem vals1 {x : V} {us : List Value} (r : Vals [x] us) : ∃ u, us = [u] ∧ RelV x u := by
  cases r with
  | cons r1 r2 => cases r2; exact ⟨_, rfl, r1⟩
theorem vals2 {x y : V} {us : List Value} (r : Vals [x, y] us) : ∃ u w', us = [u, w'] ∧ RelV x u ∧ RelV y w' := by
  cases r with
  | cons r1 r2 =>
    cases r2 with
    | cons r3 r4 => cases r4; exact ⟨_, _, rfl, r1, r3⟩
theorem call_abs : CallR X (.builtin "abs") (fun xs H Q => ∃ i, xs = [.int i] ∧ Q (.int (if i < 0 then -i else i)) H) := by
  intro pins s σ H xs us Q I r h
  obtain ⟨i, rfl, q⟩ := h
  obtain ⟨u, rfl, t, rfl⟩ := vals1 r
  exact call_abs_int fun u tk => ⟨.int (if i < 0 then -i else i), H, I.tok _, ⟨_, rfl⟩, q⟩
theorem call_max2 (hc : X.calm = true) : CallR X (.builtin "max") (fun xs H Q => ∃ i j, xs = [.int i, .int j] ∧ Q (.int (if j > i then j else i)) H) := by
  intro pins s σ H xs us Q I r h
  obtain ⟨i, j, rfl, q⟩ := h
  obtain ⟨u, w', rfl, ⟨t, rfl⟩, ⟨t', rfl⟩⟩ := vals2 r
  refine max_two_ints (I.ok.hd hc) fun h' tk k => ⟨_, H, I.kept k, ?_, q⟩
  by_cases hj : j > i
  · rw [if_pos hj, if_pos hj]; exact ⟨_, rfl⟩
  · rw [if_neg hj, if_neg hj]; exact ⟨_, rfl⟩
theorem call_min2 (hc : X.calm = true) : CallR X (.builtin "min") (fun xs H Q => ∃ i j, xs = [.int i, .int j] ∧ Q (.int (if j < i then j else i)) H) := by
  intro pins s σ H xs us Q I r h
  obtain ⟨i, j, rfl, q⟩ := h
  obtain ⟨u, w', rfl, ⟨t, rfl⟩, ⟨t', rfl⟩⟩ := vals2 r
  refine min_two_ints (I.ok.hd hc) fun h' tk k => ⟨_, H, I.kept k, ?_, q⟩
  by_cases hj : j < i
  · rw [if_pos hj, if_pos hj]; exact ⟨_, rfl⟩
  · rw [if_neg hj, if_neg hj]; exact ⟨_, rfl⟩
theorem call_int1 : CallR X (.type "int") (fun xs H Q => (∃ i, xs = [.int i] ∧ Q (.int i) H) ∨ ∃ k, xs = [.bl k] ∧ Q (.int (if k then 1 else 0)) H) := by
  intro pins s σ H xs us Q I r h
  rcases h with ⟨i, rfl, q⟩ | ⟨k, rfl, q⟩
  · obtain ⟨u, rfl, t, rfl⟩ := vals1 r
    exact call_int_int ⟨.int i, H, I, ⟨_, rfl⟩, q⟩
  · obtain ⟨u, rfl, r1⟩ := vals1 r
    cases r1
    exact call_int_bool ⟨.int (if k then 1 else 0), H, I.tok _, ⟨_, rfl⟩, q⟩
theorem call_bool1 : CallR X (.type "bool") (fun xs H Q => (∃ i, xs = [.int i] ∧ Q (.bl (i != 0)) H) ∨ ∃ k, xs = [.bl k] ∧ Q (.bl k) H) := by
  intro pins s σ H xs us Q I r h
  rcases h with ⟨i, rfl, q⟩ | ⟨k, rfl, q⟩
  · obtain ⟨u, rfl, t, rfl⟩ := vals1 r
    exact call_bool_int ⟨.bl (i != 0), H, I, rfl, q⟩
  · obtain ⟨u, rfl, r1⟩ := vals1 r
    cases r1
    exact call_bool_bool ⟨.bl k, H, I, rfl, q⟩
theorem call_str_int : CallR X (.type "str") (fun xs H Q => ∃ i, xs = [.int i] ∧ i.natAbs.log2 < 1920 ∧ Q (.str (toString i)) H) := by
  intro pins s σ H xs us Q I r h
  obtain ⟨i, rfl, hz, q⟩ := h
  obtain ⟨u, rfl, t, rfl⟩ := vals1 r
  exact PySem.P.str_of_int hz ⟨.str _, H, I.tok _, ⟨_, rfl⟩, q⟩
theorem call_ord : CallR X (.builtin "ord") (fun xs H Q => ∃ x, xs = [.str x] ∧ x.length = 1 ∧ Q (.int (x.cps.getD 0 0 : Nat)) H) := by
  intro pins s σ H xs us Q I r h
  obtain ⟨x, rfl, hz, q⟩ := h
  obtain ⟨u, rfl, t, rfl⟩ := vals1 r
  exact ord_of_one hz ⟨.int _, H, I.tok _, ⟨_, rfl⟩, q⟩
theorem call_chr : CallR X (.builtin "chr") (fun xs H Q => ∃ i, xs = [.int i] ∧ 0 ≤ i ∧ i ≤ 1114111 ∧ Q (.str ⟨#[i.toNat]⟩) H) := by
  intro pins s σ H xs us Q I r h
  obtain ⟨i, rfl, h0, h1, q⟩ := h
  obtain ⟨u, rfl, t, rfl⟩ := vals1 r
  exact chr_of_range h0 h1 ⟨.str _, H, I.tok _, ⟨_, rfl⟩, q⟩
/-- len of a str, a bytes, a list, a tuple -/
def LenV (K : PySem.W.Frag) (x : V) (H : Hp) (n : Nat) : Prop :=
  match x with
  | .str y => y.length ≤ sizeLine ∧ n = y.length
  | .byt y => y.size ≤ sizeLine ∧ n = y.size
  | .ref p => (∃ xs, SqL K H p xs ∧ n = xs.length) ∨ ∃ xs, SqT K H p xs ∧ n = xs.length
  | _ => False
theorem call_len : CallR X (.builtin "len") (fun xs H Q => ∃ x n, xs = [x] ∧ LenV X.K x H n ∧ Q (.int n) H) := by
  intro pins s σ H xs us Q I r h
  obtain ⟨x, n, rfl, e, q⟩ := h
  obtain ⟨u, rfl, rx⟩ := vals1 r
  have hl := line63
  have hs : sizeLine = 16777216 := sizeLine_eq
  cases x with
  | str y =>
    obtain ⟨t, rfl⟩ := rx
    obtain ⟨hy, e'⟩ : y.length ≤ sizeLine ∧ n = y.length := e
    subst e'
    exact len_str (by omega) ⟨.int _, H, I.tok _, ⟨_, rfl⟩, q⟩
  | byt y =>
    obtain ⟨t, rfl⟩ := rx
    obtain ⟨hy, e'⟩ : y.size ≤ sizeLine ∧ n = y.size := e
    subst e'
    exact PySem.W.len_bytes (by omega) ⟨.int _, H, I.tok _, ⟨_, rfl⟩, q⟩
  | ref p =>
    cases rx
    have e' : (∃ xs, SqL X.K H p xs ∧ n = xs.length) ∨ ∃ xs, SqT X.K H p xs ∧ n = xs.length := e
    rcases e' with ⟨xs, hx, e'⟩ | ⟨xs, hx, e'⟩
    · subst e'
      obtain ⟨its, r', pl, hz⟩ := I.list hx
      have hlen := r'.length
      exact Calls.call_len_list pl.isList (by simp only [List.size_toArray]; omega) ⟨.int xs.length, H, I.tok _, ⟨_, by simp only [List.size_toArray]; rw [hlen]⟩, q⟩
    · subst e'
      obtain ⟨its, r', pl, hz⟩ := I.tuple hx
      have hlen := r'.length
      exact len_tuple pl (by simp only [List.size_toArray]; omega) ⟨.int xs.length, H, I.tok _, ⟨_, by simp only [List.size_toArray]; rw [hlen]⟩, q⟩
  | _ => exact (show False from e).elim
/-- divmod: a new tuple -/
theorem call_divmod : CallR X (.builtin "divmod") (fun xs H Q => ∃ i j, xs = [.int i, .int j] ∧ CDiv i j ∧ ∀ p, H p = none → Q (.ref p) (upd H p (.tup [.int (i / j), .int (i % j)]))) := by
  intro pins s σ H xs us Q I r h
  obtain ⟨i, j, rfl, ⟨h1, h2⟩, q⟩ := h
  obtain ⟨u, w', rfl, ⟨t, rfl⟩, ⟨t', rfl⟩⟩ := vals2 r
  refine divmod_int (by omega) ?_ (.inl (PyProof.noPylong_small (by omega)))
  rw [Int.fdiv_eq_ediv_of_nonneg i (by omega), Int.fmod_eq_emod_of_nonneg i (by omega)]
  have hn : H s.heap.objs.size = none := I.hok.fresh (Nat.le_refl _)
  refine ⟨.ref s.heap.objs.size, _, ?_, rfl, q _ hn⟩
  refine I.laid (fun b o e => Heap.get?_push_of_some _ e) (Nat.le_refl _) ⟨by simp only [List.length_cons, List.length_nil]; rw [sizeLine_eq]; decide, [.int (i / j) s.toks, .int (i % j) (s.toks + 1)], .cons ⟨_, rfl⟩ (.cons ⟨_, rfl⟩ .nil), ?_⟩
  exact ⟨_, Heap.get?_push_size s.heap rfl, rfl, 0, rfl⟩
end
end L2

namespace L2
open PySem PySem.Spec PyProof.Rows

/-! ### an instance, its attributes a map -/
structure ObjM (h : Heap) (x dx C : Addr) (mA : Str → Option Value) : Prop where
  obj : h.get? x = some (PySem.W.instObj C dx)
  ns : h.Ns1 dx mA
  ne : dx ≠ x

theorem lookIn_ns {h : Heap} {dx : Addr} {mA : Str → Option Value} (n : h.Ns1 dx mA) : ∃ od, h.get? dx = some od ∧ ∀ name, PySem.W.lookIn name od = some (mA name) := by
  obtain ⟨o, es, ep, ho, hd, hk, _, hm⟩ := n
  refine ⟨o, ho, fun name => ?_⟩
  have e := hm name
  unfold nsFind findBy at e
  rw [← Array.find?_toList] at e
  unfold PySem.W.lookIn
  rw [hd]
  dsimp only
  split
  · rename_i y q
    rw [q] at e
    exact congrArg some e
  · rename_i q
    rw [q] at e
    have a : es.toList.any (·.refKey) = false := by
      rw [List.any_eq_false]
      intro y hy
      obtain ⟨z, t, hkey⟩ := hk y (Array.mem_toList_iff.mp hy)
      simp [DictEntry.refKey, hkey]
    have a' : ¬ es.toList.any (·.refKey) = true := by rw [a]; exact Bool.false_ne_true
    rw [if_neg a']
    exact congrArg some e

theorem ObjM.look {h : Heap} {x dx C : Addr} {mA : Str → Option Value} (I : ObjM h x dx C mA) : ∃ od, PySem.W.InstAt h x (PySem.W.instObj C dx) C (some od) ∧ ∀ name, PySem.W.lookIn name od = some (mA name) :=
  let ⟨od, ho, hl⟩ := lookIn_ns I.ns
  ⟨od, ⟨I.obj, rfl, rfl, ho⟩, hl⟩

section
variable {prog : Program} {w : World} {A : Around} {E : Value → Shared → Prop} {s : Shared} {K : PySem.W.Frag} {x dx C f : Addr} {mA : Str → Option Value} {name : Str} {v : Value}

theorem get_map {expr : Bool} {Q : Value → Shared → Prop} (X : K.In s.heap) (I : ObjM s.heap x dx C mA) (hg : PySem.W.plainGet K C name = true) (hh : PySem.W.hasDictIn K C = true)
    (ha : PySem.W.findIn K (.ref C) name = some none) (hv : mA name = some v) (hv' : PySem.W.handedIn v = true) (h : Q v { s with toks := s.toks + 1 }) :
    wpAny (model prog w) A (getAttr (.ref x) name expr) Q E s := by
  obtain ⟨od, J, hl⟩ := I.look
  exact PySem.W.get_value X J (PySem.W.plainGet_of hg).1 (PySem.W.findObj_own hh ha rfl (by rw [hl, hv])) hv' h

theorem get_const {expr : Bool} {a : Value} {Q : Value → Shared → Prop} (X : K.In s.heap) (I : ObjM s.heap x dx C mA) (hg : PySem.W.plainGet K C name = true) (hh : PySem.W.hasDictIn K C = true)
    (ha : PySem.W.findIn K (.ref C) name = some (some a)) (hn : PySem.W.specialIn K a "__get__" = some none) (hc : PySem.W.copiedNames.contains name = false) (hv : mA name = none) (hv' : PySem.W.handedIn a = true)
    (h : Q a { s with toks := s.toks + 1 }) : wpAny (model prog w) A (getAttr (.ref x) name expr) Q E s := by
  obtain ⟨od, J, hl⟩ := I.look
  exact PySem.W.get_value X J (PySem.W.plainGet_of hg).1 (PySem.W.findObj_cls hh ha hn hv' hc (by rw [hl, hv])) hv' h

theorem get_meth {pl : Sem Bool} {Q : Value × List Value → Shared → Prop} (X : K.In s.heap) (I : ObjM s.heap x dx C mA) (hg : PySem.W.plainGet K C name = true)
    (hf : PySem.W.findIn K (.ref C) name = some (some (.ref f))) (ht : PySem.W.isFn K (.ref f) = true) (hv : mA name = none) (h : Q (.ref f, [.ref x]) s) :
    wpAny (model prog w) A (getMethod (.ref x) name pl) Q E s := by
  obtain ⟨od, J, hl⟩ := I.look
  exact PySem.W.method_fn X J (PySem.W.plainGet_of hg).1 (PySem.W.plainGet_of hg).2 hf (beq_iff_eq.mp ht) (by show (PySem.W.lookIn name od).map (·.isSome) = some false; rw [hl, hv]; rfl) h

theorem set_map {ns : List Str} {Q : Unit → Shared → Prop} (X : K.In s.heap) (I : ObjM s.heap x dx C mA)
    (hs : PySem.W.findIn K (.ref C) "__setattr__" = some (some (.builtin "object.__setattr__"))) (hp : PySem.W.plainOver K C = true) (ht : PySem.W.takerIn K C name = some none) (hh : PySem.W.hasDictIn K C = true)
    (hw : PySem.Within mA ns) (hsz : ns.length ≤ sizeLine)
    (h : ∀ h', ObjM h' x dx C (fun y => if y = name then some v else mA y) → Heap.SameBut dx s.heap h' → Q () { s with heap := h', toks := s.toks + 2 }) :
    wpAny (model prog w) A (setAttr (.ref x) name v) Q E s := by
  obtain ⟨od, J, hl⟩ := I.look
  refine PySem.W.set_plain X J hs (PySem.W.osa_open (s := { s with toks := s.toks + 1 }) (r := none) X J hp ht fun b => ?_)
  obtain ⟨cd, hc, hd'⟩ := PySem.W.any_some hh
  have hx : s.heap.get? x = some ⟨.ref C, some dx, .plain, #[]⟩ := I.obj
  refine wpAny_bind (wpAny_pure (wpAny_bind (wpAny_bind (wpAny_loadPart hx (wpAny_bind (PySem.W.Looks.here (s := { s with toks := s.toks + 1 }) (PySem.W.looks_clsIn X hc) ?_))))))
  rw [hd']
  refine wpAny_pure (a := some dx) (wpAny_bind (wpAny_pure (wpAny_bind ?_)))
  refine wpAny_nsSet1 (s := { s with toks := s.toks + 1 }) I.ns fun h' hn2 hs2 => ?_
  obtain ⟨oD, esD, epD, hoD, hdD, hcD⟩ := hn2.count (PySem.Within.cons name v hw)
  refine wpAny_bind (wpAny_lookBehind hoD (by rw [hdD]; exact pastItsLine_dict (Nat.le_trans hcD (by rw [List.length_cons]; omega))) ?_)
  exact wpAny_pure (h _ ⟨(hs2.2 _ (Ne.symm I.ne)).trans I.obj, hn2, I.ne⟩ hs2)

/-- C(..): the dict at the heap's end, the instance behind it; then its __init__ -/
theorem make_map {R : Result → Shared → Prop} {vs : List Value} {kw : List (Str × Value)} (X : K.In s.heap) (hm : PySem.W.makesIn K C = true)
    (hi : PySem.W.findIn K (.ref C) "__init__" = some (some (.ref f))) (hf : PySem.W.typeIn K (.ref f) = some (.type "function"))
    (h : codeAny (model prog w) (A.under (.builtin "type.__call__" ⟨.ref C :: vs, kw⟩)) (.call (.ref f) ⟨.ref (s.heap.objs.size + 1) :: vs, kw⟩) (PySem.W.InitBack (s.heap.objs.size + 1) R)
      { s with heap := (s.heap.push PySem.W.emptyDict).push (PySem.W.instObj C s.heap.objs.size) }) :
    codeAny (model prog w) A (.call (.ref C) ⟨vs, kw⟩) R s := by
  obtain ⟨hh, g, d, t, os⟩ := s
  exact PySem.W.make_core (PySem.W.makes_of X hm) (PySem.W.looks_findIn X hi) (fun self => PySem.W.bind_fn X self hf) (.inl rfl) h
/-- C() where there is no __init__ but object's -/
theorem make_map0 {R : Result → Shared → Prop} (X : K.In s.heap) (hm : PySem.W.makesIn K C = true)
    (hi : PySem.W.findIn K (.ref C) "__init__" = some (some (.builtin "object.__init__")))
    (hb : ∀ self, PySem.W.Looks (model prog w) s.heap (bindSpecial (.builtin "object.__init__") self) (.builtin "object.__init__", [self]))
    (h : codeAny (model prog w) (A.under (.builtin "type.__call__" ⟨[.ref C], []⟩)) (.call (.builtin "object.__init__") ⟨[.ref (s.heap.objs.size + 1)], []⟩) (PySem.W.InitBack (s.heap.objs.size + 1) R)
      { s with heap := (s.heap.push PySem.W.emptyDict).push (PySem.W.instObj C s.heap.objs.size) }) :
    codeAny (model prog w) A (.call (.ref C) ⟨[], []⟩) R s := by
  obtain ⟨hh, g, d, t, os⟩ := s
  exact PySem.W.make_core (PySem.W.makes_of X hm) (PySem.W.looks_findIn X hi) hb (.inr ⟨rfl, rfl⟩) h
end

/-! ### the attributes as a list of pairs -/
def putF (f : Str) (v : V) : List (Str × V) → List (Str × V)
  | [] => [(f, v)]
  | (g, x) :: r => if g = f then (g, v) :: r else (g, x) :: putF f v r
theorem lookup_putF (f g : Str) (v : V) : ∀ fs : List (Str × V), (putF f v fs).lookup g = if g = f then some v else fs.lookup g
  | [] => by
    show List.lookup g [(f, v)] = _
    by_cases h : g = f
    · have hb : (g == f) = true := beq_iff_eq.mpr h
      simp only [List.lookup, hb, if_pos h]
    · have hb : (g == f) = false := beq_eq_false_iff_ne.mpr h
      simp only [List.lookup, hb, if_neg h]
  | (k, x) :: r => by
    have ih := lookup_putF f g v r
    rw [show putF f v ((k, x) :: r) = (if k = f then (k, v) :: r else (k, x) :: putF f v r) from rfl]
    by_cases hk : k = f
    · rw [if_pos hk]
      by_cases h : g = k
      · have hb : (g == k) = true := beq_iff_eq.mpr h
        simp only [List.lookup, hb, if_pos (h.trans hk)]
      · have hb : (g == k) = false := beq_eq_false_iff_ne.mpr h
        simp only [List.lookup, hb, if_neg (fun e : g = f => h (e.trans hk.symm))]
    · rw [if_neg hk]
      by_cases h : g = k
      · have hb : (g == k) = true := beq_iff_eq.mpr h
        simp only [List.lookup, hb, if_neg (fun e : g = f => hk (h.symm.trans e))]
      · have hb : (g == k) = false := beq_eq_false_iff_ne.mpr h
        simp only [List.lookup, hb]
        exact ih
theorem keys_putF (f : Str) (v : V) : ∀ fs : List (Str × V), f ∈ (putF f v fs).map (·.1) ∧ ∀ g, g ∈ fs.map (·.1) → g ∈ (putF f v fs).map (·.1)
  | [] => ⟨by simp [putF], fun g h => by simp at h⟩
  | (k, x) :: r => by
    obtain ⟨i1, i2⟩ := keys_putF f v r
    rw [show putF f v ((k, x) :: r) = (if k = f then (k, v) :: r else (k, x) :: putF f v r) from rfl]
    by_cases hk : k = f
    · rw [if_pos hk]
      subst hk
      exact ⟨by simp, fun g h => by simpa using h⟩
    · rw [if_neg hk]
      refine ⟨?_, fun g h => ?_⟩
      · rw [List.map_cons]
        exact List.mem_cons_of_mem _ i1
      · rw [List.map_cons] at h ⊢
        rcases List.mem_cons.mp h with e | e
        · exact List.mem_cons.mpr (.inl e)
        · exact List.mem_cons_of_mem _ (i2 g e)
theorem length_putF (f : Str) (v : V) : ∀ fs : List (Str × V), (putF f v fs).length ≤ fs.length + 1
  | [] => by simp [putF]
  | (k, x) :: r => by
    have ih := length_putF f v r
    rw [show putF f v ((k, x) :: r) = (if k = f then (k, v) :: r else (k, x) :: putF f v r) from rfl]
    by_cases hk : k = f
    · rw [if_pos hk, List.length_cons, List.length_cons]; omega
    · rw [if_neg hk, List.length_cons, List.length_cons]; omega

theorem RelO.some_of {v : V} {o : Option Value} (r : RelO (some v) o) : ∃ u, o = some u ∧ RelV v u := by
  cases o with
  | none => exact (show False from r).elim
  | some u => exact ⟨u, rfl, r⟩
theorem RelO.none_of {o : Option Value} (r : RelO none o) : o = none := by
  cases o with
  | none => rfl
  | some u => exact (show False from r).elim
theorem handed_of {v : V} {u : Value} (r : RelV v u) : PySem.W.handedIn u = true := by
  cases v with
  | non => cases (show u = Value.none from r); rfl
  | bl b => cases (show u = Value.bool b from r); rfl
  | int i => obtain ⟨t, e⟩ := (show ∃ t, u = Value.int i t from r); cases e; rfl
  | str x => obtain ⟨t, e⟩ := (show ∃ t, u = Value.str x t from r); cases e; rfl
  | byt b => obtain ⟨t, e⟩ := (show ∃ t, u = Value.bytes b t from r); cases e; rfl
  | flt b => obtain ⟨t, e⟩ := (show ∃ t, u = Value.float b t from r); cases e; rfl
  | ref a => cases (show u = Value.ref a from r); rfl
  | ty n => cases (show u = Value.type n from r); rfl

section
variable {P : Program} {w : World} {H H' : Hp} {h h' : Heap} {a C dx : Addr} {fs fs' : List (Str × V)}
theorem ins_get (hok : HOk P w H h) (e : H a = some (.ins C dx fs)) : ∃ mA, ObjM h a dx C mA ∧ (∀ f, RelO (fs.lookup f) (mA f)) ∧ PySem.Within mA (fs.map (·.1)) ∧ fs.length ≤ 1000 ∧ H dx = some (.own a) := by
  obtain ⟨d, z, ne, ob, mA, n, r, q⟩ := (show ObjOk P w H h a (.ins C dx fs) from hok a _ e)
  exact ⟨mA, ⟨ob, n, ne⟩, r, q, z, d⟩
end

/-! ### what of the text a class must have -/
structure Cls (K : PySem.W.Frag) (C : Addr) : Prop where
  pg : PySem.W.plainGet K C Str.empty = true
  hd : PySem.W.hasDictIn K C = true
  po : PySem.W.plainOver K C = true
  sa : PySem.W.findIn K (.ref C) "__setattr__" = some (some (.builtin "object.__setattr__"))
theorem Cls.get {K : PySem.W.Frag} {C : Addr} (c : Cls K C) (f : Str) : PySem.W.plainGet K C f = true := c.pg
/-- no class of it has the name -/
def NoAttr (K : PySem.W.Frag) (C : Addr) (f : Str) : Prop := PySem.W.findIn K (.ref C) f = some none
theorem NoAttr.taker {K : PySem.W.Frag} {C : Addr} {f : Str} (n : NoAttr K C f) : PySem.W.takerIn K C f = some none := by
  unfold PySem.W.takerIn
  rw [show PySem.W.findIn K (.ref C) f = some none from n]
  rfl
/-- a constant of the class -/
structure Con (K : PySem.W.Frag) (C : Addr) (f : Str) (v : V) (u : Value) : Prop where
  at_ : PySem.W.findIn K (.ref C) f = some (some u)
  rel : RelV v u
  get : PySem.W.specialIn K u "__get__" = some none
  cp : PySem.W.copiedNames.contains f = false
/-- a method: a plain def of the class or of one above it -/
structure Meth (K : PySem.W.Frag) (C : Addr) (m : Str) (f : Addr) : Prop where
  at_ : PySem.W.findIn K (.ref C) m = some (some (.ref f))
  fn : PySem.W.isFn K (.ref f) = true
  kp : PySem.W.keepIn K (.ref f) = true

section
variable {X : Cx} {pins : List (Addr × Obj)} {σ : St} {H : Hp} {s : Shared} {a C dx : Addr} {fs : List (Str × V)} {f : Str} {v : V} {A : Around} {E : Value → Shared → Prop}

theorem getattr_ok {b : Bool} {Q : Value → Shared → Prop} (I : Inv X pins σ H s) (e : H a = some (.ins C dx fs)) (c : Cls X.K C) (n : NoAttr X.K C f) (l : fs.lookup f = some v)
    (h : ∀ u s', Inv X pins σ H s' → RelV v u → Q u s') : wpAny (model X.prog X.w) A (getAttr (.ref a) f b) Q E s := by
  obtain ⟨mA, O, r, _, _, _⟩ := ins_get I.hok e
  obtain ⟨u, hu, ru⟩ := RelO.some_of (v := v) (o := mA f) (by rw [← l]; exact r f)
  exact get_map I.kIn O (c.get f) c.hd n hu (handed_of ru) (h u _ (I.tok _) ru)

theorem getcon_ok {b : Bool} {u : Value} {Q : Value → Shared → Prop} (I : Inv X pins σ H s) (e : H a = some (.ins C dx fs)) (c : Cls X.K C) (k : Con X.K C f v u) (l : fs.lookup f = none)
    (h : ∀ s', Inv X pins σ H s' → Q u s') : wpAny (model X.prog X.w) A (getAttr (.ref a) f b) Q E s := by
  obtain ⟨mA, O, r, _, _, _⟩ := ins_get I.hok e
  have hn : mA f = none := RelO.none_of (by rw [← l]; exact r f)
  exact get_const I.kIn O (c.get f) c.hd k.at_ k.get k.cp hn (handed_of k.rel) (h _ (I.tok _))

theorem getmeth_ok {m : Str} {g : Addr} {pl : Sem Bool} {Q : Value × List Value → Shared → Prop} (I : Inv X pins σ H s) (e : H a = some (.ins C dx fs)) (c : Cls X.K C) (k : Meth X.K C m g) (l : fs.lookup m = none)
    (h : Q (.ref g, [.ref a]) s) : wpAny (model X.prog X.w) A (getMethod (.ref a) m pl) Q E s := by
  obtain ⟨mA, O, r, _, _, _⟩ := ins_get I.hok e
  have hn : mA m = none := RelO.none_of (by rw [← l]; exact r m)
  exact get_meth I.kIn O (c.get m) k.at_ k.fn hn h

theorem setattr_ok {y : V} {u : Value} {Q : Unit → Shared → Prop} (I : Inv X pins σ H s) (e : H a = some (.ins C dx fs)) (c : Cls X.K C) (n : NoAttr X.K C f) (hl : fs.length < 1000) (ry : RelV y u)
    (h : ∀ s', Inv X pins σ (upd H a (.ins C dx (putF f y fs))) s' → Q () s') : wpAny (model X.prog X.w) A (setAttr (.ref a) f u) Q E s := by
  obtain ⟨mA, O, r, wi, _, ho⟩ := ins_get I.hok e
  have hz : (fs.map (·.1)).length ≤ sizeLine := by rw [List.length_map, sizeLine_eq]; omega
  refine set_map I.kIn O c.sa c.po n.taker c.hd wi hz fun h' O' sb => h _ ?_
  have hd : ∃ o, h'.get? dx = some o := let ⟨o, _, _, e', _⟩ := O'.ns; ⟨o, e'⟩
  refine I.write (x := a) (e := dx) (by rw [e]; exact True.intro) (.inr ho) (fun b q hb z => (sb.2 b hb).trans z) hd ?_
  refine ⟨by rw [upd_ne O.ne]; exact ho, ?_, O.ne, O'.obj, _, O'.ns, fun g => ?_, fun g hg => ?_⟩
  · have := length_putF f y fs; omega
  · show RelO ((putF f y fs).lookup g) (if g = f then some u else mA g)
    rw [lookup_putF]
    by_cases q : g = f
    · rw [if_pos q, if_pos q]; exact ry
    · rw [if_neg q, if_neg q]; exact r g
  · by_cases q : g = f
    · rw [q]; exact (keys_putF f y fs).1
    · refine (keys_putF f y fs).2 g (wi g fun z => hg ?_)
      show (if g = f then some u else mA g) = none
      rw [if_neg q]; exact z

/-- a new instance, tracked, without attributes -/
theorem Inv.made (I : Inv X pins σ H s) : Inv X pins σ (upd (upd H s.heap.objs.size (.own (s.heap.objs.size + 1))) (s.heap.objs.size + 1) (.ins C s.heap.objs.size []))
    { s with heap := (s.heap.push PySem.W.emptyDict).push (PySem.W.instObj C s.heap.objs.size) } := by
  have e1 : (s.heap.push PySem.W.emptyDict).get? s.heap.objs.size = some PySem.W.emptyDict := Heap.get?_push_size s.heap rfl
  have e2 : ((s.heap.push PySem.W.emptyDict).push (PySem.W.instObj C s.heap.objs.size)).get? (s.heap.objs.size + 1) = some (PySem.W.instObj C s.heap.objs.size) := by
    have := Heap.get?_push_size (s.heap.push PySem.W.emptyDict) (o := PySem.W.instObj C s.heap.objs.size) rfl
    rwa [Heap.size_push] at this
  have e3 : (s.heap.push PySem.W.emptyDict).Ns s.heap.objs.size (fun _ => none) := ⟨PySem.W.emptyDict, #[], _, e1, rfl, (fun e he => absurd he (by simp)), fun _ => rfl⟩
  have I1 := I.laid (a := s.heap.objs.size) (o := .own (s.heap.objs.size + 1)) (h' := s.heap.push PySem.W.emptyDict) (t' := s.toks) (fun b u q => Heap.get?_push_of_some _ q) (Nat.le_refl _) ⟨_, e1⟩
  refine I1.laid (a := s.heap.objs.size + 1) (o := .ins C s.heap.objs.size []) (t' := s.toks) (fun b u q => Heap.get?_push_of_some _ q) (Nat.le_of_eq (Heap.size_push _ _)) ?_
  have ne : s.heap.objs.size ≠ s.heap.objs.size + 1 := Nat.ne_of_lt (Nat.lt_succ_self _)
  refine ⟨by rw [upd_ne ne, upd_same], Nat.zero_le _, ne, e2, fun _ => none, (Heap.Ns1.of_empty e3).at fun o q => Heap.get?_push_of_some _ q, fun _ => True.intro, fun y hy => absurd rfl hy⟩

/-- e.f where nothing but the object is asked: through attributeBase (super) and the last hold -/
theorem attr_of {prog : Program} {w : World} {env : Env} {e : Expr} {f : Str} {pos : Pos} {s : Shared} {Q : Value → Shared → Prop} (hb : attributeBase e f env (eval e env) = eval e env)
    (h : wpAny (model prog w) A (eval e env) (fun o s₁ => wpAny (model prog w) A (getAttr o f true) Q E s₁) E s) : wpAny (model prog w) A (eval (.Attribute e f pos) env) Q E s :=
  Attribute_any_ h (by rw [arm_eval_Attribute, hb])
end

/-! ### readings and rules -/
/-- e.f, an attribute of the instance -/
def tFld (K : PySem.W.Frag) (ta : TE) (f : Str) : TE := fun σ H Q => ta σ H fun x H1 => ∃ a C dx fs v, x = .ref a ∧ H1 a = some (.ins C dx fs) ∧ Cls K C ∧ NoAttr K C f ∧ fs.lookup f = some v ∧ Q v H1
/-- e.f, a constant of the class -/
def tCon (K : PySem.W.Frag) (ta : TE) (f : Str) : TE := fun σ H Q => ta σ H fun x H1 => ∃ a C dx fs v u, x = .ref a ∧ H1 a = some (.ins C dx fs) ∧ Cls K C ∧ Con K C f v u ∧ fs.lookup f = none ∧ Q v H1
/-- e.f = value -/
def sFld (K : PySem.W.Frag) (ta tv : TE) (f : Str) : TS := fun D σ H => tv σ H fun y H1 => ta σ H1 fun x H2 => ∃ a C dx fs, x = .ref a ∧ H2 a = some (.ins C dx fs) ∧ Cls K C ∧ NoAttr K C f ∧ fs.length < 1000 ∧
  D.nx σ (upd H2 a (.ins C dx (putF f y fs)))
/-- an augmented operator on two values -/
def InOp (X : Cx) (op : Operator) (rd : V → V → Hp → VK → Prop) : Prop :=
  ∀ (pins : List (Addr × Obj)) (s : Shared) (σ : St) (H : Hp) (x y : V) (u v : Value) (Q : VK), Inv X pins σ H s → RelV x u → RelV y v → rd x y H Q → wpAny (model X.prog X.w) X.A (inplaceOp op u v) (EP X pins σ Q) X.xe s
/-- e.f op= value -/
def sFldAug (K : PySem.W.Frag) (ta tv : TE) (rd : V → V → Hp → VK → Prop) (f : Str) : TS := fun D σ H => ta σ H fun x H1 => ∃ a C dx fs v, x = .ref a ∧ H1 a = some (.ins C dx fs) ∧ Cls K C ∧ NoAttr K C f ∧ fs.lookup f = some v ∧
  tv σ H1 fun y H2 => rd v y H2 fun z H3 => ∃ dx' fs', H3 a = some (.ins C dx' fs') ∧ fs'.length < 1000 ∧ D.nx σ (upd H3 a (.ins C dx' (putF f z fs')))

section
variable {X : Cx} {o e value : Expr} {f : Str} {pos pos' tpos : Pos} {ta tv : TE}
theorem pe_fld (he : PE X e ta) (hb : attributeBase e f X.env (eval e X.env) = eval e X.env) : PE X (.Attribute e f pos) (tFld X.K ta f) := by
  intro pins s σ H Q I h
  refine attr_of hb (thn (he pins s σ H _ I h) fun u s1 ⟨x, H1, I1, rx, a, C, dx, fs, v, ex, ea, c, n, l, q⟩ => ?_)
  subst ex
  obtain rfl : u = Value.ref a := rx
  exact getattr_ok I1 ea c n l fun u' s2 I2 ru => ⟨v, H1, I2, ru, q⟩
theorem pe_con (he : PE X e ta) (hb : attributeBase e f X.env (eval e X.env) = eval e X.env) : PE X (.Attribute e f pos) (tCon X.K ta f) := by
  intro pins s σ H Q I h
  refine attr_of hb (thn (he pins s σ H _ I h) fun u s1 ⟨x, H1, I1, rx, a, C, dx, fs, v, u0, ex, ea, c, k, l, q⟩ => ?_)
  subst ex
  obtain rfl : u = Value.ref a := rx
  exact getcon_ok I1 ea c k l fun s2 I2 => ⟨v, H1, I2, k.rel, q⟩
theorem ps_fld (ha : PE X o ta) (hv : PE X value tv) (hs : swapsWith value (some (.Attribute o f pos')) pos.line X.env = pure false) : PS X (.Assign [.Attribute o f pos'] value pos) (sFld X.K ta tv f) := by
  intro pins s σ H D I h
  refine plainObj_wpAny_Assign_Attribute (thn (hv pins s σ H _ I h) fun u s1 ⟨y, H1, I1, ry, q⟩ => thn (ha pins s1 σ H1 _ I1 q) fun ov s2 ⟨x, H2, I2, rx, a, C, dx, fs, ex, ea, c, n, l, q2⟩ => ?_) hs
  subst ex
  obtain rfl : ov = Value.ref a := rx
  exact setattr_ok I2 ea c n l ry fun s3 I3 => ⟨σ, _, I3, q2⟩
theorem ps_fldaug {op : Operator} {rd : V → V → Hp → VK → Prop} (ha : PE X o ta) (hv : PE X value tv) (hop : InOp X op rd) : PS X (.AugAssign (.Attribute o f tpos) op value pos) (sFldAug X.K ta tv rd f) := by
  intro pins s σ H D I h
  refine wpAny_AugAssign_AttributeAny (thn (ha pins s σ H _ I h) fun ov s1 ⟨x, H1, I1, rx, a, C, dx, fs, v, ex, ea, c, n, l, q⟩ => ?_)
  subst ex
  obtain rfl : ov = Value.ref a := rx
  refine getattr_ok I1 ea c n l fun u s2 I2 ru => thn (hv pins s2 σ H1 _ I2 q) fun w3 s3 ⟨y, H2, I3, ry, q3⟩ => thn (hop pins s3 σ H2 v y u w3 _ I3 ru ry q3) fun w4 s4 ⟨z, H3, I4, rz, dx', fs', ea', l', q4⟩ => ?_
  exact setattr_ok I4 ea' c n l' rz fun s5 I5 => ⟨σ, _, I5, q4⟩
def rAdd : V → V → Hp → VK → Prop := fun x y H Q => ∃ i j, x = .int i ∧ y = .int j ∧ Q (.int (i + j)) H
def rSub : V → V → Hp → VK → Prop := fun x y H Q => ∃ i j, x = .int i ∧ y = .int j ∧ Q (.int (i - j)) H
theorem in_add : InOp X .Add rAdd := by
  rintro pins s σ H x y u v Q I rx ry ⟨i, j, rfl, rfl, q⟩
  obtain ⟨t, rfl⟩ := (show ∃ t, u = Value.int i t from rx)
  obtain ⟨t', rfl⟩ := (show ∃ t', v = Value.int j t' from ry)
  exact PyProof.Rows.iadd_int ⟨.int (i + j), H, I.tok _, ⟨_, rfl⟩, q⟩
theorem in_sub : InOp X .Sub rSub := by
  rintro pins s σ H x y u v Q I rx ry ⟨i, j, rfl, rfl, q⟩
  obtain ⟨t, rfl⟩ := (show ∃ t, u = Value.int i t from rx)
  obtain ⟨t', rfl⟩ := (show ∃ t', v = Value.int j t' from ry)
  exact PyProof.Rows.isub_int ⟨.int (i - j), H, I.tok _, ⟨_, rfl⟩, q⟩

/-- what is between an instance and its method: the tree of a method call -/
theorem methcall_of {pl : Sem Bool} {m : Str} {apos : Pos} {args : List Expr} {pins : List (Addr × Obj)} {s : Shared} {σ : St} {H : Hp} {Q : Value → Shared → Prop} {te : TE} (he : PE X e te) (I : Inv X pins σ H s)
    (h : te σ H fun x H1 => ∃ a C dx fs g, x = .ref a ∧ H1 a = some (.ins C dx fs) ∧ Cls X.K C ∧ Meth X.K C m g ∧ fs.lookup m = none ∧
      ∀ s1, Inv X pins σ H1 s1 → wpAny (model X.prog X.w) X.A (callWith pos (.ref g) [.ref a] (backTo pos (starEach args X.env)) (backToKw pos (keywordEach [] X.env))) Q X.xe s1)
    (ht : eval (.Call (.Attribute e m apos) args [] pos) X.env = (do
      let ov ← eval e X.env
      standAt apos.atName
      let (f, first) ← holding [ov] (getMethod ov m pl)
      callWith pos f first (backTo pos (starEach args X.env)) (backToKw pos (keywordEach [] X.env)))) :
    wpAny (model X.prog X.w) X.A (eval (.Call (.Attribute e m apos) args [] pos) X.env) Q X.xe s := by
  refine PySem.W.methodCall_KW (pl := pl) (thn (he pins s σ H _ I h) fun u s1 ⟨x, H1, I1, rx, a, C, dx, fs, g, ex, ea, c, k, l, q⟩ => ?_) ht
  subst ex
  obtain rfl : u = Value.ref a := rx
  exact getmeth_ok I1 ea c k l (q s1 I1)
end

/-! ### isinstance -/
section
variable {X : Cx} {pins : List (Addr × Obj)} {σ : St} {H : Hp} {s : Shared} {A : Around} {E : Value → Shared → Prop} {Q : Value → Shared → Prop} {c : Value} {b : Bool}
/-- the type of a value, as the fragment's deciders take it; for an instance its class -/
inductive TyOf (K : PySem.W.Frag) (H : Hp) : V → Value → Prop where
  | non : TyOf K H .non (.type "NoneType")
  | bl (x : Bool) : TyOf K H (.bl x) (.type "bool")
  | int (i : Int) : TyOf K H (.int i) (.type "int")
  | str (x : Str) : TyOf K H (.str x) (.type "str")
  | flt (x : UInt64) : TyOf K H (.flt x) (.type "float")
  | lst {a : Addr} {xs : List V} (e : H a = some (.lst xs)) : TyOf K H (.ref a) (.type "list")
  | frz {a : Addr} {o : Obj} {xs : List V} (e : H a = some (.frz o (.lst xs))) : TyOf K H (.ref a) (.type "list")
  | tup {a : Addr} {xs : List V} (e : H a = some (.tup xs)) : TyOf K H (.ref a) (.type "tuple")
  | dK {a : Addr} {kvs : List (Key × V)} (e : H a = some (.dK kvs)) : TyOf K H (.ref a) (.type "dict")
  | dT {a : Addr} {kvs : List (List Key × V)} (e : H a = some (.dT kvs)) : TyOf K H (.ref a) (.type "dict")
  | ins {a C dx : Addr} {fs : List (Str × V)} (e : H a = some (.ins C dx fs)) (cl : Cls K C) (ha : PySem.W.findIn K (.ref C) "__class__" = some (some (.builtin "object.__class__")))
      (hn : PySem.W.specialIn K (.builtin "object.__class__") "__get__" = some (some (.builtin "getset_descriptor.__get__"))) (htk : PySem.W.takesIn K (.builtin "object.__class__") = some true)
      (hm : PySem.W.mroIn K C (.type "object") = some true) : TyOf K H (.ref a) (.ref C)
/-- isinstance(x, c) for one class c, a built-in or an own one: kitOne's answer -/
theorem isinst_ok {x : V} {u t : Value} (I : Inv X pins σ H s) (rx : RelV x u) (ty : TyOf X.K H x t) (e : PySem.W.kitOne X.K t c = some b) (h : ∀ tk, Q (.bool b) { s with toks := tk }) :
    wpAny (model X.prog X.w) A (call (.builtin "isinstance") [u, c]) Q E s := by
  cases ty with
  | non => cases (show u = Value.none from rx); exact PySem.W.kia_one PySem.W.kitx_none I.kIn True.intro e (fun z => nomatch z) h
  | bl y => cases (show u = Value.bool y from rx); exact PySem.W.kia_one PySem.W.kitx_bool I.kIn True.intro e (fun z => nomatch z) h
  | int i => obtain ⟨t, q⟩ := (show ∃ t, u = Value.int i t from rx); cases q; exact PySem.W.kia_one PySem.W.kitx_int I.kIn True.intro e (fun z => nomatch z) h
  | str y => obtain ⟨t, q⟩ := (show ∃ t, u = Value.str y t from rx); cases q; exact PySem.W.kia_one PySem.W.kitx_str I.kIn True.intro e (fun z => nomatch z) h
  | flt y => obtain ⟨t, q⟩ := (show ∃ t, u = Value.float y t from rx); cases q; exact PySem.W.kia_one PySem.W.kitx_float I.kIn True.intro e (fun z => nomatch z) h
  | @lst a xs ea =>
    cases (show u = Value.ref a from rx)
    obtain ⟨_, _, n, _, h1⟩ := (show ObjOk X.prog X.w H s.heap a (.lst xs) from I.hok a _ ea)
    exact PySem.W.kia_one PySem.W.kitx_list I.kIn ⟨_, h1, rfl⟩ e (fun z => nomatch z) h
  | @frz a ob xs ea =>
    cases (show u = Value.ref a from rx)
    obtain ⟨_, _, _, n, _, h1⟩ := (show ObjOk X.prog X.w H s.heap a (.frz ob (.lst xs)) from I.hok a _ ea)
    exact PySem.W.kia_one PySem.W.kitx_list I.kIn ⟨_, h1, rfl⟩ e (fun z => nomatch z) h
  | @tup a xs ea =>
    cases (show u = Value.ref a from rx)
    obtain ⟨_, _, _, p⟩ := (show ObjOk X.prog X.w H s.heap a (.tup xs) from I.hok a _ ea)
    obtain ⟨o, h1, h2, _⟩ := p
    exact PySem.W.kia_one PySem.W.kitx_tuple I.kIn ⟨o, h1, h2⟩ e (fun z => nomatch z) h
  | @dK a kvs ea =>
    cases (show u = Value.ref a from rx)
    obtain ⟨_, _, vs, _, p⟩ := (show ObjOk X.prog X.w H s.heap a (.dK kvs) from I.hok a _ ea)
    obtain ⟨o, es, ep, h1, h2, _⟩ := p
    exact PySem.W.kia_one PySem.W.kitx_dict I.kIn ⟨o, h1, h2.1⟩ e (fun z => nomatch z) h
  | @dT a kvs ea =>
    cases (show u = Value.ref a from rx)
    obtain ⟨_, _, xs, _, o, es, ep, h1, h2, _⟩ := (show ObjOk X.prog X.w H s.heap a (.dT kvs) from I.hok a _ ea)
    exact PySem.W.kia_one PySem.W.kitx_dict I.kIn ⟨o, h1, h2.1⟩ e (fun z => nomatch z) h
  | @ins a C dx fs ea cl ha hn htk hm =>
    cases (show u = Value.ref a from rx)
    obtain ⟨mA, O, _⟩ := ins_get I.hok ea
    obtain ⟨od, J, _⟩ := O.look
    exact PySem.W.kia_one (PySem.W.kitx_own (cl.get _) cl.hd ha hn htk hm) I.kIn J e (fun z => nomatch z) h
end
end L2

namespace L2
open PySem PySem.Spec PyProof.Rows

/-! ### room -/
structure Room (k : Nat) (A : Around) : Prop where
  hd : A.handled = none
  dp : A.depth + 3 * k + 5 < recursionLimit
  un : A.units + 16 * k + 200 < cLine
theorem Room.mono {j k : Nat} {A : Around} (r : Room k A) (h : j ≤ k) : Room j A := ⟨r.hd, by have := r.dp; omega, by have := r.un; omega⟩
theorem Room.deeper {k : Nat} {A : Around} (r : Room (k + 1) A) (env : Env) : Room k (A.deeper env) :=
  ⟨r.hd, by have := r.dp; show A.depth + 1 + 3 * k + 5 < _; omega, by have := r.un; show A.units + 3 + 16 * k + 200 < _; omega⟩
theorem Room.in1 {k : Nat} {A : Around} (r : Room (k + 1) A) : Room k A.in1 :=
  ⟨r.hd, by have := r.dp; show A.depth + 3 * k + 5 < _; omega, by have := r.un; show A.units + 1 + 16 * k + 200 < _; omega⟩
theorem make_depth {A : Around} {C : Addr} {us : List Value} {kw : List (Str × Value)} : (A.under (.builtin "type.__call__" ⟨.ref C :: us, kw⟩)).depth = A.depth + 1 := by
  first | rfl | simp [Around.under, Code.weight, Code.isCreation, Code.isGuard, Code.isCaller, Code.frames, Code.isFrame, guardIds]
theorem make_units {A : Around} {C : Addr} {us : List Value} {kw : List (Str × Value)} : (A.under (.builtin "type.__call__" ⟨.ref C :: us, kw⟩)).units = A.units + 1 := by
  first | rfl | simp [Around.under, Code.cUnits, Code.frames, Code.isFrame]
theorem Room.make {k : Nat} {A : Around} (r : Room (k + 1) A) (C : Addr) (us : List Value) (kw : List (Str × Value)) : Room k (A.under (.builtin "type.__call__" ⟨.ref C :: us, kw⟩)) :=
  ⟨r.hd, by have := r.dp; rw [make_depth]; omega, by have := r.un; rw [make_units]; omega⟩
theorem Room.depth {k : Nat} {A : Around} (r : Room k A) : A.depth < recursionLimit := by have := r.dp; omega
theorem Room.units {k : Nat} {A : Around} (r : Room k A) : A.units + 64 < cLine := by have := r.un; omega
theorem Room.units0 {k : Nat} {A : Around} (r : Room k A) : A.units < cLine := by have := r.un; omega

/-! ### argument lists and displays -/
def tNil : TA := fun _ H Q => Q [] H
def tCons (ta : TE) (tr : TA) : TA := fun σ H Q => ta σ H fun x H1 => tr σ H1 fun xs H2 => Q (x :: xs) H2
section
variable {X : Cx} {e : Expr} {es : List Expr} {te : TE} {t : TA} {pos : Pos}
theorem pa_nil : PA X [] tNil := fun _ _ _ _ H Q I h => Calls.spliced_nil ⟨[], H, I, .nil, h⟩
theorem pa_cons (ha : PE X e te) (hr : PA X es t) (hs : starEach (e :: es) X.env = (false, eval e X.env) :: starEach es X.env := by rfl) : PA X (e :: es) (tCons te t) := by
  intro pos pins s σ H Q I h
  rw [hs]
  show wpAny _ _ (spliced ((false, eval e X.env) :: backTo pos (starEach es X.env))) _ _ s
  refine Calls.spliced_cons (thn (ha pins s σ H _ I h) fun u s1 ⟨x, H1, I1, r1, q1⟩ => ?_)
  exact thn (hr pos pins s1 σ H1 _ I1 q1) fun us s2 ⟨xs, H2, I2, r2, q2⟩ => ⟨x :: xs, H2, I2, .cons r1 r2, q2⟩

/-- a tuple, a list of written items -/
def tTup (t : TA) : TE := fun σ H Q => t σ H fun xs H1 => xs.length ≤ sizeLine ∧ ∀ p, H1 p = none → Q (.ref p) (upd H1 p (.tup xs))
def tLst (t : TA) : TE := fun σ H Q => t σ H fun xs H1 => xs.length ≤ sizeLine ∧ ∀ p, H1 p = none → Q (.ref p) (upd H1 p (.lst xs))
theorem pe_tup {x1} (h : PA X es t) : PE X (.Tuple es x1 pos) (tTup t) := by
  intro pins s σ H Q I hq
  refine wpAny_Tuple_spliced (thn (h pos pins s σ H _ I hq) fun us s1 ⟨xs, H1, I1, r, z, q⟩ => ⟨by rw [← r.length]; exact z, ?_⟩)
  have hf : H1 s1.heap.objs.size = none := I1.hok.fresh (Nat.le_refl _)
  refine ⟨.ref s1.heap.objs.size, upd H1 s1.heap.objs.size (.tup xs), I1.laid (t' := s1.toks) (fun b u e => Heap.get?_push_of_some _ e) (Nat.le_refl _) ?_, rfl, q _ hf⟩
  exact ⟨z, us, r, ⟨_, Heap.get?_push_size _ rfl, rfl, _, rfl⟩⟩
theorem pe_lst (h : PA X es t) : PE X (.List es pos) (tLst t) := by
  intro pins s σ H Q I hq
  refine wpAny_List_spliced (thn (h pos pins s σ H _ I hq) fun us s1 ⟨xs, H1, I1, r, z, q⟩ => ⟨by rw [← r.length]; exact z, ?_⟩)
  have hf : H1 s1.heap.objs.size = none := I1.hok.fresh (Nat.le_refl _)
  refine ⟨.ref s1.heap.objs.size, upd H1 s1.heap.objs.size (.lst xs), I1.laid (t' := s1.toks) (fun b u e => Heap.get?_push_of_some _ e) (Nat.le_refl _) ?_, rfl, q _ hf⟩
  exact ⟨z, us, 0, r, Heap.get?_push_size _ rfl⟩
end

/-! ### what a def promises -/
/-- a def's promise: the bound arguments in the parameters' order, the heap, the wanted end, the wanted exception -/
abbrev Sp := List V → Hp → VK → XK → Prop
/-- how an exception lies behind a call (file 08 gives it): the callers' frames, abstract heap and state ahead of the call, the wish, the exception, the state -/
abbrev CXT := List Env → Hp → Shared → XK → Value → Shared → Prop

/-- the state at a call -/
structure Env0 (P : Program) (w : World) (K : PySem.W.Frag) (mg : Str → Option Value) (base : Heap) (A : Around) (outer : List Env) (s : Shared) (H : Hp) : Prop where
  frames : A.frames = some outer
  mod : Mod K mg base
  bs : ∀ b o, base.get? b = some o → s.heap.get? b = some o ∧ H b = none
  bsz : base.objs.size ≤ s.heap.objs.size
  funs : s.heap.FunFrames base outer
  frf : ∀ b ∈ frs outer, H b = none
  hok : HOk P w H s.heap
  bare : AllBare s.gens
/-- a call's end -/
def CE (outer : List Env) (P : Program) (w : World) (H : Hp) (s : Shared) (Q : VK) (u : Value) (s' : Shared) : Prop :=
  ∃ v H', s'.os = s.os ∧ AllBare s'.gens ∧ Un (frs outer) [] H H' s.heap s'.heap ∧ HOk P w H' s'.heap ∧ RelV v u ∧ Q v H'
def CR (CX : CXT) (outer : List Env) (P : Program) (w : World) (H : Hp) (s : Shared) (Q : VK) (E : XK) (r : Result) (s' : Shared) : Prop :=
  match r with
  | .ok (.ret u) => CE outer P w H s Q u s'
  | .ok _ => False
  | .error e => CX outer H s E e s'
structure FnOk (P : Program) (w : World) (K : PySem.W.Frag) (mg : Str → Option Value) (base : Heap) (CX : CXT) (k : Nat) (f : Addr) (fd : FuncData) (ps : List Str) (sp : Sp) : Prop where
  len : ∀ vs H Q E, sp vs H Q E → vs.length = ps.length
  run : ∀ (A : Around) (outer : List Env) (s : Shared) (H : Hp) (args : Args) (us : List Value) (vs : List V) (Q : VK) (E : XK), Room k A → Env0 P w K mg base A outer s H → BindsTo s fd args (ps.zip us) → Vals vs us → sp vs H Q E →
    codeAny (model P w) A (.call (.ref f) args) (CR CX outer P w H s Q E) s
theorem FnOk.mono {P : Program} {w : World} {K : PySem.W.Frag} {mg : Str → Option Value} {base : Heap} {CX : CXT} {j k : Nat} {f : Addr} {fd : FuncData} {ps : List Str} {sp : Sp} (F : FnOk P w K mg base CX j f fd ps sp) (h : j ≤ k) :
    FnOk P w K mg base CX k f fd ps sp := ⟨F.len, fun A outer s H args us vs Q E hr => F.run A outer s H args us vs Q E (hr.mono h)⟩
/-- a weaker promise -/
theorem FnOk.imp {P : Program} {w : World} {K : PySem.W.Frag} {mg : Str → Option Value} {base : Heap} {CX : CXT} {k : Nat} {f : Addr} {fd : FuncData} {ps : List Str} {sp sp' : Sp} (F : FnOk P w K mg base CX k f fd ps sp)
    (h : ∀ vs H Q E, sp' vs H Q E → sp vs H Q E) : FnOk P w K mg base CX k f fd ps sp' :=
  ⟨fun vs H Q E q => F.len vs H Q E (h _ _ _ _ q), fun A outer s H args us vs Q E hr he hb hv hs => F.run A outer s H args us vs Q E hr he hb hv (h _ _ _ _ hs)⟩

theorem Env0.make {P : Program} {w : World} {K : PySem.W.Frag} {mg : Str → Option Value} {base : Heap} {A : Around} {outer : List Env} {s : Shared} {H : Hp} (e : Env0 P w K mg base A outer s H) (C : Addr) (us : List Value) (kw : List (Str × Value)) :
    Env0 P w K mg base (A.under (.builtin "type.__call__" ⟨.ref C :: us, kw⟩)) outer s H := ⟨by first | exact e.frames | (simpa [Around.under, Code.envs, Code.isFrame, pushEnvs] using e.frames), e.mod, e.bs, e.bsz, e.funs, e.frf, e.hok, e.bare⟩
theorem Env0.in1 {P : Program} {w : World} {K : PySem.W.Frag} {mg : Str → Option Value} {base : Heap} {A : Around} {outer : List Env} {s : Shared} {H : Hp} (e : Env0 P w K mg base A outer s H) :
    Env0 P w K mg base A.in1 outer s H := ⟨e.frames, e.mod, e.bs, e.bsz, e.funs, e.frf, e.hok, e.bare⟩

section
variable {X : Cx} {pins : List (Addr × Obj)} {σ : St} {H : Hp} {s s' : Shared}
/-- from a body: what a callee wants -/
theorem Inv.env0 (I : Inv X pins σ H s) : Env0 X.prog X.w X.K X.mg X.base X.A X.stack s H :=
  ⟨I.ok.frames, I.ok.mod, I.bs, Nat.le_trans I.ok.bsz I.sz, I.stack, I.stkFree, I.hok, I.bare⟩
/-- behind a call -/
theorem Inv.after {Q : VK} {u : Value} (I : Inv X pins σ H s) (h : CE X.stack X.prog X.w H s Q u s') : EP X pins σ Q u s' := by
  obtain ⟨v, H', os, bare, un, hok, r, q⟩ := h
  obtain ⟨hh, g, d, t, os'⟩ := s'
  obtain rfl : os' = s.os := os
  exact ⟨v, H', I.call (h' := hh) (g' := g) (d' := d) (t' := t) (ch := []) un hok bare (fun b z => absurd z (by simp)), r, q⟩
end

/-! ### calls -/
/-- f(..): the written arguments, then the defaults dvs; E: what is wanted of an exception -/
def tCall (sp : Sp) (dvs : List V) (E : XK) (t : TA) : TE := fun σ H Q => t σ H fun vs H1 => sp (vs ++ dvs) H1 Q E
/-- o.m(..) of an instance of the class at C -/
def tMeth (C : Addr) (m : Str) (sp : Sp) (dvs : List V) (E : XK) (ta : TE) (t : TA) : TE := fun σ H Q => ta σ H fun x H1 => ∃ a dx fs, x = .ref a ∧ H1 a = some (.ins C dx fs) ∧ fs.lookup m = none ∧
  t σ H1 fun vs H2 => sp (x :: (vs ++ dvs)) H2 Q E
/-- C(..): a new instance and its dict, then __init__ -/
def tMake (C : Addr) (sp : Sp) (dvs : List V) (E : XK) (t : TA) : TE := fun σ H Q => t σ H fun vs H1 => ∀ x dx, H1 x = none → H1 dx = none → dx ≠ x →
  sp (.ref x :: (vs ++ dvs)) (upd (upd H1 dx (.own x)) x (.ins C dx [])) (fun v H2 => v = .non ∧ Q (.ref x) H2) E

/-- how the parameters are bound: us the positional arguments, kw the keywords' values by name, ds the defaults that fill up -/
def Binds (K : PySem.W.Frag) (fd : FuncData) (ps : List Str) (ds : List Value) : Prop :=
  ∀ (s : Shared) (us : List Value), K.In s.heap → (us ++ ds).length = ps.length → BindsTo s fd ⟨us, []⟩ (ps.zip (us ++ ds))
/-- every parameter is given -/
theorem Binds.all {K : PySem.W.Frag} {fd : FuncData} {ps : List Str} (h : ∀ us : List Value, us.length = ps.length → bindArgs fd ⟨us, []⟩ = pure (ps.zip us)) : Binds K fd ps [] := fun s us _ hl => by
  rw [List.append_nil] at hl ⊢
  exact .of_eq (h us hl)

/-- an exception of a callee reaches what this body wants of exceptions -/
def Passes (CX : CXT) (X : Cx) (E : XK) : Prop := ∀ (pins : List (Addr × Obj)) (σ : St) (H : Hp) (s : Shared) (e : Value) (s' : Shared), Inv X pins σ H s → CX X.stack H s E e s' → X.xe e s'

section
variable {X : Cx} {CX : CXT} {k : Nat} {f C : Addr} {fd : FuncData} {ps : List Str} {sp : Sp} {dvs : List V} {ds : List Value} {E : XK} {x m : Str} {p pos apos : Pos} {e o : Expr} {es : List Expr} {ta : TE} {t : TA}

/-- the callee runs -/
theorem run_fn {pins : List (Addr × Obj)} {σ : St} {H : Hp} {s : Shared} {Q : VK} {us : List Value} {vs : List V} (F : FnOk X.prog X.w X.K X.mg X.base CX k f fd ps sp) (hr : Room k X.A) (hb : Binds X.K fd ps ds) (hd : Vals dvs ds) (hx : Passes CX X E)
    (I : Inv X pins σ H s) (r : Vals vs us) (h : sp (vs ++ dvs) H Q E) : wpAny (model X.prog X.w) X.A (call (.ref f) us) (EP X pins σ Q) X.xe s := by
  have r2 : Vals (vs ++ dvs) (us ++ ds) := r.append hd
  have hl : (us ++ ds).length = ps.length := by rw [← r2.length]; exact F.len _ _ _ _ h
  refine wpAny_call (codeAny_mono (F.run X.A X.stack s H ⟨us, []⟩ (us ++ ds) (vs ++ dvs) Q E hr I.env0 (hb s us I.kIn hl) r2 h) fun r s' hq => ?_)
  cases r with
  | error e => exact hx pins σ H s e s' I hq
  | ok fl =>
    cases fl with
    | ret u => exact I.after hq
    | next => exact False.elim hq
    | brk => exact False.elim hq
    | cont => exact False.elim hq

theorem pe_call (F : FnOk X.prog X.w X.K X.mg X.base CX k f fd ps sp) (hr : Room k X.A) (hg : Gl X x) (hm : X.mg x = some (.ref f)) (hk : PySem.W.keepIn X.K (.ref f) = true) (hb : Binds X.K fd ps ds) (hd : Vals dvs ds) (hx : Passes CX X E)
    (ha : PA X (e :: es) t) (hdb : (x == ("__debug__" : Str)) = false := by decide) (he : starEach (e :: es) X.env = (false, eval e X.env) :: starEach es X.env := by rfl) (hpl : (backTo pos (starEach es X.env)).any (·.1) = false := by rfl) :
    PE X (.Call (.Name x p) (e :: es) [] pos) (tCall sp dvs E t) := by
  intro pins s σ H Q I h
  refine wpAny_Call_Name_kw (ld_glob I hg hm ?_ hdb)
  refine PySem.W.callWith_K (h₀ := X.base) I.ok.mod.kin hk (thn (ha pos pins s σ H _ I h) fun us s1 ⟨vs, H1, I1, r, q⟩ => ⟨I1.kIn, ?_⟩) he hpl
  exact run_fn F hr hb hd hx I1 r q
theorem pe_call0 (F : FnOk X.prog X.w X.K X.mg X.base CX k f fd ps sp) (hr : Room k X.A) (hg : Gl X x) (hm : X.mg x = some (.ref f)) (hk : PySem.W.keepIn X.K (.ref f) = true) (hb : Binds X.K fd ps ds) (hd : Vals dvs ds) (hx : Passes CX X E)
    (hdb : (x == ("__debug__" : Str)) = false := by decide) : PE X (.Call (.Name x p) [] [] pos) (tCall sp dvs E tNil) := by
  intro pins s σ H Q I h
  refine wpAny_Call_Name_kw (ld_glob I hg hm ?_ hdb)
  exact PySem.W.callWith_K0 I.kIn hk (run_fn (us := []) F hr hb hd hx I .nil h)

/-- o.m(e, ..) -/
theorem pe_meth {pl : Sem Bool} (he : PE X o ta) (c : Cls X.K C) (hm : Meth X.K C m f) (F : FnOk X.prog X.w X.K X.mg X.base CX k f fd ps sp) (hr : Room k X.A) (hb : Binds X.K fd ps ds) (hd : Vals dvs ds) (hx : Passes CX X E) (ha : PA X (e :: es) t)
    (hst : starEach (e :: es) X.env = (false, eval e X.env) :: starEach es X.env := by rfl) (hpl : (backTo pos (starEach es X.env)).any (·.1) = false := by rfl)
    (ht : eval (.Call (.Attribute o m apos) (e :: es) [] pos) X.env = (do
      let ov ← eval o X.env
      standAt apos.atName
      let (f, first) ← holding [ov] (getMethod ov m pl)
      callWith pos f first (backTo pos (starEach (e :: es) X.env)) (backToKw pos (keywordEach [] X.env))) := by rfl) :
    PE X (.Call (.Attribute o m apos) (e :: es) [] pos) (tMeth C m sp dvs E ta t) := by
  intro pins s σ H Q I h
  refine PySem.W.methodCall_KW (pl := pl) (thn (he pins s σ H _ I h) fun u s1 ⟨x, H1, I1, rx, a, dx, fs, ex, ea, l, q⟩ => ?_) ht
  subst ex
  obtain rfl : u = Value.ref a := rx
  refine getmeth_ok I1 ea c hm l ?_
  refine PySem.W.callWith_K (first := [.ref a]) (h₀ := X.base) I.ok.mod.kin hm.kp (thn (ha pos pins s1 σ H1 _ I1 q) fun us s2 ⟨vs, H2, I2, r, q2⟩ => ⟨I2.kIn, ?_⟩) hst hpl
  exact run_fn (us := .ref a :: us) (vs := .ref a :: vs) F hr hb hd hx I2 (.cons rfl r) q2
/-- o.m() -/
theorem pe_meth0 {pl : Sem Bool} (he : PE X o ta) (c : Cls X.K C) (hm : Meth X.K C m f) (F : FnOk X.prog X.w X.K X.mg X.base CX k f fd ps sp) (hr : Room k X.A) (hb : Binds X.K fd ps ds) (hd : Vals dvs ds) (hx : Passes CX X E)
    (ht : eval (.Call (.Attribute o m apos) [] [] pos) X.env = (do
      let ov ← eval o X.env
      standAt apos.atName
      let (f, first) ← holding [ov] (getMethod ov m pl)
      callWith pos f first (backTo pos (starEach [] X.env)) (backToKw pos (keywordEach [] X.env))) := by rfl) :
    PE X (.Call (.Attribute o m apos) [] [] pos) (tMeth C m sp dvs E ta tNil) := by
  intro pins s σ H Q I h
  refine PySem.W.methodCall_KW (pl := pl) (thn (he pins s σ H _ I h) fun u s1 ⟨x, H1, I1, rx, a, dx, fs, ex, ea, l, q⟩ => ?_) ht
  subst ex
  obtain rfl : u = Value.ref a := rx
  refine getmeth_ok I1 ea c hm l ?_
  exact PySem.W.callWith_K0 (first := [.ref a]) I1.kIn hm.kp (run_fn (us := [.ref a]) (vs := [.ref a]) F hr hb hd hx I1 (.cons rfl .nil) q)

/-- what a class must have to be made -/
structure Mk (K : PySem.W.Frag) (C f : Addr) : Prop where
  makes : PySem.W.makesIn K C = true
  init : PySem.W.findIn K (.ref C) "__init__" = some (some (.ref f))
  fn : PySem.W.isFn K (.ref f) = true
  kp : PySem.W.keepIn K (.ref C) = true

theorem run_make {pins : List (Addr × Obj)} {σ : St} {H : Hp} {s : Shared} {Q : VK} {us : List Value} {vs : List V} (M : Mk X.K C f) (F : FnOk X.prog X.w X.K X.mg X.base CX k f fd ps sp) (hr : Room (k + 1) X.A) (hb : Binds X.K fd ps ds) (hd : Vals dvs ds)
    (hx : Passes CX X E) (I : Inv X pins σ H s) (r : Vals vs us)
    (h : ∀ x dx, H x = none → H dx = none → dx ≠ x → sp (.ref x :: (vs ++ dvs)) (upd (upd H dx (.own x)) x (.ins C dx [])) (fun v H2 => v = .non ∧ Q (.ref x) H2) E) :
    wpAny (model X.prog X.w) X.A (call (.ref C) us) (EP X pins σ Q) X.xe s := by
  have hq := h (s.heap.objs.size + 1) s.heap.objs.size (I.hok.fresh (Nat.le_succ _)) (I.hok.fresh (Nat.le_refl _)) (Nat.ne_of_lt (Nat.lt_succ_self _))
  have I2 := Inv.made (C := C) I
  have r2 : Vals (V.ref (s.heap.objs.size + 1) :: (vs ++ dvs)) (Value.ref (s.heap.objs.size + 1) :: (us ++ ds)) := .cons rfl (r.append hd)
  have hl : (Value.ref (s.heap.objs.size + 1) :: us ++ ds).length = ps.length := by
    have e := r2.length
    rw [F.len _ _ _ _ hq] at e
    exact e.symm
  refine wpAny_call (make_map (f := f) I.kIn M.makes M.init (beq_iff_eq.mp M.fn) (codeAny_mono (F.run _ X.stack _ _ ⟨Value.ref (s.heap.objs.size + 1) :: us, []⟩ (Value.ref (s.heap.objs.size + 1) :: (us ++ ds)) _ _ E (hr.make C us [])
    (I2.env0.make C us []) (hb _ (Value.ref (s.heap.objs.size + 1) :: us) I2.kIn hl) r2 hq) fun r s' hq' => ?_))
  cases r with
  | error e => exact hx pins σ _ _ e s' I2 hq'
  | ok fl =>
    cases fl with
    | ret u =>
      obtain ⟨v, H', I3, rv, ev, q3⟩ := I2.after hq'
      subst ev
      exact ⟨rv, ⟨V.ref (s.heap.objs.size + 1), H', I3, rfl, q3⟩⟩
    | next => exact False.elim hq'
    | brk => exact False.elim hq'
    | cont => exact False.elim hq'
theorem pe_make (M : Mk X.K C f) (F : FnOk X.prog X.w X.K X.mg X.base CX k f fd ps sp) (hr : Room (k + 1) X.A) (hg : Gl X x) (hm : X.mg x = some (.ref C)) (hb : Binds X.K fd ps ds) (hd : Vals dvs ds) (hx : Passes CX X E)
    (ha : PA X (e :: es) t) (hdb : (x == ("__debug__" : Str)) = false := by decide) (he : starEach (e :: es) X.env = (false, eval e X.env) :: starEach es X.env := by rfl) (hpl : (backTo pos (starEach es X.env)).any (·.1) = false := by rfl) :
    PE X (.Call (.Name x p) (e :: es) [] pos) (tMake C sp dvs E t) := by
  intro pins s σ H Q I h
  refine wpAny_Call_Name_kw (ld_glob I hg hm ?_ hdb)
  refine PySem.W.callWith_K (h₀ := X.base) I.ok.mod.kin M.kp (thn (ha pos pins s σ H _ I h) fun us s1 ⟨vs, H1, I1, r, q⟩ => ⟨I1.kIn, ?_⟩) he hpl
  exact run_make M F hr hb hd hx I1 r q
theorem pe_make0 (M : Mk X.K C f) (F : FnOk X.prog X.w X.K X.mg X.base CX k f fd ps sp) (hr : Room (k + 1) X.A) (hg : Gl X x) (hm : X.mg x = some (.ref C)) (hb : Binds X.K fd ps ds) (hd : Vals dvs ds) (hx : Passes CX X E)
    (hdb : (x == ("__debug__" : Str)) = false := by decide) : PE X (.Call (.Name x p) [] [] pos) (tMake C sp dvs E tNil) := by
  intro pins s σ H Q I h
  refine wpAny_Call_Name_kw (ld_glob I hg hm ?_ hdb)
  exact PySem.W.callWith_K0 I.kIn M.kp (run_make (us := []) M F hr hb hd hx I .nil h)
end

/-! ### keywords -/
/-- the values of the keywords, from the left -/
def PK (X : Cx) (kws : List Keyword) (t : TA) : Prop :=
  ∀ (pos : Pos) (pins : List (Addr × Obj)) (s : Shared) (σ : St) (H : Hp) (Q : List V → Hp → Prop), Inv X pins σ H s → t σ H Q → wpAny (model X.prog X.w) X.A (evalAll ((backToKw pos (keywordEach kws X.env)).map (·.2))) (AP X pins σ Q) X.xe s
section
variable {X : Cx} {CX : CXT} {k : Nat} {f C : Addr} {fd : FuncData} {ps ks : List Str} {sp : Sp} {E : XK} {x m : Str} {p pos apos kpos : Pos} {e o : Expr} {es : List Expr} {kws : List Keyword} {te ta : TE} {t tk : TA} {nm : Option Str}
theorem pk_nil : PK X [] tNil := fun _ _ _ _ H Q I h => wpAny_evalAll_nil ⟨[], H, I, .nil, h⟩
theorem pk_cons (ha : PE X e te) (hr : PK X kws t) : PK X (⟨nm, e, kpos⟩ :: kws) (tCons te t) := by
  intro pos pins s σ H Q I h
  show wpAny _ _ (evalAll ((do let v ← eval e X.env; standAt pos; pure v) :: (backToKw pos (keywordEach kws X.env)).map (·.2))) _ _ s
  refine wpAny_evalAll_cons (wpAny_bind (thn (ha pins s σ H _ I h) fun u s1 ⟨x, H1, I1, r1, q1⟩ => wpAny_bind (wpAny_standAt (wpAny_pure ?_))))
  exact thn (hr pos pins s1 σ H1 _ I1 q1) fun us s2 ⟨xs, H2, I2, r2, q2⟩ => ⟨x :: xs, H2, I2, .cons r1 r2, q2⟩

/-- how a call with keywords binds: g puts the positional values us and the keywords' values ws (names ks) in the parameters' order, defaults among them -/
structure KBinds (K : PySem.W.Frag) (fd : FuncData) (ps ks : List Str) (g : List Value → List Value → List Value) (gV : List V → List V → List V) : Prop where
  to : ∀ (s : Shared) (us ws : List Value), K.In s.heap → (g us ws).length = ps.length → BindsTo s fd ⟨us, ks.zip ws⟩ (ps.zip (g us ws))
  rel : ∀ {vs : List V} {us : List Value} {zs : List V} {ws : List Value}, Vals vs us → Vals zs ws → Vals (gV vs zs) (g us ws)
def tCallK (sp : Sp) (gV : List V → List V → List V) (E : XK) (t tk : TA) : TE := fun σ H Q => t σ H fun vs H1 => tk σ H1 fun zs H2 => sp (gV vs zs) H2 Q E
variable {g : List Value → List Value → List Value} {gV : List V → List V → List V}
theorem run_fnk {pins : List (Addr × Obj)} {σ : St} {H : Hp} {s : Shared} {Q : VK} {us ws : List Value} {vs zs : List V} (F : FnOk X.prog X.w X.K X.mg X.base CX k f fd ps sp) (hr : Room k X.A) (hb : KBinds X.K fd ps ks g gV) (hx : Passes CX X E)
    (I : Inv X pins σ H s) (r : Vals vs us) (rz : Vals zs ws) (h : sp (gV vs zs) H Q E) : wpAny (model X.prog X.w) X.A (call (.ref f) us (ks.zip ws)) (EP X pins σ Q) X.xe s := by
  have r2 := hb.rel r rz
  have hl : (g us ws).length = ps.length := by rw [← r2.length]; exact F.len _ _ _ _ h
  refine wpAny_call (codeAny_mono (F.run X.A X.stack s H ⟨us, ks.zip ws⟩ (g us ws) (gV vs zs) Q E hr I.env0 (hb.to s us ws I.kIn hl) r2 h) fun r s' hq => ?_)
  cases r with
  | error e => exact hx pins σ H s e s' I hq
  | ok fl =>
    cases fl with
    | ret u => exact I.after hq
    | next => exact False.elim hq
    | brk => exact False.elim hq
    | cont => exact False.elim hq
/-- f(e, .., k = v, ..) -/
theorem pe_callK (F : FnOk X.prog X.w X.K X.mg X.base CX k f fd ps sp) (hr : Room k X.A) (hg : Gl X x) (hm : X.mg x = some (.ref f)) (hk : PySem.W.keepIn X.K (.ref f) = true) (hb : KBinds X.K fd ps ks g gV) (hx : Passes CX X E)
    (ha : PA X (e :: es) t) (hkw : PK X kws tk) (hall : (backToKw pos (keywordEach kws X.env)).all (·.1.isSome) = true := by rfl) (hks : (backToKw pos (keywordEach kws X.env)).filterMap (·.1) = ks := by rfl)
    (hdb : (x == ("__debug__" : Str)) = false := by decide) (he : starEach (e :: es) X.env = (false, eval e X.env) :: starEach es X.env := by rfl)
    (hpl : ((backTo pos (starEach (e :: es) X.env)).any (·.1) || (backToKw pos (keywordEach kws X.env)).any (·.1.isNone)) = false := by rfl) :
    PE X (.Call (.Name x p) (e :: es) kws pos) (tCallK sp gV E t tk) := by
  intro pins s σ H Q I h
  refine wpAny_Call_Name_kw (ld_glob I hg hm ?_ hdb)
  refine PySem.W.callWith_KW (h₀ := X.base) I.ok.mod.kin hk hall (thn (ha pos pins s σ H _ I h) fun us s1 ⟨vs, H1, I1, r, q⟩ => ?_) hpl he
  refine thn (hkw pos pins s1 σ H1 _ I1 q) fun ws s2 ⟨zs, H2, I2, rz, q2⟩ => ⟨I2.kIn, ?_⟩
  rw [hks]
  exact run_fnk F hr hb hx I2 r rz q2
end

/-! ### a def's body keeps its promise -/
/-- names: the parameters first -/
structure FnScope (N P : List Str) (sc : Scope) : Prop where
  kind : sc.kind = .function
  co : sc.isCoroutine = false
  gen : sc.isGenerator = false
  nd : N.Nodup
  pre : N.take P.length = P
  par : ∀ x ∈ P, sc.names.lookup x = some .local ∨ sc.names.lookup x = some .cell
  nofree : ∀ y ∈ sc.names, y.2 ≠ .free

theorem bindL_out {kindOf : Str → Option NameKind} {x : Str} : ∀ {binds : List (Str × Value)} {m : Str → Option Value}, (∀ v, (x, v) ∉ binds) → bindL kindOf binds m x = m x
  | [], _, _ => rfl
  | (n, v) :: r, m, h => by
    unfold bindL
    rw [bindL_out fun w hw => h w (List.mem_cons_of_mem _ hw)]
    split
    · have : x ≠ n := by rintro rfl; exact h v List.mem_cons_self
      simp [this]
    · rfl
theorem bindC_out {kindOf : Str → Option NameKind} {x : Str} : ∀ {binds : List (Str × Value)} {m : Str → Option Value}, (∀ v, (x, v) ∉ binds) → bindC kindOf binds m x = m x
  | [], _, _ => rfl
  | (n, v) :: r, m, h => by
    unfold bindC
    rw [bindC_out fun w hw => h w (List.mem_cons_of_mem _ hw)]
    split
    · rfl
    · have : x ≠ n := by rintro rfl; exact h v List.mem_cons_self
      simp [this]
theorem bindL_get {kindOf : Str → Option NameKind} {x : Str} {v : Value} : ∀ {P : List Str} {vs : List Value} {i : Nat} {m : Str → Option Value}, P.Nodup → P[i]? = some x → vs[i]? = some v → kindOf x = some .local →
    bindL kindOf (P.zip vs) m x = some v
  | [], _, _, _, _, h, _, _ => by simp at h
  | _ :: _, [], _, _, _, _, h, _ => by simp at h
  | p :: P, w :: vs, 0, m, nd, h1, h2, hk => by
    simp at h1 h2; subst h1; subst h2
    show bindL kindOf ((p, w) :: P.zip vs) m p = _
    unfold bindL
    rw [bindL_out fun v hv => (List.nodup_cons.mp nd).1 (List.of_mem_zip hv).1, if_pos hk]
    simp
  | p :: P, w :: vs, i + 1, m, nd, h1, h2, hk => by
    show bindL kindOf ((p, w) :: P.zip vs) m x = _
    unfold bindL
    exact bindL_get (i := i) (List.nodup_cons.mp nd).2 (by simpa using h1) (by simpa using h2) hk
theorem bindC_get {kindOf : Str → Option NameKind} {x : Str} {v : Value} : ∀ {P : List Str} {vs : List Value} {i : Nat} {m : Str → Option Value}, P.Nodup → P[i]? = some x → vs[i]? = some v → kindOf x ≠ some .local →
    bindC kindOf (P.zip vs) m x = some v
  | [], _, _, _, _, h, _, _ => by simp at h
  | _ :: _, [], _, _, _, _, h, _ => by simp at h
  | p :: P, w :: vs, 0, m, nd, h1, h2, hk => by
    simp at h1 h2; subst h1; subst h2
    show bindC kindOf ((p, w) :: P.zip vs) m p = _
    unfold bindC
    rw [bindC_out fun v hv => (List.nodup_cons.mp nd).1 (List.of_mem_zip hv).1, if_neg hk]
    simp
  | p :: P, w :: vs, i + 1, m, nd, h1, h2, hk => by
    show bindC kindOf ((p, w) :: P.zip vs) m x = _
    unfold bindC
    exact bindC_get (i := i) (List.nodup_cons.mp nd).2 (by simpa using h1) (by simpa using h2) hk

/-- the names' values at the entry -/
def start (N : List Str) (vs : List V) : St := vs.map some ++ List.replicate (N.length - vs.length) none

/-- the context of a def's body, at its entry; an exception leaves the frame, then lies as CX says -/
def cxOf (CX : CXT) (P : Program) (w : World) (K : PySem.W.Frag) (mg : Str → Option Value) (base : Heap) (N : List Str) (qual : Str) (scope : Scope) (f : Addr) (cd : Value) (A : Around) (outer : List Env) (s : Shared) (H : Hp) (E : XK) : Cx where
  prog := P
  w := w
  K := K
  mg := mg
  base := base
  A := A.deeper (envOfC qual scope s.heap.objs.size f cd)
  N := N
  s₀ := s
  H₀ := H
  env := envOfC qual scope s.heap.objs.size f cd
  outer := outer
  stack := envOfC qual scope s.heap.objs.size f cd :: outer
  ex := []
  calm := true
  fn := fun _ => true
  pn := []
  xe := fun e s' => wpAny (model P w) (A.deeper (envOfC qual scope s.heap.objs.size f cd)) (leaving (envOfC qual scope s.heap.objs.size f cd) e) (fun _ s'' => CX outer H s E e s'') (fun e' s'' => CX outer H s E e' s'') s'

theorem cell_has {sc : Scope} {n : Nat} {x : Str} (h : sc.names.lookup x = some .cell) : ∃ c, (cellsFrom n sc.names []).lookup x = some c := by
  have q := PySem.W.cellsFrom_some sc.names n [] (.inl h)
  exact Option.isSome_iff_exists.mp q

theorem inv_start {CX : CXT} {P : Program} {w : World} {K : PySem.W.Frag} {mg : Str → Option Value} {base : Heap} {N ps : List Str} {qual : Str} {scope : Scope} {f : Addr} {cd : Value} {A : Around} {outer : List Env} {s s1 : Shared} {H : Hp} {E : XK} {us : List Value} {vs : List V}
    (S : FnScope N ps scope) (hd : A.handled = none) (e0 : Env0 P w K mg base A outer s H) (hl : vs.length = ps.length) (r : Vals vs us)
    (x : InCallC s s.heap.objs.size (bindL (envOfC qual scope s.heap.objs.size f cd).kindOf (ps.zip us) fun _ => none) (cellsFrom (s.heap.objs.size + 1) scope.names []) (bindC (envOfC qual scope s.heap.objs.size f cd).kindOf (ps.zip us) fun _ => none) s1) :
    Inv (cxOf CX P w K mg base N qual scope f cd A outer s H E) [] (start N vs) H s1 := by
  have hpl : ps.length ≤ N.length := by have := congrArg List.length S.pre; rw [List.length_take] at this; omega
  obtain ⟨h1, tk, rfl, hk⟩ := x.done
  have noA : ∀ b : Addr, b ∉ (cxOf CX P w K mg base N qual scope f cd A outer s H E).ex := fun b z => absurd (show b ∈ ([] : List Addr) from z) (by simp)
  refine ⟨⟨e0.mod, S.kind, rfl, rfl, Nat.le_refl _, fun y z c h1 h2 => ?_, fun y hy => ?_, fun y c _ h => ?_, fun _ => hd, Around.frames_deeper e0.frames, .inr ⟨rfl, rfl⟩, fun b z => absurd z (noA b), e0.bs, e0.bsz, fun b _ _ => noA b, fun b z => absurd z (noA b), e0.funs, e0.frf⟩,
    rfl, e0.bare, Un.kept hk, ⟨_, x.toInCall.ns, fun i y v h1 h2 h3 => ?_⟩, fun y c h => ⟨_, x.cell y c h⟩, e0.hok.fresh (Nat.le_refl _), fun y c h => ?_, fun p hp => absurd (show p ∈ ([] : List (Addr × Obj)) from hp) (by simp), e0.hok.kept hk, ?_⟩
  · exact name_of_addr x.apart (PySem.mem_of_lookup h1) (PySem.mem_of_lookup h2)
  · have hy : scope.names.lookup y = some .cell ∨ scope.names.lookup y = some .free := hy
    rcases hy with hy | hy
    · exact cell_has hy
    · exact absurd rfl (S.nofree _ (PySem.mem_of_lookup hy))
  · exact Nat.le_of_lt (x.above y c (PySem.mem_of_lookup h))
  · have hi : i < vs.length := by
      unfold start at h2
      by_cases hi : i < vs.length
      · exact hi
      · rw [List.getElem?_append_right (by simpa using hi)] at h2
        rw [List.getElem?_replicate] at h2
        split at h2 <;> cases h2
    have ha : vs[i]? = some v := by
      unfold start at h2
      rw [List.getElem?_append_left (by simpa using hi), List.getElem?_map] at h2
      cases e : vs[i]? with
      | none => rw [e] at h2; cases h2
      | some a => rw [e] at h2; cases h2; rfl
    obtain ⟨u, hu, rv⟩ := r.get ha
    have hp : ps[i]? = some y := by
      rw [← S.pre, List.getElem?_take_of_lt (by omega)]; exact h1
    have ndP : ps.Nodup := by rw [← S.pre]; exact S.nd.sublist (List.take_sublist _ _)
    refine ⟨u, rv, ?_⟩
    rcases S.par y (List.mem_of_getElem? hp) with k | k
    · exact .inl ⟨k, bindL_get ndP hp hu k⟩
    · obtain ⟨c, e⟩ := cell_has (n := s.heap.objs.size + 1) k
      refine .inr ⟨.inl k, c, e, ?_⟩
      have q := x.cell y c e
      rw [bindC_get ndP hp hu (by show scope.names.lookup y ≠ _; rw [k]; decide)] at q
      exact q
  · exact e0.hok.fresh (Nat.le_of_lt (x.above y c (PySem.mem_of_lookup h)))
  · unfold start
    show _ = N.length
    rw [List.length_append, List.length_map, List.length_replicate]
    omega

/-- THE RULE: a def (or a method) of the text, by its body. The body's reading t is chosen for each entry; it is run at the parameters' values -/
theorem fn_of {CX : CXT} {P : Program} {w : World} {K : PySem.W.Frag} {mg : Str → Option Value} {base : Heap} {k : Nat} {f : Addr} {name qual : Str} {params : Arguments} {body : List Stmt} {scope : Scope} {dV kV doc pm cdv ct oc : Value} {an od : Option Addr}
    {osl : Array (Option Value)} {N ps : List Str} {sp : Sp} (lk : K.lookup f = some ⟨oc, od, .func (PySem.W.fnOf name qual params body scope dV kV doc pm an cdv ct), osl⟩) (hcd : PySem.W.codeIn K cdv qual = true) (S : FnScope N ps scope)
    (len : ∀ vs H Q E, sp vs H Q E → vs.length = ps.length)
    (hbody : ∀ (A : Around) (outer : List Env) (s : Shared) (H : Hp) (vs : List V) (Q : VK) (E : XK), Room k (A.deeper (envOfC qual scope s.heap.objs.size f cdv)) → sp vs H Q E →
      ∃ t, PSs (cxOf CX P w K mg base N qual scope f cdv A outer s H E) body t ∧ t { nx := fun _ H' => Q .non H', rt := Q } (start N vs) H) :
    FnOk P w K mg base CX (k + 1) f (PySem.W.fnOf name qual params body scope dV kV doc pm an cdv ct) ps sp := by
  refine ⟨len, fun A outer s H args us vs Q E hr e0 hb r hsp => ?_⟩
  have hl := len _ _ _ _ hsp
  have KX : K.In s.heap := e0.mod.kin.keeps fun b o e => (e0.bs b o e).1
  have lim : s.heap.NoLimit := e0.mod.nolimit.keeps fun b o e => (e0.bs b o e).1
  have hkind : ∀ y ∈ ps.zip us, scope.names.lookup y.1 = some .local ∨ (scope.names.lookup y.1 = some .cell ∧ ((cellsFrom (s.heap.objs.size + 1) scope.names []).lookup y.1).isSome = true) := fun ⟨n, v⟩ hy => by
    rcases S.par n (List.of_mem_zip hy).1 with q | q
    · exact .inl q
    · exact .inr ⟨q, PySem.W.cellsFrom_some _ _ _ (.inl q)⟩
  refine codeAny_call_function hr.depth (KX _ _ lk) rfl S.co S.gen rfl (PySem.W.codeRec_of KX hcd) (hb _ _ _ _ ?_)
  refine wpAny_newFunctionEnv_cells S.kind hkind fun env he s1 x => ?_
  subst he
  refine ⟨lim.keeps x.toInCall.keep, codeAny_func ?_⟩
  obtain ⟨t, ht, hq⟩ := hbody A outer s H vs Q E (hr.deeper _) hsp
  have I : Inv (cxOf CX P w K mg base N qual scope f cdv A outer s H E) [] (start N vs) H s1 := inv_start S hr.hd e0 hl r x
  refine wpAny_mono (ht [] s1 (start N vs) H _ I hq) (fun fl s' hs => ?_) fun e s' hs => hs
  have fin : ∀ {σ' : St} {H' : Hp} {v : V} {u : Value}, Inv (cxOf CX P w K mg base N qual scope f cdv A outer s H E) [] σ' H' s' → RelV v u → Q v H' → CE outer P w H s Q u s' :=
    fun {σ' H' v u} J rv q => ⟨v, H', J.os, J.bare, J.base, J.hok, rv, q⟩
  cases fl with
  | ret u =>
    obtain ⟨v, σ', H', J, rv, q⟩ := hs
    exact fin J rv q
  | next =>
    obtain ⟨σ', H', J, q⟩ := hs
    exact fin (v := V.non) (u := Value.none) J rfl q
  | brk =>
    obtain ⟨_, _, _, q⟩ := hs
    exact False.elim q
  | cont =>
    obtain ⟨_, _, _, q⟩ := hs
    exact False.elim q
end L2

namespace L2
open PySem PySem.Spec PyProof.Rows
section
variable {X : Cx} {x : Str} {p pos : Pos} {e : Expr} {es : List Expr} {t : TA} {id T : String} {r : List V → Hp → VK → Prop}

def tCB (r : List V → Hp → VK → Prop) (t : TA) : TE := fun σ H Q => t σ H fun vs H1 => r vs H1 Q
/-- f(e, ..), f a built-in function -/
theorem pe_callB (hc : CallR X (.builtin id) r) (hg : Gl X x) (hm : X.mg x = none) (hv : bootBuiltins x = some (.builtin id)) (ha : PA X (e :: es) t) (hn : x ≠ "__name__" := by decide) (hdb : (x == ("__debug__" : Str)) = false := by decide)
    (he : starEach (e :: es) X.env = (false, eval e X.env) :: starEach es X.env := by rfl) (hpl : (backTo pos (starEach es X.env)).any (·.1) = false := by rfl) : PE X (.Call (.Name x p) (e :: es) [] pos) (tCB r t) := by
  intro pins s σ H Q I h
  refine wpAny_Call_Name_kw (ld_blt I hg hm hv ?_ hn hdb)
  exact PyProof.Rows.callWith_builtin1 (thn (ha pos pins s σ H _ I h) fun us s1 ⟨vs, H1, I1, r1, q1⟩ => hc pins s1 σ H1 vs us Q I1 r1 q1) he hpl
/-- T(e, ..), T a built-in type -/
theorem pe_callTy (hc : CallR X (.type T) r) (hg : Gl X x) (hm : X.mg x = none) (hv : bootBuiltins x = some (.type T)) (ha : PA X (e :: es) t) (hn : x ≠ "__name__" := by decide) (hdb : (x == ("__debug__" : Str)) = false := by decide)
    (he : starEach (e :: es) X.env = (false, eval e X.env) :: starEach es X.env := by rfl) (hpl : (backTo pos (starEach es X.env)).any (·.1) = false := by rfl) : PE X (.Call (.Name x p) (e :: es) [] pos) (tCB r t) := by
  intro pins s σ H Q I h
  refine wpAny_Call_Name_kw (ld_blt I hg hm hv ?_ hn hdb)
  exact PyProof.Rows.callWith_type1 (thn (ha pos pins s σ H _ I h) fun us s1 ⟨vs, H1, I1, r1, q1⟩ => hc pins s1 σ H1 vs us Q I1 r1 q1) he hpl
/-- T() -/
theorem pe_callTy0 (hc : CallR X (.type T) r) (hg : Gl X x) (hm : X.mg x = none) (hv : bootBuiltins x = some (.type T)) (hn : x ≠ "__name__" := by decide) (hdb : (x == ("__debug__" : Str)) = false := by decide) :
    PE X (.Call (.Name x p) [] [] pos) (tCB r tNil) := by
  intro pins s σ H Q I h
  refine wpAny_Call_Name_kw (ld_blt I hg hm hv ?_ hn hdb)
  exact PyProof.Rows.callWith_type0 (hc pins s σ H [] [] Q I .nil h)
end
end L2

namespace HT
open PySem PyProof.Rows

/-- t < u of tuples of ints -/
def lexLt : List Int → List Int → Bool
  | [], [] => false
  | [], _ :: _ => true
  | _ :: _, [] => false
  | x :: xs, y :: ys => if x = y then lexLt xs ys else decide (x < y)
theorem lexLt_cons (x y : Int) (xs ys : List Int) : lexLt (x :: xs) (y :: ys) = if x = y then lexLt xs ys else decide (x < y) := rfl
theorem lexLt_nil_nil : lexLt [] [] = false := rfl
theorem lexLt_nil_cons (y : Int) (ys : List Int) : lexLt [] (y :: ys) = true := rfl
theorem lexLt_cons_nil (x : Int) (xs : List Int) : lexLt (x :: xs) [] = false := rfl

theorem eqAt_int (A : Around) (s : Shared) (a : Int) (t : Tok) (c : Int) (u : Tok) : ∃ e, SeqAt.EqAt A s (.int a t) (.int c u) e ∧ (e = true ↔ a = c) :=
  ⟨(a == c), SeqAt.EqAt.int_int a t c u, by simp⟩
theorem rcLt_int (A : Around) (s : Shared) (a : Int) (t : Tok) (c : Int) (u : Tok) (prog : Program) (w : World) (E : Value → Shared → Prop) (Q : Value → Shared → Prop) (h : Q (.bool (decide (a < c))) s) :
    wpAny (model prog w) A (richCompare .Lt (.int a t) (.int c u)) Q E s :=
  (PyProof.Rows.lt_int h : wpAny (model prog w) A (compareOp .Lt (.int a t) (.int c u)) Q E s)

section
open PySem.SeqAt
open PySem.AutoSeq1 (wpAny_loadPart')
open PySem.MeetsSeq PySem.MeetsSeq2 PySem.MeetsSeq3

theorem tuple_lt_ints (l b : Addr) (items items2 : Array Value) (n n2 : Nat) (dd dd2 : Option Addr) (sl sl2 : Array (Option Value)) (ns ms : List Int) (hi : IntsAre items.toList ns) (hj : IntsAre items2.toList ms) :
    Meets (Builtin.«tuple.__lt__» ⟨[.ref l, .ref b], []⟩)
      (fun _ R s => s.heap.get? l = some { cls := .type "tuple", dict := dd, data := .seq items n, slots := sl } ∧ s.heap.get? b = some { cls := .type "tuple", dict := dd2, data := .seq items2 n2, slots := sl2 } ∧
        R (.ok (.ret (.bool (lexLt ns ms)))) s) :=
  .of_wp fun prog w A R s h => by
    obtain ⟨hp, g, d, tk, os⟩ := s; obtain ⟨hl, hb, h⟩ := h
    have f2 := AutoSeq1.sub_tuple_tuple
    have z1 : items.size = ns.length := by rw [← hi.length]; simp
    have z2 : items2.size = ms.length := by rw [← hj.length]; simp
    wp_walk using wpAny_loadPart' hl, wpAny_loadPart' hb, wpAny_forIn_list _ (fun rest b s' => b.1 = none ∧ s' = ⟨hp, g, d, tk, os⟩ ∧ ∃ (vs ws : List Value) (ns' ms' : List Int), rest = vs.zip ws ∧
      IntsAre vs ns' ∧ IntsAre ws ms' ∧ ns'.length + items2.size = ms'.length + items.size ∧ R (.ok (.ret (.bool (lexLt ns' ms')))) ⟨hp, g, d, tk, os⟩) _
    case turn =>
      rintro ⟨y, x⟩ rest b s' ⟨hb', rfl, vs, ws, ns', ms', hz, hvi, hwi, hlen, hR⟩
      cases hvi with
      | nil => rw [List.zip_nil_left] at hz; cases hz
      | cons a t hvi' =>
        cases hwi with
        | nil => rw [List.zip_nil_right] at hz; cases hz
        | cons c u hwi' =>
          rw [List.zip_cons_cons] at hz
          injection hz with hyx hrest
          injection hyx with hy hx
          subst hy hx
          rw [lexLt_cons] at hR
          simp only [List.length_cons] at hlen
          obtain ⟨e, he, hiff⟩ := eqAt_int A.in1 ⟨hp, g, d, tk, os⟩ a t c u
          refine wpAny_bind (he prog w _ _ ?_)
          cases e with
          | true =>
            rw [if_pos (hiff.mp rfl)] at hR
            wp_walk
            exact ⟨rfl, rfl, _, _, _, _, hrest, hvi', hwi', by omega, hR⟩
          | false =>
            rw [if_neg (fun q => absurd (hiff.mpr q) Bool.false_ne_true)] at hR
            have hri := rcLt_int A.in1 ⟨hp, g, d, tk, os⟩ a t c u prog w
            wp_walk using hri
            exact ⟨_, rfl, by simpa using hR⟩
    case fin =>
      rintro ⟨b1, b2⟩ s' ⟨hb', rfl, vs, ws, ns', ms', hz, hvi, hwi, hlen, hR⟩
      simp only at hb'
      subst hb'
      have hv : lexLt ns' ms' = decide (items.size < items2.size) := by
        cases hvi with
        | nil =>
          cases hwi with
          | nil =>
            simp only [List.length_nil] at hlen
            rw [lexLt_nil_nil]
            exact (decide_eq_false (by omega)).symm
          | cons c u hw =>
            simp only [List.length_nil, List.length_cons] at hlen
            rw [lexLt_nil_cons]
            exact (decide_eq_true (by omega)).symm
        | cons a t hv =>
          cases hwi with
          | nil =>
            simp only [List.length_nil, List.length_cons] at hlen
            rw [lexLt_cons_nil]
            exact (decide_eq_false (by omega)).symm
          | cons c u hw =>
            rw [List.zip_cons_cons] at hz
            cases hz
      rw [hv] at hR
      wp_walk
      exact ⟨_, rfl, by simpa [Builtin.Tuple.tupleCompareSizes] using hR⟩
    case h =>
      exact ⟨rfl, rfl, items.toList, items2.toList, ns, ms, rfl, hi, hj, by omega, h⟩
end

section
variable {prog : Program} {w : World} {A : Around} {E : Value → Shared → Prop} {s : Shared}

theorem lt_tupInts {l b : Addr} {items items2 : Array Value} {ns ms : List Int} {Q : Value → Shared → Prop} (hl : IsTup s.heap l items) (hb : IsTup s.heap b items2) (hi : IntsAre items.toList ns) (hj : IntsAre items2.toList ms)
    (hu : A.units < cLine) (h : Q (.bool (lexLt ns ms)) s) : wpAny (model prog w) A (compareOp .Lt (.ref l) (.ref b)) Q E s := by
  obtain ⟨⟨cls, dd, data, sl⟩, ho, hc, n, hd⟩ := id hl
  obtain ⟨⟨cls2, dd2, data2, sl2⟩, ho2, hc2, n2, hd2⟩ := id hb
  simp only at hc hd hc2 hd2
  subst hc hd hc2 hd2
  exact richCompare_meets_room (op := .Lt) ⟨_, ho, rfl⟩ ⟨_, ho2, rfl⟩ PySem.F.slot_tuple_lt PySem.F.entry_tuple_lt (PySem.F.args_tuple_lt_2 _ _) (tuple_lt_ints l b items items2 n n2 dd dd2 sl sl2 ns ms hi hj)
    ⟨ho, ho2, show Value.bool (lexLt ns ms) ≠ Value.notImplemented ∧ Q (.bool (lexLt ns ms)) s from ⟨(fun x => nomatch x), h⟩⟩ hu

/-- t + u, t not empty -/
theorem cat_tup {t b : Addr} {vs ws : List Value} {Q : Value → Shared → Prop} (ht : IsTup s.heap t vs.toArray) (hb : IsTup s.heap b ws.toArray) (hv : vs ≠ [])
    (h1 : ws = [] → Q (.ref t) s) (h2 : ws ≠ [] → Q (.ref s.heap.objs.size) { s with heap := s.heap.push { cls := .type "tuple", data := .seq (vs ++ ws).toArray } })
    (hsz : vs.length + ws.length ≤ sizeLine) : wpAny (model prog w) A (binaryOp .Add (.ref t) (.ref b)) Q E s := by
  obtain ⟨⟨cls, dd, data, sl⟩, ho, hc, n, hd⟩ := id ht
  obtain ⟨⟨cls2, dd2, data2, sl2⟩, ho2, hc2, n2, hd2⟩ := id hb
  simp only at hc hd hc2 hd2
  subst hc hd hc2 hd2
  have e : vs.toArray ++ ws.toArray = (vs ++ ws).toArray := by simp
  by_cases hw : ws = []
  · exact concat_meets ⟨_, ho, rfl⟩ ⟨_, ho2, rfl⟩ noFill_tuple_add seq_tuple_add PySem.F.slot_tuple_add PySem.F.entry_tuple_add (PySem.F.args_tuple_add_2 _ _)
      (tuple_addW1 t b vs.toArray ws.toArray n n2 dd dd2 sl sl2 (by simpa using hv) (by simp [hw])) ⟨ho, ho2, h1 hw⟩
  · refine concat_meets ⟨_, ho, rfl⟩ ⟨_, ho2, rfl⟩ noFill_tuple_add seq_tuple_add PySem.F.slot_tuple_add PySem.F.entry_tuple_add (PySem.F.args_tuple_add_2 _ _)
      (tuple_addW2 t b vs.toArray ws.toArray n n2 dd dd2 sl sl2 (by simpa using hv) (by simpa using hw) (by rw [List.size_toArray, List.size_toArray]; exact hsz)) ⟨ho, ho2, ?_⟩
    rw [e]
    exact h2 hw

/-! ### t[a:b], not the whole -/
/-- a slice's bound as a place among n (d where it is left out) -/
def sIx (n d : Nat) : Option Int → Nat
  | none => d
  | some v => if v < 0 then (v + (n : Int)).toNat else min v.toNat n
theorem sIx_none (n d : Nat) : sIx n d none = d := rfl
theorem sIx_nat (n d k : Nat) : sIx n d (some (k : Int)) = min k n := by
  show (if (k : Int) < 0 then ((k : Int) + (n : Int)).toNat else min (k : Int).toNat n) = min k n
  rw [if_neg (by omega), Int.toNat_natCast]
theorem sIx_le (n d : Nat) (hd : d ≤ n) (o : Option Int) : sIx n d o ≤ n := by
  cases o with
  | none => exact hd
  | some v =>
    show (if v < 0 then (v + (n : Int)).toNat else min v.toNat n) ≤ n
    by_cases hv : v < 0
    · rw [if_pos hv]; omega
    · rw [if_neg hv]; exact Nat.min_le_right _ _
theorem clip_eq (v : Int) (n d : Nat) : (if v < 0 then max (v + (n : Int)) 0 else min v (n : Int)) = ((sIx n d (some v) : Nat) : Int) := by
  show (if v < 0 then max (v + (n : Int)) 0 else min v (n : Int)) = (((if v < 0 then (v + (n : Int)).toNat else min v.toNat n) : Nat) : Int)
  by_cases hv : v < 0
  · simp only [if_pos hv]; omega
  · simp only [if_neg hv]; omega
theorem adjust_gen (lo hi : Option Int) (n : Nat) : Builtin.Slice.sliceAdjust lo hi 1 (n : Int) = (((sIx n 0 lo : Nat) : Int), ((sIx n n hi : Nat) : Int)) := by
  have h1 : ¬ ((1 : Int) < 0) := by omega
  unfold Builtin.Slice.sliceAdjust
  simp only [h1, if_false]
  refine Prod.ext ?_ ?_
  · cases lo with
    | none => rfl
    | some v => exact clip_eq v n 0
  · cases hi with
    | none => rfl
    | some v => exact clip_eq v n n
theorem places_gen (i j : Nat) : Builtin.Slice.slicePlaces (i : Int) (j : Int) 1 = j - i := by
  unfold Builtin.Slice.slicePlaces
  have h1 : (1 : Int) > 0 := by omega
  simp only [h1, if_true, Int.ediv_one]
  split <;> omega
theorem slicePart_ {v : Value} {o : Option Int} {Q : Option Int → Shared → Prop} (p : IsPart v o) (h : Q o s) : wpAny (model prog w) A (Builtin.Slice.slicePartIndex v) Q E s := by
  cases p with
  | none => exact slicePart_none h
  | int i t => exact slicePart_int h
theorem sliceApplied_gen {sl : Addr} {vl vu : Value} {lo hi : Option Int} {n : Nat} {Q : Int × Int × Nat → Shared → Prop} (hs : s.heap.IsSliceOf sl vl vu .none) (pl : IsPart vl lo) (pu : IsPart vu hi)
    (h : Q (((sIx n 0 lo : Nat) : Int), 1, sIx n n hi - sIx n 0 lo) s) : wpAny (model prog w) A (Builtin.Slice.sliceApplied (.ref sl) (pure (n : Int))) Q E s := by
  obtain ⟨os, hos, hcs, hds⟩ := id hs
  unfold Builtin.Slice.sliceApplied Builtin.Slice.sliceFields
  refine wpAny_bind (wpAny_bind (wpAny_field hos hds (x := vl) rfl (wpAny_bind (wpAny_field hos hds (x := vu) rfl (wpAny_bind (wpAny_field hos hds (x := .none) rfl (wpAny_pure ?_)))))))
  refine wpAny_bind (slicePart_none ?_)
  show wpAny _ _ (if ((1 : Int) == 0) = true then _ else _) _ _ s
  rw [if_neg (by decide)]
  refine wpAny_bind (slicePart_ pl (wpAny_bind (slicePart_ pu (wpAny_bind (wpAny_pure ?_)))))
  show wpAny _ _ (match Builtin.Slice.sliceAdjust lo hi 1 (n : Int) with | (lo, hi) => pure (lo, (1 : Int), Builtin.Slice.slicePlaces lo hi 1)) _ _ s
  rw [adjust_gen lo hi n]
  show wpAny _ _ (pure (((sIx n 0 lo : Nat) : Int), (1 : Int), Builtin.Slice.slicePlaces ((sIx n 0 lo : Nat) : Int) ((sIx n n hi : Nat) : Int) 1)) _ _ s
  rw [places_gen]
  exact wpAny_pure h
theorem pick_gen (xs : Array Value) (i k : Nat) : ((List.range k).filterMap fun (m : Nat) => xs[((i : Int) + (m : Int) * 1).toNat]?).toArray = ((xs.toList.drop i).take k).toArray := by
  have e : (fun (m : Nat) => xs[((i : Int) + (m : Int) * 1).toNat]?) = fun m => xs[i + m]? := by
    funext m
    have : ((i : Int) + (m : Int) * 1).toNat = i + m := by omega
    rw [this]
  rw [e]
  have := pick_run xs i k
  rw [List.filterMap_map] at this
  have e2 : ((fun x => xs[x]?) ∘ fun x => i + x) = fun m => xs[i + m]? := rfl
  rw [e2] at this
  rw [this]

theorem getItem_tuple_cut {t sl : Addr} {items : Array Value} {vl vu : Value} {lo hi : Option Int} {Q : Value → Shared → Prop} (ht : IsTup s.heap t items) (hs : s.heap.IsSliceOf sl vl vu .none) (pl : IsPart vl lo) (pu : IsPart vu hi)
    (hw : ¬ (sIx items.size 0 lo = 0 ∧ sIx items.size items.size hi = items.size))
    (h : Q (.ref s.heap.objs.size) { s with heap := s.heap.push { cls := .type "tuple", data := .seq ((items.toList.drop (sIx items.size 0 lo)).take (sIx items.size items.size hi - sIx items.size 0 lo)).toArray } })
    (hsz : items.size ≤ sizeLine) : wpAny (model prog w) A (getItem (.ref t) (.ref sl)) Q E s := by
  have htake : sizeOk (.seq ((items.toList.drop (sIx items.size 0 lo)).take (sIx items.size items.size hi - sIx items.size 0 lo)).toArray) := by
    show ((items.toList.drop (sIx items.size 0 lo)).take (sIx items.size items.size hi - sIx items.size 0 lo)).toArray.size ≤ sizeLine
    rw [List.size_toArray, List.length_take, List.length_drop, Array.length_toList]
    omega
  have hj : sIx items.size items.size hi ≤ items.size := sIx_le _ _ (Nat.le_refl _) hi
  obtain ⟨os, hos, hcs, hds⟩ := id hs
  have hTs : s.TypeIs (.ref sl) "slice" := ⟨os, hos, hcs⟩
  unfold getItem
  try with_reducible refine wpAny_holding ?_
  first | refine wpAny_bind (wpAny_pure ?_) | skip
  refine wpAny_bind (wpAny_sequenceKey ht.typeIs (by decide) ?_)
  refine wpAny_bind (wpAny_callSpecial?_slot (name := Str.ofString "__getitem__") ht.typeIs PyProof.Rows.slot_tuple_getitem
    (wpAny_call_entry PyProof.Rows.slot_tuple_getitem ht.typeIs entry_tuple_getitem ?_ (args_tuple_getitem _ _)))
  show wpAny _ _ (Builtin.Tuple.tupleItemsOf (.ref t) >>= _) _ _ s
  refine wpAny_bind (tupleItemsOf_ ht ?_)
  refine wpAny_bind (wpAny_typeOf hTs ?_)
  rw [if_pos (by decide)]
  refine wpAny_bind (sliceApplied_gen hs pl pu ?_)
  have hno : ¬ ((((sIx items.size 0 lo : Nat) : Int) == 0 && (1 : Int) == 1 && (sIx items.size items.size hi - sIx items.size 0 lo) == items.size) = true) := by
    intro q
    rw [Bool.and_eq_true, Bool.and_eq_true] at q
    have q1 : ((sIx items.size 0 lo : Nat) : Int) = 0 := eq_of_beq q.1.1
    have q2 : sIx items.size items.size hi - sIx items.size 0 lo = items.size := eq_of_beq q.2
    exact hw ⟨by omega, by omega⟩
  show wpAny _ _ (if (((sIx items.size 0 lo : Nat) : Int) == 0 && (1 : Int) == 1 && (sIx items.size items.size hi - sIx items.size 0 lo) == items.size) = true then _ else _) _ _ s
  rw [if_neg hno, pick_gen]
  first
    | exact wpAny_bind (m := Builtin.Tuple.tupleExact _) (wpAny_newObj_type (wpAny_pure ⟨_, rfl, wpAny_pure h⟩) htake)
    | exact wpAny_bind (m := Builtin.Tuple.tupleExact _) (wpAny_newObj_type (wpAny_bind (wpAny_pure (wpAny_pure ⟨_, rfl, wpAny_pure h⟩))) htake)
    | exact wpAny_bind (wpAny_bind (m := Builtin.Tuple.tupleExact _) (wpAny_newObj_type (wpAny_pure (wpAny_pure ⟨_, rfl, wpAny_pure h⟩)) htake))
    | exact wpAny_bind (wpAny_bind (m := Builtin.Tuple.tupleExact _) (wpAny_newObj_type (wpAny_pure ⟨_, rfl, wpAny_pure h⟩) htake))
end
end HT

namespace L2
open PySem PySem.Spec PyProof.Rows

/-! ### the parts of a slice -/
abbrev TO := St → Hp → (Option Int → Hp → Prop) → Prop
/-- a slice's part (left out, or an int) -/
def PO (X : Cx) (e : Option Expr) (t : TO) : Prop :=
  ∀ (pins : List (Addr × Obj)) (s : Shared) (σ : St) (H : Hp) (Q : Option Int → Hp → Prop), Inv X pins σ H s → t σ H Q →
    wpAny (model X.prog X.w) X.A (evalPart e X.env) (fun u s' => ∃ o H', Inv X pins σ H' s' ∧ IsPart u o ∧ Q o H') X.xe s
def tNoPart : TO := fun _ H Q => Q none H
def tPart (t : TE) : TO := fun σ H Q => t σ H fun x H1 => ∃ i, x = .int i ∧ Q (some i) H1

theorem intsAre_of {ns : List Int} : ∀ {us : List Value}, Vals (ns.map V.int) us → IntsAre us ns := by
  induction ns with
  | nil => intro us r; rw [List.map_nil] at r; cases r; exact .nil
  | cons n ns ih =>
    intro us r
    rw [List.map_cons] at r
    cases r with
    | cons r1 r2 =>
      obtain ⟨t, e⟩ := r1
      subst e
      exact .cons n t (ih r2)

section
variable {X : Cx} {e : Expr} {te : TE} {lo hi : Option Expr} {tl th : TO} {pos p2 : Pos}

theorem po_none : PO X none tNoPart := by
  intro pins s σ H Q I h
  rw [evalPart_none]
  exact wpAny_pure ⟨none, H, I, .none, h⟩
theorem po_some (h : PE X e te) : PO X (some e) (tPart te) := by
  intro pins s σ H Q I hw
  rw [evalPart_some]
  refine thn (h pins s σ H _ I hw) fun u s1 ⟨x, H1, I1, r1, q1⟩ => ?_
  obtain ⟨i, rfl, q⟩ := q1
  obtain ⟨t, rfl⟩ := r1
  exact ⟨some i, H1, I1, .int i t, q⟩

/-- what a slice of a value is, by values: the slice object stands at sl -/
def SlR (X : Cx) (r : V → Option Int → Option Int → Hp → VK → Prop) : Prop :=
  ∀ (pins : List (Addr × Obj)) (s : Shared) (σ : St) (H : Hp) (x : V) (v vl vu : Value) (lo hi : Option Int) (sl : Addr) (Q : VK), Inv X pins σ H s → RelV x v → s.heap.IsSliceOf sl vl vu .none → IsPart vl lo → IsPart vu hi → r x lo hi H Q →
    ∃ T id, typeLookup (.type T) "__getitem__" = pure (some (.builtin id)) ∧ s.TypeIs v T ∧ wpAny (model X.prog X.w) X.A (getItem v (.ref sl)) (EP X pins σ Q) X.xe s
theorem SlR.or {r r' : V → Option Int → Option Int → Hp → VK → Prop} (h : SlR X r) (h' : SlR X r') : SlR X (fun x lo hi H Q => r x lo hi H Q ∨ r' x lo hi H Q) := by
  intro pins s σ H x v vl vu lo hi sl Q I rx hs pl pu q
  rcases q with q | q
  · exact h pins s σ H x v vl vu lo hi sl Q I rx hs pl pu q
  · exact h' pins s σ H x v vl vu lo hi sl Q I rx hs pl pu q
def tSl (r : V → Option Int → Option Int → Hp → VK → Prop) (te : TE) (tl th : TO) : TE := fun σ H Q => te σ H fun x H1 => tl σ H1 fun l H2 => th σ H2 fun u H3 => r x l u H3 Q
/-- a[lo:hi], any a -/
theorem pe_slice {r : V → Option Int → Option Int → Hp → VK → Prop} (hr : SlR X r) (he : PE X e te) (hl : PO X lo tl) (hu : PO X hi th) : PE X (.Subscript e (.Slice lo hi none p2) pos) (tSl r te tl th) := by
  intro pins s σ H Q I h
  refine Subscript_ (thn (he pins s σ H _ I h) fun v s1 ⟨x, H1, I1, r1, q1⟩ => ?_)
  refine wpAny_Slice (thn (hl pins s1 σ H1 _ I1 q1) fun vl s2 ⟨l, H2, I2, pl, q2⟩ => thn (hu pins s2 σ H2 _ I2 q2) fun vu s3 ⟨u, H3, I3, pu, q3⟩ => ?_)
  rw [evalPart_none]
  refine wpAny_pure ?_
  have I4 : Inv X pins σ H3 { s3 with heap := s3.heap.push { cls := .type "slice", data := .fields #[vl, vu, .none] } } := I3.kept (t' := s3.toks) fun b ob q => Heap.get?_push_of_some _ q
  obtain ⟨T, id, hT, ht, hg⟩ := hr pins { s3 with heap := s3.heap.push { cls := .type "slice", data := .fields #[vl, vu, .none] } } σ H3 x v vl vu l u s3.heap.objs.size Q I4 r1 (Heap.IsSliceOf.new ..) pl pu q3
  show wpAny (model X.prog X.w) X.A (subscriptTail e (.Slice lo hi none p2) v (.ref s3.heap.objs.size)) (EP X pins σ Q) X.xe { s3 with heap := s3.heap.push { cls := .type "slice", data := .fields #[vl, vu, .none] } }
  exact tail_any (ops := [.ref s3.heap.objs.size, v]) ht hT hg (by with_unfolding_all rfl)

/-- the items of xs[lo:hi] -/
def cutV (xs : List V) (lo hi : Option Int) : List V := (xs.drop (HT.sIx xs.length 0 lo)).take (HT.sIx xs.length xs.length hi - HT.sIx xs.length 0 lo)
theorem cutV_length (xs : List V) (lo hi : Option Int) : (cutV xs lo hi).length ≤ xs.length := by
  unfold cutV
  rw [List.length_take, List.length_drop]
  omega
/-- t[lo:hi], not the whole of it (the whole would be t itself) -/
def rSlT (K : PySem.W.Frag) : V → Option Int → Option Int → Hp → VK → Prop := fun x lo hi H Q => ∃ a xs, x = .ref a ∧ SqT K H a xs ∧
  ¬ (HT.sIx xs.length 0 lo = 0 ∧ HT.sIx xs.length xs.length hi = xs.length) ∧ ∀ p, H p = none → Q (.ref p) (upd H p (.tup (cutV xs lo hi)))
theorem sl_tup : SlR X (rSlT X.K) := by
  intro pins s σ H x v vl vu lo hi sl Q I rx hs pl pu h
  obtain ⟨a, xs, rfl, hx, hw, q⟩ := h
  cases rx
  obtain ⟨its, r, ht, hz⟩ := I.tuple hx
  have hlen : its.toArray.size = xs.length := by rw [List.size_toArray]; exact r.length.symm
  refine ⟨"tuple", _, PyProof.Rows.slot_tuple_getitem.lookup, ht.typeIs, ?_⟩
  refine HT.getItem_tuple_cut ht hs pl pu (by rw [hlen]; exact hw) ?_ (by rw [hlen]; exact hz)
  rw [hlen]
  refine ⟨.ref s.heap.objs.size, _, I.laid (t' := s.toks) (o := .tup (cutV xs lo hi)) (fun b ob q => Heap.get?_push_of_some _ q) (Nat.le_refl _) ?_, rfl, q _ (I.hok.fresh (Nat.le_refl _))⟩
  exact ⟨Nat.le_trans (cutV_length xs lo hi) hz, _, (r.drop (HT.sIx xs.length 0 lo)).take (HT.sIx xs.length xs.length hi - HT.sIx xs.length 0 lo), IsTup.new _ _⟩

/-! ### t < u, t + u -/
def rLtT (K : PySem.W.Frag) : R2 := fun x y H Q => ∃ a b ns ms, x = .ref a ∧ y = .ref b ∧ SqT K H a (ns.map V.int) ∧ SqT K H b (ms.map V.int) ∧ Q (.bl (HT.lexLt ns ms)) H
theorem op_ltT (hu : X.A.units < cLine) : OpR X (compareOp .Lt) (rLtT X.K) := by
  intro pins s σ H x y v u Q I rx ry h
  obtain ⟨a, b, ns, ms, rfl, rfl, ha, hb, q⟩ := h
  cases rx
  cases ry
  obtain ⟨its, r1, p1, _⟩ := I.tuple ha
  obtain ⟨its2, r2, p2, _⟩ := I.tuple hb
  have i1 : IntsAre its.toArray.toList ns := intsAre_of r1
  have i2 : IntsAre its2.toArray.toList ms := intsAre_of r2
  exact HT.lt_tupInts p1 p2 i1 i2 hu ⟨.bl (HT.lexLt ns ms), H, I, rfl, q⟩
/-- t + u, t not empty: u empty gives t itself -/
def rCatT (K : PySem.W.Frag) : R2 := fun x y H Q => ∃ a b xs ys, x = .ref a ∧ y = .ref b ∧ SqT K H a xs ∧ SqT K H b ys ∧ xs ≠ [] ∧ xs.length + ys.length ≤ sizeLine ∧
  (ys = [] → Q (.ref a) H) ∧ (ys ≠ [] → ∀ p, H p = none → Q (.ref p) (upd H p (.tup (xs ++ ys))))
theorem Vals.nil_iff {xs : List V} {us : List Value} (r : Vals xs us) : us = [] ↔ xs = [] := by
  cases r with
  | nil => simp
  | cons _ _ => simp
theorem op_catT : OpR X (binaryOp .Add) (rCatT X.K) := by
  intro pins s σ H x y v u Q I rx ry h
  obtain ⟨a, b, xs, ys, rfl, rfl, ha, hb, hx, hz, q1, q2⟩ := h
  cases rx
  cases ry
  obtain ⟨its, r1, p1, _⟩ := I.tuple ha
  obtain ⟨its2, r2, p2, _⟩ := I.tuple hb
  refine HT.cat_tup p1 p2 (fun z => hx (r1.nil_iff.mp z)) (fun z => ⟨.ref a, H, I, rfl, q1 (r2.nil_iff.mp z)⟩) (fun z => ?_) (by rw [← r1.length, ← r2.length]; exact hz)
  refine ⟨.ref s.heap.objs.size, _, I.laid (t' := s.toks) (o := .tup (xs ++ ys)) (fun b ob q => Heap.get?_push_of_some _ q) (Nat.le_refl _) ?_, rfl, q2 (fun w => z (r2.nil_iff.mpr w)) _ (I.hok.fresh (Nat.le_refl _))⟩
  exact ⟨by rw [List.length_append]; exact hz, _, r1.append r2, IsTup.new _ _⟩
/-- tuple(t) -/
theorem call_tupleT : CallR X (.type "tuple") (fun xs H Q => ∃ a ys, xs = [.ref a] ∧ SqT X.K H a ys ∧ Q (.ref a) H) := by
  intro pins s σ H xs us Q I r h
  obtain ⟨a, ys, rfl, ha, q⟩ := h
  obtain ⟨u, rfl, ru⟩ := vals1 r
  cases ru
  obtain ⟨its, _, p1, _⟩ := I.tuple ha
  exact call_tuple_same (items := its.toArray) p1 ⟨.ref a, H, I, rfl, q⟩
end
end L2

namespace L2
open PySem PySem.Spec PyProof.Rows

/-! ### places -/
/-- the place that an index of any sign means -/
def ixN (n : Nat) (i : Int) : Option Nat := if 0 ≤ i then (if i < n then some i.toNat else none) else if -(n : Int) ≤ i then some (i + n).toNat else none
def atI {α : Type} (xs : List α) (i : Int) : Option α := (ixN xs.length i).bind fun j => xs[j]?
theorem ixN_seq {n : Nat} {i : Int} {j : Nat} (h : ixN n i = some j) : seqIndex? i n = some j ∧ j < n ∧ -(n : Int) ≤ i ∧ i < n := by
  unfold ixN at h
  by_cases h0 : 0 ≤ i
  · rw [if_pos h0] at h
    by_cases h1 : i < n
    · rw [if_pos h1] at h
      have e : i.toNat = j := Option.some.inj h
      exact ⟨by rw [seqIndex_of h0 h1, e], by omega, by omega, h1⟩
    · rw [if_neg h1] at h; cases h
  · rw [if_neg h0] at h
    by_cases h1 : -(n : Int) ≤ i
    · rw [if_pos h1] at h
      have e : (i + n).toNat = j := Option.some.inj h
      exact ⟨by rw [seqIndex_neg (by omega) h1, e], by omega, h1, by omega⟩
    · rw [if_neg h1] at h; cases h
theorem atI_get {α : Type} {xs : List α} {i : Int} {v : α} (h : atI xs i = some v) : ∃ j, seqIndex? i xs.length = some j ∧ xs[j]? = some v ∧ j < xs.length ∧ -(xs.length : Int) ≤ i ∧ i < xs.length := by
  unfold atI at h
  cases e : ixN xs.length i with
  | none => rw [e] at h; cases h
  | some j =>
    rw [e] at h
    obtain ⟨h1, h2, h3, h4⟩ := ixN_seq e
    exact ⟨j, h1, h, h2, h3, h4⟩
theorem atI_nat {α : Type} {xs : List α} {j : Nat} {v : α} (h : xs[j]? = some v) : atI xs (j : Int) = some v := by
  have hj : j < xs.length := (List.getElem?_eq_some_iff.mp h).1
  have e : ixN xs.length (j : Int) = some j := by
    unfold ixN
    rw [if_pos (by omega), if_pos (by omega)]; simp
  unfold atI; rw [e]; exact h
theorem atI_last {α : Type} (xs : List α) (v : α) : atI (xs ++ [v]) (-1) = some v := by
  have hl : (xs ++ [v]).length = xs.length + 1 := by simp
  have e : ixN (xs ++ [v]).length (-1) = some xs.length := by
    unfold ixN
    rw [hl, if_neg (by decide), if_pos (by omega)]
    congr 1
    omega
  unfold atI
  rw [e]
  show (xs ++ [v])[xs.length]? = some v
  simp

/-! ### what may be subscripted -/
/-- what stands as an index of a plain subscript -/
def PlainIx (b : Expr) : Prop := ∀ o i, subscripted b false o i = operate [o, i] (getItem o i)
/-- a subscript by values -/
def IxR (X : Cx) (r : R2) : Prop :=
  ∀ (value slice : Expr) (pins : List (Addr × Obj)) (s : Shared) (σ : St) (H : Hp) (x y : V) (v u : Value) (Q : VK), Inv X pins σ H s → RelV x v → RelV y u → r x y H Q →
    subscripted slice false v u = operate [v, u] (getItem v u) → wpAny (model X.prog X.w) X.A (subscriptTail value slice v u) (EP X pins σ Q) X.xe s
/-- a call of a builtin's method by values: the receiver, the arguments -/
def MtR (X : Cx) (id : String) (r : V → List V → Hp → VK → Prop) : Prop :=
  ∀ (pins : List (Addr × Obj)) (s : Shared) (σ : St) (H : Hp) (x : V) (xs : List V) (v : Value) (us : List Value) (Q : VK), Inv X pins σ H s → RelV x v → Vals xs us → r x xs H Q →
    wpAny (model X.prog X.w) X.A (call (.builtin id) (v :: us)) (EP X pins σ Q) X.xe s
section
variable {X : Cx} {a b : Expr} {ta tb : TE} {pos : Pos}
theorem IxR.or {r r' : R2} (h : IxR X r) (h' : IxR X r') : IxR X (fun x y H Q => r x y H Q ∨ r' x y H Q) := by
  intro value slice pins s σ H x y v u Q I rx ry q hs
  rcases q with q | q
  · exact h value slice pins s σ H x y v u Q I rx ry q hs
  · exact h' value slice pins s σ H x y v u Q I rx ry q hs
theorem MtR.or {id : String} {r r' : V → List V → Hp → VK → Prop} (h : MtR X id r) (h' : MtR X id r') : MtR X id (fun x xs H Q => r x xs H Q ∨ r' x xs H Q) := by
  intro pins s σ H x xs v us Q I rx rs q
  rcases q with q | q
  · exact h pins s σ H x xs v us Q I rx rs q
  · exact h' pins s σ H x xs v us Q I rx rs q
/-- a[b] -/
theorem pe_ix {r : R2} (hr : IxR X r) (ha : PE X a ta) (hb : PE X b tb) (hs : PlainIx b) : PE X (.Subscript a b pos) (tOp r ta tb) := by
  intro pins s σ H Q I h
  exact Subscript_ (binT ha hb I h fun v u s2 x y H2 I2 rx ry q => hr a b pins s2 σ H2 x y v u Q I2 rx ry q (hs _ _))

def rIxL (K : PySem.W.Frag) : R2 := fun x y H Q => ∃ p xs i v, x = .ref p ∧ y = .int i ∧ SqL K H p xs ∧ atI xs i = some v ∧ Q v H
def rIxT (K : PySem.W.Frag) : R2 := fun x y H Q => ∃ p xs i v, x = .ref p ∧ y = .int i ∧ SqT K H p xs ∧ atI xs i = some v ∧ Q v H
def rIxS : R2 := fun x y H Q => ∃ z i c, x = .str z ∧ y = .int i ∧ z.length ≤ sizeLine ∧ atI z.cps.toList i = some c ∧ Q (.str ⟨#[c]⟩) H
theorem ix_list : IxR X (rIxL X.K) := by
  intro value slice pins s σ H x y v u Q I rx ry h hs
  obtain ⟨p, xs, i, z, rfl, rfl, hq, he, q⟩ := h
  cases rx
  obtain ⟨t, rfl⟩ := ry
  obtain ⟨its, r, pl, hz⟩ := I.list hq
  obtain ⟨j, h1, h2, h3, h4, h5⟩ := atI_get he
  obtain ⟨w, ew, rw'⟩ := r.get h2
  have hl := r.length
  have hn := line63
  have fin : EP X pins σ Q w s := ⟨z, H, I, rw', q⟩
  by_cases h0 : 0 ≤ i
  · have hj : i.toNat = j := by
      rw [seqIndex_of h0 h5] at h1
      exact Option.some.inj h1
    exact item_listR pl.isList h0 (by omega) (by rw [hj]; simpa using ew) fin hs
  · have hj : (i + (its.toArray.size : Int)).toNat = j := by
      rw [seqIndex_neg (by omega) h4] at h1
      rw [List.size_toArray, ← hl]
      exact Option.some.inj h1
    exact subscriptTail_builtinR (x := w) pl.isList.typeIs slot_list_getitem.lookup
      (wpAny_getItem_list_neg (Q := fun r s' => r = w ∧ EP X pins σ Q r s') pl.isList (by omega) (by rw [List.size_toArray] <;> omega) (by omega) (by rw [hj]; simpa using ew) ⟨rfl, fin⟩) hs
theorem ix_tup : IxR X (rIxT X.K) := by
  intro value slice pins s σ H x y v u Q I rx ry h hs
  obtain ⟨p, xs, i, z, rfl, rfl, hq, he, q⟩ := h
  cases rx
  obtain ⟨t, rfl⟩ := ry
  obtain ⟨its, r, pl, hz⟩ := I.tuple hq
  obtain ⟨j, h1, h2, h3, h4, h5⟩ := atI_get he
  obtain ⟨w, ew, rw'⟩ := r.get h2
  have hl := r.length
  have hn := line63
  have fin : EP X pins σ Q w s := ⟨z, H, I, rw', q⟩
  exact subscriptTail_builtinR (x := w) pl.typeIs slot_tuple_getitem.lookup
    (getItem_tuple (j := j) (Q := fun r s' => r = w ∧ EP X pins σ Q r s') pl (by omega) (by omega) (by rw [List.size_toArray, ← hl]; exact h1) (by simpa using ew) ⟨rfl, fin⟩) hs
theorem ix_str : IxR X rIxS := by
  intro value slice pins s σ H x y v u Q I rx ry h hs
  obtain ⟨z, i, c, rfl, rfl, hz, he, q⟩ := h
  obtain ⟨t, rfl⟩ := rx
  obtain ⟨t', rfl⟩ := ry
  obtain ⟨j, h1, h2, h3, h4, h5⟩ := atI_get he
  have hl : z.cps.toList.length = z.length := by simp [Str.length]
  rw [hl] at h1 h4 h5
  have hn := line63
  exact tail_any (typeIs_str s z t) slot_str_getitem.lookup (getItem_str (c := c) (by
    have e1 : decide (i < -(2 ^ 63 : Int)) = false := decide_eq_false (by omega)
    have e2 : decide (i ≥ 2 ^ 63) = false := decide_eq_false (by omega)
    rw [e1, e2, Bool.or_false]) (by rw [h1]; simpa using h2) ⟨.str ⟨#[c]⟩, H, I.tok _, ⟨_, rfl⟩, q⟩) hs
/-- list, tuple or str -/
def rIx (K : PySem.W.Frag) : R2 := fun x y H Q => rIxL K x y H Q ∨ rIxT K x y H Q ∨ rIxS x y H Q
theorem ix_seq : IxR X (rIx X.K) := ix_list.or (ix_tup.or ix_str)

/-! ### xs[i] = v, any sign -/
/-- the list's object behind a store -/
theorem mapSeq_set (its : List Value) (n j : Nat) (u : Value) : Obj.mapSeq (·.setIfInBounds j u) { cls := .type "list", data := .seq its.toArray n } = { cls := .type "list", data := .seq (its.set j u).toArray n } := by
  simp [Obj.mapSeq]
theorem Inv.lst {pins : List (Addr × Obj)} {σ : St} {H : Hp} {s : Shared} {p : Addr} {xs : List V} (I : Inv X pins σ H s) (h : H p = some (.lst xs)) :
    ∃ (its : List Value) (n : Nat), Vals xs its ∧ s.heap.get? p = some { cls := .type "list", data := .seq its.toArray n } ∧ xs.length ≤ sizeLine := by
  obtain ⟨z, its, n, r, e⟩ := I.hok p _ h
  exact ⟨its, n, r, e, z⟩
/-- the list at p is written by an update of its object -/
theorem Inv.lstUpd {pins : List (Addr × Obj)} {σ : St} {H : Hp} {s : Shared} {p : Addr} {xs ys : List V} {its its' : List Value} {n n' : Nat} {f : Obj → Obj} (I : Inv X pins σ H s) (h : H p = some (.lst xs))
    (ho : s.heap.get? p = some { cls := .type "list", data := .seq its.toArray n }) (hf : f { cls := .type "list", data := .seq its.toArray n } = { cls := .type "list", data := .seq its'.toArray n' }) (r : Vals ys its') (hz : ys.length ≤ sizeLine) (t : Nat) :
    Inv X pins σ (upd H p (.lst ys)) { s with heap := s.heap.update p f, toks := t } := by
  have e : (s.heap.update p f).get? p = some { cls := .type "list", data := .seq its'.toArray n' } := by
    rw [Heap.get?_update_self f ho (by rw [hf] <;> rfl), hf]
  refine I.write (x := p) (e := p) (by rw [h]; trivial) (.inl rfl) (fun b u hb q => (Heap.get?_update_other _ _ (Ne.symm hb)).trans q) ⟨_, e⟩ ?_
  exact ⟨hz, its', n', r, e⟩
def rSetL : V → V → V → Hp → (Hp → Prop) → Prop := fun o i v H Q => ∃ p xs k j, o = .ref p ∧ i = .int k ∧ H p = some (.lst xs) ∧ ixN xs.length k = some j ∧ Q (upd H p (.lst (xs.set j v)))
theorem set_list : PSet X rSetL := by
  intro pins s σ H o i v ov iv u Q I ro ri rv h
  obtain ⟨p, xs, k, j, rfl, rfl, hp, hj, q⟩ := h
  cases ro
  obtain ⟨t, rfl⟩ := ri
  obtain ⟨its, n, r, ho, hz⟩ := I.lst hp
  obtain ⟨h1, h2, h3, h4⟩ := ixN_seq hj
  have hl := r.length
  have hn := line63
  have I' : Inv X pins σ (upd H p (.lst (xs.set j v))) { s with heap := s.heap.update p (Obj.mapSeq (·.setIfInBounds j u)) } :=
    I.lstUpd hp ho (mapSeq_set its n j u) (r.set rv j) (by rw [List.length_set]; exact hz) s.toks
  by_cases h0 : 0 ≤ k
  · have hk : k.toNat = j := by
      rw [seqIndex_of h0 h4] at h1
      exact Option.some.inj h1
    exact PySem.W.ki_setAt ho h0 (by omega) (by rw [List.size_toArray, ← hl]; exact h4) (by rw [hk]; exact ⟨_, I', q⟩)
  · have hk : (k + (its.toArray.size : Int)).toNat = j := by
      rw [seqIndex_neg (by omega) h3] at h1
      rw [List.size_toArray, ← hl]
      exact Option.some.inj h1
    exact PySem.W.ki_setBack ho (by omega) (by rw [List.size_toArray, ← hl]; exact h3) (by omega) (by rw [hk]; exact ⟨_, I', q⟩)

/-! ### slices -/
theorem slice_bounds (lo hi : Option Int) (n : Nat) : (sliceBounds lo hi none n).1 = ((HT.sIx n 0 lo : Nat) : Int) ∧ (sliceBounds lo hi none n).2.1 = ((HT.sIx n n hi : Nat) : Int) ∧ (sliceBounds lo hi none n).2.2 = 1 := by
  refine ⟨?_, ?_, rfl⟩
  · cases lo with
    | none => simp [sliceBounds, HT.sIx]
    | some i =>
      simp only [sliceBounds, HT.sIx, Option.getD_none, show (1 : Int) > 0 by decide, if_true]
      by_cases h : i < 0
      · simp only [h, if_true] <;> omega
      · simp only [h, if_false] <;> omega
  · cases hi with
    | none => simp [sliceBounds, HT.sIx]
    | some i =>
      simp only [sliceBounds, HT.sIx, Option.getD_none, show (1 : Int) > 0 by decide, if_true]
      by_cases h : i < 0
      · simp only [h, if_true] <;> omega
      · simp only [h, if_false] <;> omega
theorem slicePick_cut (its : List Value) (lo hi : Option Int) : slicePick its.toArray lo hi none = ((its.drop (HT.sIx its.length 0 lo)).take (HT.sIx its.length its.length hi - HT.sIx its.length 0 lo)).toArray := by
  obtain ⟨h1, h2, h3⟩ := slice_bounds lo hi its.toArray.size
  unfold slicePick
  rw [h1, h2, h3]
  simp only [sliceRange_one, pick_run, List.size_toArray] <;> rfl
/-- xs[lo:hi] of a list: a new list -/
def rSlL (K : PySem.W.Frag) : V → Option Int → Option Int → Hp → VK → Prop := fun x lo hi H Q => ∃ a xs, x = .ref a ∧ SqL K H a xs ∧ ∀ p, H p = none → Q (.ref p) (upd H p (.lst (cutV xs lo hi)))
theorem sl_list : SlR X (rSlL X.K) := by
  intro pins s σ H x v vl vu lo hi sl Q I rx hs pl pu h
  obtain ⟨a, xs, rfl, hx, q⟩ := h
  cases rx
  obtain ⟨its, r, ht, hz⟩ := I.list hx
  have hlen := r.length
  refine ⟨"list", _, slot_list_getitem.lookup, ht.isList.typeIs, ?_⟩
  refine wpAny_getItem_list_slice ht.isList hs pl pu .none (by simp) ?_ (by rw [List.size_toArray] <;> omega)
  rw [slicePick_cut, ← hlen]
  refine ⟨.ref s.heap.objs.size, _, I.laid (t' := s.toks) (o := .lst (cutV xs lo hi)) (fun b ob q => Heap.get?_push_of_some _ q) (Nat.le_refl _) ?_, rfl, q _ (I.hok.fresh (Nat.le_refl _))⟩
  exact ⟨Nat.le_trans (cutV_length xs lo hi) hz, _, 0, (r.drop (HT.sIx xs.length 0 lo)).take (HT.sIx xs.length xs.length hi - HT.sIx xs.length 0 lo), Heap.get?_push_size _ rfl⟩

/-! ### in, not in: flat items -/
def flatV : V → Bool
  | .non => true
  | .bl _ => true
  | .int _ => true
  | .str _ => true
  | _ => false
/-- == of flat values -/
def eqV : V → V → Bool
  | .non, .non => true
  | .bl a, .bl b => a == b
  | .bl a, .int b => (if a then 1 else 0) == b
  | .int a, .bl b => a == (if b then 1 else 0)
  | .int a, .int b => a == b
  | .str a, .str b => a == b
  | _, _ => false
theorem eqAt_V {A : Around} {s : Shared} {y x : V} {u v : Value} (ry : RelV y u) (rx : RelV x v) (fy : flatV y = true) (fx : flatV x = true) : SeqAt.EqAt A s u v (eqV y x) := by
  cases y with
  | non =>
    cases ry
    cases x with
    | non => cases rx; exact SeqAt.EqAt.same _
    | bl b => cases rx; exact SeqAt.EqAt.none_bool b
    | int b => obtain ⟨t, rfl⟩ := rx; exact SeqAt.EqAt.none_int b t
    | str b => obtain ⟨t, rfl⟩ := rx; exact SeqAt.EqAt.none_str b t
    | _ => exact absurd (show false = true from fx) Bool.false_ne_true
  | bl a =>
    cases ry
    cases x with
    | non => cases rx; exact SeqAt.EqAt.bool_none a
    | bl b => cases rx; exact SeqAt.EqAt.bool_bool a b
    | int b => obtain ⟨t, rfl⟩ := rx; exact SeqAt.EqAt.bool_int a b t
    | str b => obtain ⟨t, rfl⟩ := rx; exact SeqAt.EqAt.bool_str a b t
    | _ => exact absurd (show false = true from fx) Bool.false_ne_true
  | int a =>
    obtain ⟨t', rfl⟩ := ry
    cases x with
    | non => cases rx; exact SeqAt.EqAt.int_none a t'
    | bl b => cases rx; exact SeqAt.EqAt.int_bool a t' b
    | int b => obtain ⟨t, rfl⟩ := rx; exact SeqAt.EqAt.int_int a t' b t
    | str b => obtain ⟨t, rfl⟩ := rx; exact SeqAt.EqAt.int_str a t' b t
    | _ => exact absurd (show false = true from fx) Bool.false_ne_true
  | str a =>
    obtain ⟨t', rfl⟩ := ry
    cases x with
    | non => cases rx; exact SeqAt.EqAt.str_none a t'
    | bl b => cases rx; exact SeqAt.EqAt.str_bool a t' b
    | int b => obtain ⟨t, rfl⟩ := rx; exact SeqAt.EqAt.str_int a t' b t
    | str b => obtain ⟨t, rfl⟩ := rx; exact SeqAt.EqAt.str_str a t' b t
    | _ => exact absurd (show false = true from fx) Bool.false_ne_true
  | _ => exact absurd (show false = true from fy) Bool.false_ne_true
/-- the items' answers, read off the values (a value's own answer does not lean on its token) -/
def eqU (x : V) (u : Value) : Bool := match u with
  | .none => eqV .non x
  | .bool b => eqV (.bl b) x
  | .int i _ => eqV (.int i) x
  | .str z _ => eqV (.str z) x
  | _ => false
theorem eqU_of {x y : V} {u : Value} (r : RelV y u) (f : flatV y = true) : eqU x u = eqV y x := by
  cases y with
  | non => cases r; rfl
  | bl b => cases r; rfl
  | int i => obtain ⟨t, rfl⟩ := r; rfl
  | str z => obtain ⟨t, rfl⟩ := r; rfl
  | _ => exact absurd (show false = true from f) Bool.false_ne_true
theorem any_eqU {x : V} : ∀ {xs : List V} {us : List Value}, Vals xs us → xs.all flatV = true → us.any (eqU x) = xs.any fun y => eqV y x
  | _, _, .nil, _ => rfl
  | y :: xs, u :: us, .cons r t, f => by
    rw [List.all_cons, Bool.and_eq_true] at f
    rw [List.any_cons, List.any_cons, eqU_of r f.1, any_eqU t f.2]
theorem mem_eqAt {A : Around} {s : Shared} {x : V} {v : Value} (rx : RelV x v) (fx : flatV x = true) : ∀ {xs : List V} {us : List Value}, Vals xs us → xs.all flatV = true → ∀ u ∈ us, SeqAt.EqAt A s u v (eqU x u)
  | _, _, .nil, _ => fun u hu => by cases hu
  | y :: xs, u :: us, .cons r t, f => fun u' hu => by
    rw [List.all_cons, Bool.and_eq_true] at f
    rcases List.mem_cons.mp hu with rfl | hu
    · rw [eqU_of r f.1]; exact eqAt_V r rx f.1 fx
    · exact mem_eqAt rx fx t f.2 u' hu
def inV (x : V) (xs : List V) : Bool := xs.any fun y => eqV y x
/-- x in a list or tuple of flat items -/
def rIn (K : PySem.W.Frag) (neg : Bool) : R2 := fun x y H Q => ∃ p xs, y = .ref p ∧ (SqL K H p xs ∨ SqT K H p xs) ∧ flatV x = true ∧ xs.all flatV = true ∧ Q (.bl (if neg then !inV x xs else inV x xs)) H
theorem op_in_seq : OpR X (compareOp .In) (rIn X.K false) := by
  intro pins s σ H x y v u Q I rx ry h
  obtain ⟨p, xs, rfl, hq, fx, fs, q⟩ := h
  cases ry
  rcases hq with hq | hq
  · obtain ⟨its, r, pl, hz⟩ := I.list hq
    refine SeqAt.in_listAt (eqU x) pl.isList (fun w hw => mem_eqAt rx fx r fs w (by simpa using hw)) ⟨.bl _, H, I, rfl, ?_⟩
    rw [show its.toArray.any (eqU x) = its.any (eqU x) by simp, any_eqU r fs]
    exact q
  · obtain ⟨its, r, pl, hz⟩ := I.tuple hq
    refine SeqAt.in_tupleAt (eqU x) pl (fun w hw => mem_eqAt rx fx r fs w (by simpa using hw)) ⟨.bl _, H, I, rfl, ?_⟩
    rw [show its.toArray.any (eqU x) = its.any (eqU x) by simp, any_eqU r fs]
    exact q
theorem op_notIn_seq : OpR X (compareOp .NotIn) (rIn X.K true) := by
  intro pins s σ H x y v u Q I rx ry h
  obtain ⟨p, xs, rfl, hq, fx, fs, q⟩ := h
  cases ry
  rcases hq with hq | hq
  · obtain ⟨its, r, pl, hz⟩ := I.list hq
    refine SeqAt.notIn_listAt (eqU x) pl.isList (fun w hw => mem_eqAt rx fx r fs w (by simpa using hw)) ⟨.bl _, H, I, rfl, ?_⟩
    rw [show its.toArray.any (eqU x) = its.any (eqU x) by simp, any_eqU r fs]
    exact q
  · obtain ⟨its, r, pl, hz⟩ := I.tuple hq
    refine SeqAt.notIn_tupleAt (eqU x) pl (fun w hw => mem_eqAt rx fx r fs w (by simpa using hw)) ⟨.bl _, H, I, rfl, ?_⟩
    rw [show its.toArray.any (eqU x) = its.any (eqU x) by simp, any_eqU r fs]
    exact q
theorem op_notIn_str : OpR X (compareOp .NotIn) (fun x y H Q => ∃ i j, x = .str i ∧ y = .str j ∧ Q (.bl (!(!(Builtin.Str.occurrences j i 0 j.length 1).isEmpty))) H) := by
  intro pins s σ H x y v u Q I rx ry h
  obtain ⟨i, j, rfl, rfl, q⟩ := h
  obtain ⟨t, rfl⟩ := rx
  obtain ⟨t', rfl⟩ := ry
  exact notIn_str ⟨.bl _, H, I, rfl, q⟩

/-! ### len, list(x), tuple(x) of any list or tuple that is read -/
theorem call_len_seq : CallR X (.builtin "len") (fun xs H Q => ∃ p ys, xs = [.ref p] ∧ (SqL X.K H p ys ∨ SqT X.K H p ys) ∧ Q (.int ys.length) H) := by
  intro pins s σ H xs us Q I r h
  obtain ⟨p, ys, rfl, hq, q⟩ := h
  obtain ⟨u, rfl, rx⟩ := vals1 r
  cases rx
  have hn := line63
  rcases hq with hq | hq
  · obtain ⟨its, r', pl, hz⟩ := I.list hq
    have hlen := r'.length
    exact Calls.call_len_list pl.isList (by simp only [List.size_toArray] <;> omega) ⟨.int ys.length, H, I.tok _, ⟨s.toks + 1, by rw [List.size_toArray, hlen]⟩, q⟩
  · obtain ⟨its, r', pl, hz⟩ := I.tuple hq
    have hlen := r'.length
    exact len_tuple pl (by simp only [List.size_toArray] <;> omega) ⟨.int ys.length, H, I.tok _, ⟨s.toks + 1, by rw [List.size_toArray, hlen]⟩, q⟩
theorem call_len_str : CallR X (.builtin "len") (fun xs H Q => ∃ z, xs = [.str z] ∧ z.length ≤ sizeLine ∧ Q (.int z.length) H) := by
  intro pins s σ H xs us Q I r h
  obtain ⟨z, rfl, hz, q⟩ := h
  obtain ⟨u, rfl, t, rfl⟩ := vals1 r
  have hn := line63
  exact len_str (by omega) ⟨.int z.length, H, I.tok _, ⟨_, rfl⟩, q⟩
theorem CallR.or {f : Value} {r r' : List V → Hp → VK → Prop} (h : CallR X f r) (h' : CallR X f r') : CallR X f (fun xs H Q => r xs H Q ∨ r' xs H Q) := by
  intro pins s σ H xs us Q I rs q
  rcases q with q | q
  · exact h pins s σ H xs us Q I rs q
  · exact h' pins s σ H xs us Q I rs q
theorem call_list_of : CallR X (.type "list") (fun xs H Q => ∃ p ys, xs = [.ref p] ∧ (SqL X.K H p ys ∨ SqT X.K H p ys) ∧ ∀ l, H l = none → Q (.ref l) (upd H l (.lst ys))) := by
  intro pins s σ H xs us Q I r h
  obtain ⟨p, ys, rfl, hq, q⟩ := h
  obtain ⟨u, rfl, rx⟩ := vals1 r
  cases rx
  have fin : ∀ (its : List Value), Vals ys its → ys.length ≤ sizeLine → ∀ (h' : Heap) (c' : Nat), (∀ b o', s.heap.get? b = some o' → h'.get? b = some o') →
      h'.get? s.heap.objs.size = some { cls := .type "list", dict := none, data := .seq its.toArray c', slots := #[] } → EP X pins σ Q (.ref s.heap.objs.size) { s with heap := h' } := fun its r' hz h' c' kp e =>
    ⟨.ref s.heap.objs.size, _, I.laid (t' := s.toks) kp (Nat.le_refl _) (show ObjOk X.prog X.w _ h' _ (.lst ys) from ⟨hz, its, c', r', e⟩), rfl, q _ (I.hok.fresh (Nat.le_refl _))⟩
  rcases hq with hq | hq
  · obtain ⟨its, r', pl, hz⟩ := I.list hq
    have hlen := r'.length
    obtain ⟨o, ho, hc, n, hd⟩ := pl.isList
    exact call_list_seq p (.inl rfl) ho hc hd (fun h' c' kp e => fin its r' hz h' c' kp e) (by simp only [List.size_toArray] <;> omega)
  · obtain ⟨its, r', pl, hz⟩ := I.tuple hq
    have hlen := r'.length
    obtain ⟨o, ho, hc, n, hd⟩ := pl
    exact call_list_seq p (.inr rfl) ho hc hd (fun h' c' kp e => fin its r' hz h' c' kp e) (by simp only [List.size_toArray] <;> omega)
theorem call_tuple_of : CallR X (.type "tuple") (fun xs H Q => ∃ p ys, xs = [.ref p] ∧ ((SqL X.K H p ys ∧ ∀ l, H l = none → Q (.ref l) (upd H l (.tup ys))) ∨ (SqT X.K H p ys ∧ Q (.ref p) H))) := by
  intro pins s σ H xs us Q I r h
  obtain ⟨p, ys, rfl, h⟩ := h
  obtain ⟨u, rfl, rx⟩ := vals1 r
  cases rx
  rcases h with ⟨hq, q⟩ | ⟨hq, q⟩
  · obtain ⟨its, r', pl, hz⟩ := I.list hq
    have hlen := r'.length
    refine call_tuple_list pl.isList (fun h' kp => ?_) (by simp only [List.size_toArray] <;> omega)
    have I1 : Inv X pins σ H { s with heap := h' } := I.kept (t' := s.toks) kp
    have I2 : Inv X pins σ (upd H h'.objs.size (.tup ys)) { s with heap := h'.push { cls := .type "tuple", data := .seq its.toArray } } :=
      I1.laid (t' := s.toks) (fun b o e => Heap.get?_push_of_some _ e) (Nat.le_refl _) (show ObjOk X.prog X.w _ _ _ (.tup ys) from ⟨hz, its, r', IsTup.new _ _⟩)
    exact ⟨.ref h'.objs.size, _, I2, rfl, q _ (I1.hok.fresh (Nat.le_refl _))⟩
  · obtain ⟨its, r', pl, hz⟩ := I.tuple hq
    exact call_tuple_same pl ⟨.ref p, H, I, rfl, q⟩

/-! ### the call of a builtin's method: o.m(..) -/
/-- the value is of that builtin type -/
def tyV (K : PySem.W.Frag) (T : String) (x : V) (H : Hp) : Prop := match x with
  | .str _ => T = "str"
  | .int _ => T = "int"
  | .ref p => (T = "list" ∧ ∃ xs, SqL K H p xs) ∨ (T = "tuple" ∧ ∃ o, K.lookup p = some o ∧ o.cls = .type "tuple" ∧ o.dict = none) ∨
      (T = "dict" ∧ ((∃ kvs, H p = some (.dK kvs)) ∨ ∃ kvs, H p = some (.dT kvs))) ∨ (T = "set" ∧ ∃ S n, H p = some (.set S n))
  | _ => False
theorem tyV_is {pins : List (Addr × Obj)} {σ : St} {H : Hp} {s : Shared} {T : String} {x : V} {v : Value} (I : Inv X pins σ H s) (r : RelV x v) (ty : tyV X.K T x H) :
    s.TypeIs v T ∧ ∀ a, v = .ref a → ∃ ob, s.heap.get? a = some ob ∧ ob.dict = none := by
  cases x with
  | str z =>
    obtain ⟨t, rfl⟩ := r
    cases (show T = "str" from ty)
    exact ⟨typeIs_str s z t, fun _ e => nomatch e⟩
  | int i =>
    obtain ⟨t, rfl⟩ := r
    cases (show T = "int" from ty)
    exact ⟨typeIs_int s i t, fun _ e => nomatch e⟩
  | ref p =>
    cases r
    rcases ty with ⟨rfl, xs, hq⟩ | ⟨rfl, o, hk, hc, hd⟩ | ⟨rfl, hk⟩ | ⟨rfl, S, n, hk⟩
    · obtain ⟨its, _, pl, _⟩ := I.list hq
      refine ⟨pl.isList.typeIs, fun a e => ?_⟩
      cases e
      obtain ⟨o, n, e, c, hd, _⟩ := pl
      exact ⟨o, e, hd⟩
    · refine ⟨⟨o, I.kIn p o hk, hc⟩, fun a e => ?_⟩
      cases e
      exact ⟨o, I.kIn _ o hk, hd⟩
    · have z : ∃ o, s.heap.get? p = some o ∧ o.ExactDict := by
        rcases hk with ⟨kvs, hk⟩ | ⟨kvs, hk⟩
        · obtain ⟨_, _, _, _, o, _, _, e, ex, _⟩ := I.hok p _ hk
          exact ⟨o, e, ex⟩
        · obtain ⟨_, _, _, _, o, _, _, e, ex, _⟩ := I.hok p _ hk
          exact ⟨o, e, ex⟩
      obtain ⟨o, e, ex⟩ := z
      refine ⟨⟨o, e, ex.1⟩, fun a e2 => ?_⟩
      cases e2
      exact ⟨o, e, ex.2.1⟩
    · obtain ⟨o, _, _, _, e, ex, _⟩ := I.hok p _ hk
      refine ⟨⟨o, e, ex.1⟩, fun a e2 => ?_⟩
      cases e2
      exact ⟨o, e, ex.2.1⟩
  | _ => exact False.elim ty
def tBM0 (K : PySem.W.Frag) (T : String) (r : V → List V → Hp → VK → Prop) (to : TE) : TE := fun σ H Q => to σ H fun x H1 => tyV K T x H1 ∧ r x [] H1 Q
def tBM (K : PySem.W.Frag) (T : String) (r : V → List V → Hp → VK → Prop) (to : TE) (t : TA) : TE := fun σ H Q => to σ H fun x H1 => tyV K T x H1 ∧ t σ H1 fun xs H2 => r x xs H2 Q
variable {o e : Expr} {es : List Expr} {to : TE} {t : TA} {name : Str} {apos cpos : Pos} {T id : String} {r : V → List V → Hp → VK → Prop}
theorem pe_bm0 (pa : PlainAttrs T) (slot : Slot T name id) (hty : typeOf (.builtin id) = pure (.type "method_descriptor")) (hm : MtR X id r) (ho : PE X o to)
    (hbase : attributeBase o name X.env (eval o X.env) = eval o X.env := by rfl) (hline : (apos.endLine == cpos.line) = true := by rfl) : PE X (.Call (.Attribute o name apos) [] [] cpos) (tBM0 X.K T r to) := by
  intro pins s σ H Q I h
  refine wpAny_Call_method0_late hbase hline (thn (ho pins s σ H _ I h) fun v s1 ⟨x, H1, I1, r1, ty, q1⟩ => ?_)
  obtain ⟨h1, h2⟩ := tyV_is I1 r1 ty
  exact ⟨T, id, pa, slot, hty, h1, h2, Calls.callWith_builtin rfl (PySem.evalArgs_none (hm pins s1 σ H1 x [] v [] Q I1 r1 .nil q1))⟩
theorem pe_bm (pa : PlainAttrs T) (slot : Slot T name id) (hty : typeOf (.builtin id) = pure (.type "method_descriptor")) (hm : MtR X id r) (ho : PE X o to) (ha : PA X (e :: es) t)
    (hbase : attributeBase o name X.env (eval o X.env) = eval o X.env := by rfl)
    (hfew : ((backTo cpos (starEach (e :: es) X.env)).all (fun x => !x.1) && (backToKw cpos (keywordEach [] X.env)).all (fun x => x.1.isSome)
      && decide ((e :: es).length + ([] : List Keyword).length + (if ([] : List Keyword).isEmpty then 0 else 1) < 30)) = true := by rfl)
    (hline : (apos.endLine == cpos.line) = true := by rfl) (hs : starEach (e :: es) X.env = (false, eval e X.env) :: starEach es X.env := by rfl) (hplain : (backTo cpos (starEach es X.env)).any (·.1) = false := by rfl) :
    PE X (.Call (.Attribute o name apos) (e :: es) [] cpos) (tBM X.K T r to t) := by
  intro pins s σ H Q I h
  refine wpAny_Call_method_late hbase hfew hline rfl (thn (ho pins s σ H _ I h) fun v s1 ⟨x, H1, I1, r1, ty, q1⟩ => ?_)
  obtain ⟨h1, h2⟩ := tyV_is I1 r1 ty
  refine ⟨T, id, pa, slot, hty, h1, h2, ?_⟩
  have hA := ha cpos pins s1 σ H1 _ I1 q1
  rw [hs] at hA ⊢
  refine Calls.callWith_builtin (by show (false || (backTo cpos (starEach es X.env)).any (·.1)) = false; rw [hplain] <;> rfl) (Calls.evalArgs_plain ?_)
  exact thn hA fun us s2 ⟨vs, H2, I2, r2, q2⟩ => hm pins s2 σ H2 x vs v us Q I2 r1 r2 q2
/- xs.append(e), list.index on a module's tuple .. are MtR facts of 06m -/
end
end L2

namespace L2
open PySem PySem.Spec PyProof.Rows

def MtM (X : Cx) (id : String) (r : V → List V → Hp → VK → Prop) : Prop :=
  ∀ (pins : List (Addr × Obj)) (s : Shared) (σ : St) (H : Hp) (x : V) (xs : List V) (v : Value) (us : List Value) (Q : VK), Inv X pins σ H s → RelV x v → Vals xs us → r x xs H Q →
    wpAny (model X.prog X.w) X.A (call (.builtin id) (v :: us)) (EP X pins σ Q) X.xe s

/-! ### lists of values -/
theorem Vals.one : ∀ {x : V} {us : List Value}, Vals [x] us → ∃ u, us = [u] ∧ RelV x u
  | _, _, .cons r .nil => ⟨_, rfl, r⟩
theorem Vals.two : ∀ {x y : V} {us : List Value}, Vals [x, y] us → ∃ u v, us = [u, v] ∧ RelV x u ∧ RelV y v
  | _, _, _, .cons r (.cons q .nil) => ⟨_, _, rfl, r, q⟩
theorem Vals.zero : ∀ {us : List Value}, Vals [] us → us = []
  | _, .nil => rfl
theorem Vals.dropLast {xs : List V} {us : List Value} (h : Vals xs us) : Vals xs.dropLast us.dropLast := by
  induction h with
  | nil => exact .nil
  | cons r t ih =>
    cases t with
    | nil => exact .nil
    | cons q t' => exact .cons r ih
theorem Vals.eraseIdx : ∀ {xs : List V} {us : List Value} (i : Nat), Vals xs us → Vals (xs.eraseIdx i) (us.eraseIdx i)
  | _, _, _, .nil => .nil
  | _, _, 0, .cons _ t => t
  | _, _, i + 1, .cons r t => .cons r (Vals.eraseIdx i t)
theorem Vals.reverse {xs : List V} {us : List Value} (h : Vals xs us) : Vals xs.reverse us.reverse := by
  induction h with
  | nil => exact .nil
  | cons r t ih => rw [List.reverse_cons, List.reverse_cons]; exact Vals.append ih (.cons r .nil)
theorem Vals.rep {xs : List V} {us : List Value} (h : Vals xs us) : ∀ k : Nat, Vals (List.replicate k xs).flatten (List.replicate k us).flatten
  | 0 => .nil
  | k + 1 => by
    rw [List.replicate_succ, List.replicate_succ, List.flatten_cons, List.flatten_cons]
    exact Vals.append h (Vals.rep h k)
theorem erase_last {α : Type} (l : List α) : l.eraseIdx (l.length - 1) = l.dropLast := by
  induction l with
  | nil => rfl
  | cons a r ih =>
    cases r with
    | nil => rfl
    | cons b r =>
      have e : (a :: b :: r).length - 1 = ((b :: r).length - 1) + 1 := by
        have h1 : (a :: b :: r).length = r.length + 2 := rfl
        have h2 : (b :: r).length = r.length + 1 := rfl
        omega
      rw [e, List.eraseIdx_cons_succ, ih]
      all_goals rfl
theorem len_erase {α : Type} : ∀ (l : List α) (i : Nat), (l.eraseIdx i).length ≤ l.length
  | [], _ => Nat.le_refl _
  | _ :: _, 0 => Nat.le_succ _
  | _ :: r, i + 1 => Nat.succ_le_succ (len_erase r i)
theorem foldl_rep (its : List Value) : ∀ (k : Nat) (acc : List Value),
    List.foldl (fun x1 x2 => x1 ++ x2) acc.toArray (List.replicate k its.toArray) = (acc ++ (List.replicate k its).flatten).toArray
  | 0, acc => by simp
  | k + 1, acc => by
    have e : acc.toArray ++ its.toArray = (acc ++ its).toArray := by simp
    have e2 : (acc ++ its) ++ (List.replicate k its).flatten = acc ++ (List.replicate (k + 1) its).flatten := by
      rw [List.replicate_succ, List.flatten_cons, List.append_assoc]
    rw [← e2, ← foldl_rep its k (acc ++ its), ← e, List.replicate_succ, List.foldl_cons]

section
variable {X : Cx} {pins : List (Addr × Obj)} {σ : St} {H : Hp} {s : Shared} {l b : Addr} {xs ys zs : List V}

/-! ### the two steps: a tracked list is rewritten, a new list is laid -/
theorem Inv.lset {its its' : List Value} {n : Nat} {f : Array Value → Array Value} {t' : Nat} (I : Inv X pins σ H s) (hH : H l = some (.lst xs))
    (e : s.heap.get? l = some { cls := .type "list", data := .seq its.toArray n }) (hf : f its.toArray = its'.toArray) (hv : Vals ys its') (hz : ys.length ≤ sizeLine) :
    Inv X pins σ (upd H l (.lst ys)) { s with heap := s.heap.update l (Obj.mapSeq f), toks := t' } := by
  have q := PySem.IsL.update e f
  rw [hf] at q
  refine I.write (x := l) (e := l) (by rw [hH]; exact trivial) (.inl rfl) (fun b' u hb hu => (Heap.get?_update_other s.heap (Obj.mapSeq f) (Ne.symm hb)).trans hu) ⟨_, q⟩ ?_
  exact ⟨hz, its', _, hv, q⟩
theorem Inv.lnew {its : List Value} {t' : Nat} (I : Inv X pins σ H s) (hv : Vals ys its) (hz : ys.length ≤ sizeLine) :
    Inv X pins σ (upd H s.heap.objs.size (.lst ys)) { s with heap := s.heap.push { cls := .type "list", data := .seq its.toArray }, toks := t' } :=
  I.laid (fun _ _ q => Heap.get?_push_of_some _ q) (Nat.le_refl _) ⟨hz, its, 0, hv, Heap.get?_push_size _ rfl⟩
theorem Inv.fresh (I : Inv X pins σ H s) : H s.heap.objs.size = none := I.hok.fresh (Nat.le_refl _)
theorem Inv.lstM (I : Inv X pins σ H s) (hH : H l = some (.lst xs)) : xs.length ≤ sizeLine ∧ ∃ (its : List Value) (n : Nat), Vals xs its ∧ xs.length = its.length ∧ s.heap.get? l = some { cls := .type "list", data := .seq its.toArray n } := by
  obtain ⟨z, its, n, r, e⟩ := I.hok l _ hH
  exact ⟨z, its, n, r, r.length, e⟩

theorem notLongL {n : Nat} (h : n ≤ sizeLine) : Builtin.List.listTooLong n = false := by
  unfold Builtin.List.listTooLong
  exact decide_eq_false (by omega)
end

section
variable {X : Cx}

/-! ### methods -/
def rAppend : V → List V → Hp → VK → Prop := fun x vs H Q => ∃ l xs y, x = .ref l ∧ vs = [y] ∧ H l = some (.lst xs) ∧ xs.length < sizeLine ∧ Q .non (upd H l (.lst (xs ++ [y])))
theorem mt_append : MtM X "list.append" rAppend := by
  intro pins s σ H x vs v us Q I rx rv h
  obtain ⟨l, xs, y, rfl, rfl, hH, hz, q⟩ := h
  cases rx
  obtain ⟨u, rfl, ru⟩ := rv.one
  obtain ⟨z, its, n, r, hl, e⟩ := I.lstM hH
  refine call_meets F.slot_list_append ⟨_, e, rfl⟩ F.entry_list_append (F.args_list_append_2 _ _) (PySem.list_append l its.toArray n u (by rw [List.size_toArray]; omega)) ⟨e, ?_⟩
  refine ⟨.non, _, I.lset (its' := its ++ [u]) hH e (by simp) (r.append (.cons ru .nil)) ?_, rfl, q⟩
  rw [List.length_append, List.length_singleton]
  omega

def rExtend : V → List V → Hp → VK → Prop := fun x vs H Q => ∃ l b xs zs, x = .ref l ∧ vs = [.ref b] ∧ H l = some (.lst xs) ∧ H b = some (.lst zs) ∧ xs.length + zs.length ≤ sizeLine ∧ Q .non (upd H l (.lst (xs ++ zs)))
theorem mt_extend : MtM X "list.extend" rExtend := by
  intro pins s σ H x vs v us Q I rx rv h
  obtain ⟨l, b, xs, zs, rfl, rfl, hH, hB, hz, q⟩ := h
  cases rx
  obtain ⟨u, rfl, ru⟩ := rv.one
  cases ru
  obtain ⟨z, its, n, r, hl, e⟩ := I.lstM hH
  obtain ⟨z2, its2, n2, r2, hl2, e2⟩ := I.lstM hB
  have hsz : its.toArray.size + its2.toArray.size ≤ sizeLine := by rw [List.size_toArray, List.size_toArray]; omega
  have hlong : ¬ (!its.toArray.isEmpty && Builtin.List.listTooLong (its.toArray.size + its2.toArray.size)) = true := by
    rw [notLongL hsz, Bool.and_false]
    exact Bool.false_ne_true
  refine call_meets F.slot_list_extend ⟨_, e, rfl⟩ F.entry_list_extend (F.args_list_extend_2 _ _)
    (AutoSeq1.list_extend_list_list_0 l its.toArray n b its2.toArray n2 hlong (by rw [List.size_toArray]; omega) (by omega)) ⟨e, e2, ?_⟩
  refine ⟨.non, _, I.lset (its' := its ++ its2) hH e (by simp) (r.append r2) ?_, rfl, q⟩
  rw [List.length_append]
  omega

def rPop : V → List V → Hp → VK → Prop := fun x vs H Q => ∃ l xs y, x = .ref l ∧ vs = [] ∧ H l = some (.lst xs) ∧ xs[xs.length - 1]? = some y ∧ Q y (upd H l (.lst xs.dropLast))
theorem mt_pop : MtM X "list.pop" rPop := by
  intro pins s σ H x vs v us Q I rx rv h
  obtain ⟨l, xs, y, rfl, rfl, hH, hy, q⟩ := h
  cases rx
  have hus := rv.zero
  subst hus
  obtain ⟨z, its, n, r, hl, e⟩ := I.lstM hH
  obtain ⟨u, hu, ru⟩ := r.get hy
  have hy' : its.toArray[its.toArray.size - 1]? = some u := by
    show its.toArray[its.length - 1]? = some u
    rw [← Array.getElem?_toList, ← hl]
    exact hu
  refine call_meets F.slot_list_pop ⟨_, e, rfl⟩ F.entry_list_pop (F.args_list_pop_1 _) (MeetsSeq.list_pop_last l its.toArray n u hy' (by rw [List.size_toArray]; omega)) ⟨e, ?_⟩
  refine ⟨y, _, I.lset (its' := its.dropLast) hH e ?_ r.dropLast ?_, ru, q⟩
  · show its.toArray.eraseIdxIfInBounds (its.toArray.size - 1) = its.dropLast.toArray
    rw [List.size_toArray, List.eraseIdxIfInBounds_toArray, erase_last]
  · rw [List.length_dropLast]
    omega

def rPopAt : V → List V → Hp → VK → Prop := fun x vs H Q => ∃ l xs i k y, x = .ref l ∧ vs = [.int i] ∧ H l = some (.lst xs) ∧ -(2 ^ 63) ≤ i ∧ i < 2 ^ 63 ∧ seqIndex? i xs.length = some k ∧ xs[k]? = some y ∧ Q y (upd H l (.lst (xs.eraseIdx k)))
theorem mt_popAt : MtM X "list.pop" rPopAt := by
  intro pins s σ H x vs v us Q I rx rv h
  obtain ⟨l, xs, i, k, y, rfl, rfl, hH, h1, h2, hk, hy, q⟩ := h
  cases rx
  obtain ⟨u, rfl, ru⟩ := rv.one
  obtain ⟨t, rfl⟩ := ru
  obtain ⟨z, its, n, r, hl, e⟩ := I.lstM hH
  obtain ⟨w, hw, rw'⟩ := r.get hy
  refine call_meets F.slot_list_pop ⟨_, e, rfl⟩ F.entry_list_pop (F.args_list_pop_2 _ _)
    (MeetsSeq.list_pop_at l its.toArray n i t k w (fitsIndex_both h1 h2) (by rw [List.size_toArray, ← hl]; exact hk) (by rw [← Array.getElem?_toList]; exact hw) (by rw [List.size_toArray]; omega)) ⟨e, ?_⟩
  refine ⟨y, _, I.lset (its' := its.eraseIdx k) hH e ?_ (r.eraseIdx k) ?_, rw', q⟩
  · show its.toArray.eraseIdxIfInBounds k = (its.eraseIdx k).toArray
    rw [List.eraseIdxIfInBounds_toArray]
  · have := len_erase xs k
    omega

def rReverse : V → List V → Hp → VK → Prop := fun x vs H Q => ∃ l xs, x = .ref l ∧ vs = [] ∧ H l = some (.lst xs) ∧ Q .non (upd H l (.lst xs.reverse))
theorem mt_reverse : MtM X "list.reverse" rReverse := by
  intro pins s σ H x vs v us Q I rx rv h
  obtain ⟨l, xs, rfl, rfl, hH, q⟩ := h
  cases rx
  have hus := rv.zero
  subst hus
  obtain ⟨z, its, n, r, hl, e⟩ := I.lstM hH
  refine call_meets F.slot_list_reverse ⟨_, e, rfl⟩ F.entry_list_reverse (F.args_list_reverse_1 _) (AutoSeq1.list_reverse_list_0 l its.toArray n (by rw [List.size_toArray]; omega)) ⟨e, ?_⟩
  refine ⟨.non, _, I.lset (its' := its.reverse) hH e (by simp) r.reverse ?_, rfl, q⟩
  rw [List.length_reverse]
  omega

def rClear : V → List V → Hp → VK → Prop := fun x vs H Q => ∃ l xs, x = .ref l ∧ vs = [] ∧ H l = some (.lst xs) ∧ Q .non (upd H l (.lst []))
theorem mt_clear : MtM X "list.clear" rClear := by
  intro pins s σ H x vs v us Q I rx rv h
  obtain ⟨l, xs, rfl, rfl, hH, q⟩ := h
  cases rx
  have hus := rv.zero
  subst hus
  obtain ⟨z, its, n, r, hl, e⟩ := I.lstM hH
  refine call_meets F.slot_list_clear ⟨_, e, rfl⟩ F.entry_list_clear (F.args_list_clear_1 _) (AutoSeq1.list_clear_list_0 l its.toArray n (by rw [List.size_toArray]; omega)) ⟨e, ?_⟩
  exact ⟨.non, _, I.lset (its' := []) (ys := []) hH e rfl .nil (Nat.zero_le _), rfl, q⟩

/-! ### list + list, list += list, list * int -/
def rCat : R2 := fun x y H Q => ∃ l b xs zs, x = .ref l ∧ y = .ref b ∧ H l = some (.lst xs) ∧ H b = some (.lst zs) ∧ xs.length + zs.length ≤ sizeLine ∧ ∀ p, H p = none → Q (.ref p) (upd H p (.lst (xs ++ zs)))
theorem op_cat : OpR X (binaryOp .Add) rCat := by
  intro pins s σ H x y v u Q I rx ry h
  obtain ⟨l, b, xs, zs, rfl, rfl, hH, hB, hz, q⟩ := h
  cases rx
  cases ry
  obtain ⟨z, its, n, r, hl, e⟩ := I.lstM hH
  obtain ⟨z2, its2, n2, r2, hl2, e2⟩ := I.lstM hB
  refine PySem.P.add_list e e2 ?_ (by rw [List.size_toArray, List.size_toArray]; omega)
  have ea : its.toArray ++ its2.toArray = (its ++ its2).toArray := by simp
  rw [ea]
  exact ⟨.ref _, _, I.lnew (t' := s.toks) (r.append r2) (by rw [List.length_append]; omega), rfl, q _ I.fresh⟩
/-- a list times an int (a negative one is nothing) -/
def rRep : R2 := fun x y H Q => ∃ l k xs, x = .ref l ∧ y = .int k ∧ H l = some (.lst xs) ∧ -(2 ^ 63) ≤ k ∧ k < 2 ^ 63 ∧ xs.length * k.toNat ≤ sizeLine ∧
  ∀ p, H p = none → Q (.ref p) (upd H p (.lst (List.replicate k.toNat xs).flatten))
theorem len_rep {α : Type} (xs : List α) (k : Nat) : (List.replicate k xs).flatten.length = k * xs.length := by
  induction k with
  | zero => simp
  | succ k ih => rw [List.replicate_succ, List.flatten_cons, List.length_append, ih, Nat.succ_mul, Nat.add_comm]
theorem op_rep : OpR X (binaryOp .Mult) rRep := by
  intro pins s σ H x y v u Q I rx ry h
  obtain ⟨l, k, xs, rfl, rfl, hH, h1, h2, hz, q⟩ := h
  cases rx
  obtain ⟨t, rfl⟩ := ry
  obtain ⟨z, its, n, r, hl, e⟩ := I.lstM hH
  have hlen : its.toArray.size * k.toNat ≤ sizeLine := by rw [List.size_toArray, ← hl]; exact hz
  have hcap : ¬ its.toArray.size * k.toNat > (2 ^ 63 - 1) / 8 := by
    have : (sizeLine : Nat) ≤ (2 ^ 63 - 1) / 8 := by decide
    omega
  have hfit : ¬ (!Builtin.List.listFitsIndex k) = true := by
    rw [fitsIndex_both h1 h2]
    exact Bool.false_ne_true
  have hlong : ¬ Builtin.List.listTooLong (its.toArray.size * k.toNat) = true := by
    rw [notLongL hlen]
    exact Bool.false_ne_true
  have hnew : List.foldl (fun x1 x2 => x1 ++ x2) #[] (List.replicate (if its.toArray.isEmpty = true then 0 else k.toNat) its.toArray) = (List.replicate k.toNat its).flatten.toArray := by
    have f0 : ∀ m : Nat, List.foldl (fun x1 x2 => x1 ++ x2) #[] (List.replicate m its.toArray) = (List.replicate m its).flatten.toArray := fun m => by
      have := foldl_rep its m []
      rw [List.nil_append] at this
      exact this
    rw [f0]
    cases its with
    | nil => simp
    | cons a r' => rw [if_neg (by simp)]
  refine wpAny_binaryOp_repeat_ref (T := "list") (U := "int") (by decide) ⟨_, e, rfl⟩ (fun s' => typeIs_int s' k t) noFill_list_mul F.fills_int_mul F.slot_int_rmul repeat_list F.slot_int_index.lookup
    (call_meets F.slot_int_rmul (typeIs_int s k t) F.entry_int_rmul (F.args_int_rmul_2 _ _) (int___rmul___int_list k t l its.toArray n)
      ⟨e, rfl, ⟨_, e, rfl⟩, call_meets F.slot_list_mul ⟨_, e, rfl⟩ F.entry_list_mul (F.args_list_mul_2 _ _) (AutoListH.list___mul___list_int_3 l its.toArray n k t hfit hcap hlong) ⟨e, ?_⟩⟩)
  rw [hnew]
  exact ⟨.ref _, _, I.lnew (t' := s.toks) (r.rep k.toNat) (by rw [len_rep, Nat.mul_comm]; exact hz), rfl, q _ I.fresh⟩

/-! ### del xs[i] -/
theorem del_list {pins : List (Addr × Obj)} {s : Shared} {σ : St} {H : Hp} {l : Addr} {xs : List V} {i : Int} {t : Tok} {k : Nat} {Q : Unit → Shared → Prop} (I : Inv X pins σ H s) (hH : H l = some (.lst xs))
    (h1 : -(2 ^ 63) ≤ i) (h2 : i < 2 ^ 63) (hk : seqIndex? i xs.length = some k) (h : ∀ s', Inv X pins σ (upd H l (.lst (xs.eraseIdx k))) s' → Q () s') :
    wpAny (model X.prog X.w) X.A (delItem (.ref l) (.int i t)) Q X.xe s := by
  obtain ⟨z, its, n, r, hl, e⟩ := I.lstM hH
  refine PySem.P.delItem_list (k := k) e (fitsIndex_both h1 h2) (by rw [List.size_toArray, ← hl]; exact hk) (h _ ?_) (by rw [List.size_toArray]; omega)
  refine I.lset (its' := its.eraseIdx k) (t' := s.toks) hH e ?_ (r.eraseIdx k) ?_
  · show its.toArray.eraseIdxIfInBounds k = (its.eraseIdx k).toArray
    rw [List.eraseIdxIfInBounds_toArray]
  · have := len_erase xs k
    omega
end

/-! ### xs[a:b] = ys -/
section
variable {prog : Program} {w : World} {A : Around} {E : Value → Shared → Prop} {s : Shared}
theorem splice_eq (its its2 : List Value) (a c : Nat) : its.toArray.extract 0 a ++ its2.toArray ++ its.toArray.extract c its.toArray.size = (its.take a ++ its2 ++ its.drop c).toArray := by
  apply Array.toList_inj.mp
  first
    | (simp
       exact List.take_of_length_le (by simp))
    | simp [List.take_of_length_le]
    | simp
theorem bounds_run {a c n : Nat} (hac : a ≤ c) (hc : c ≤ n) : sliceBounds (some (a : Int)) (some (c : Int)) none n = ((a : Int), (c : Int), 1) := by
  simp only [sliceBounds, Option.getD_none]
  have h1 : ¬ ((a : Int) < 0) := by omega
  have h2 : ¬ ((c : Int) < 0) := by omega
  simp only [h1, h2, if_false, show (1 : Int) > 0 by decide, if_true]
  congr 1
  · omega
  · congr 1; omega
set_option maxRecDepth 100000 in
/-- list.__setitem__ with a slice of step one and another list -/
theorem setItem_slice {l b sl : Addr} {items new : Array Value} {n n2 : Nat} {vl vu : Value} {a c : Nat} {Q : Unit → Shared → Prop}
    (e : s.heap.get? l = some { cls := .type "list", data := .seq items n }) (e2 : s.heap.get? b = some { cls := .type "list", data := .seq new n2 }) (hne : l ≠ b)
    (hs : s.heap.IsSliceOf sl vl vu .none) (pl : IsPart vl (some (a : Int))) (pu : IsPart vu (some (c : Int))) (hac : a ≤ c) (hc : c ≤ items.size)
    (hsz : items.size + new.size ≤ sizeLine) (h : Q () { s with heap := s.heap.update l (Obj.mapSeq fun xs => xs.extract 0 a ++ new ++ xs.extract c xs.size) }) :
    wpAny (model prog w) A (setItem (.ref l) (.ref sl) (.ref b)) Q E s := by
  have hl : s.heap.IsList l items := PySem.IsL.isList e
  have hb : s.heap.IsList b new := PySem.IsL.isList e2
  obtain ⟨os, hos, hcs, hds⟩ := id hs
  have hTs : s.TypeIs (.ref sl) "slice" := ⟨os, hos, hcs⟩
  have hstep : ¬ ((rawPart none == rawInt 0) = true) := Bool.false_ne_true
  have hsame : Builtin.List.listSameRef (.ref l) (.ref b) = false := by
    unfold Builtin.List.listSameRef
    exact beq_eq_false_iff_ne.mpr hne
  have hmax : (max (a : Int) (c : Int)).toNat = c := by omega
  have hz' : ((fun xs : Array Value => xs.extract 0 a ++ new ++ xs.extract c xs.size) items).size ≤ sizeLine + 1 := by
    simp only [Array.size_append, Array.size_extract]
    omega
  unfold setItem
  try with_reducible refine wpAny_holding ?_
  first | refine wpAny_bind (wpAny_pure ?_) | skip
  refine wpAny_bind (wpAny_sequenceKey hl.typeIs (by decide) ?_)
  refine wpAny_bind (wpAny_callSpecial?_slot (name := Str.ofString "__setitem__") hl.typeIs slot_list_setitem
    (wpAny_call_entry slot_list_setitem hl.typeIs entry_list_setitem ?_ (args_list_setitem _ _ _)))
  show wpAny _ _ (Builtin.List.listSubscript? (.ref sl) >>= _) _ _ s
  refine wpAny_bind ?_
  unfold Builtin.List.listSubscript?
  refine wpAny_bind (wpAny_specialOf hTs slice_no_index ?_)
  simp only [Option.isNone_none, if_true]
  refine wpAny_pure ?_
  show wpAny _ _ (typeOf (.ref sl) >>= _) _ _ s
  refine wpAny_bind (wpAny_typeOf hTs ?_)
  first
    | rw [if_neg (by decide)]
    | refine PySem.W.KFB.if_not (by decide) ?_
  rw [listSliceParts_eq]
  refine wpAny_bind (wpAny_bind (wpAny_field hos hds (x := .none) rfl (wpAny_bind (wpAny_listPart .none ?_))))
  rw [if_neg hstep]
  refine wpAny_bind (wpAny_field hos hds (x := vl) rfl (wpAny_bind (wpAny_listPart pl ?_)))
  refine wpAny_bind (wpAny_field hos hds (x := vu) rfl (wpAny_bind (wpAny_listPart pu (wpAny_pure ?_))))
  first
    | simp only [hsame, Bool.false_eq_true, if_false]
    | refine PySem.W.KFB.if_not hsame ?_
    | (dsimp only
       rw [if_neg (by rw [hsame]; exact Bool.false_ne_true)])
  refine wpAny_bind (m := Builtin.List.listAllItems (.ref b) "must assign iterable to extended slice") ?_
  unfold Builtin.List.listAllItems
  refine wpAny_bind (wpAny_typeOf hb.typeIs ?_)
  first
    | refine PySem.W.KFB.if_so (by decide) ?_
    | rw [if_pos (by decide)]
    | simp only [beq_self_eq_true, Bool.true_or, if_true]
  unfold Builtin.List.listItems
  refine wpAny_bind (wpAny_seqItems e2 rfl (wpAny_pure ?_))
  refine wpAny_bind (wpAny_bind (wpAny_seqItems e rfl (wpAny_pure ?_)))
  refine wpAny_bind (wpAny_of_eq ((sliceIndices_raw (some (a : Int)) (some (c : Int)) none items.size (by simp)).trans (congrArg (pure : Int × Int × Int → Sem (Int × Int × Int)) (bounds_run hac hc))) ?_)
  show wpAny _ _ (if ((1 : Int) == 1) = true then _ else _) _ _ s
  rw [if_pos (by decide)]
  refine wpAny_bind (wpAny_rule ?_)
  first
    | simp only [notLongL hsz, Bool.false_eq_true, if_false]
    | refine PySem.W.KFB.if_not (notLongL hsz) ?_
  first | refine wpAny_bind (wpAny_pure ?_) | skip
  show wpAny _ _ (updateSeq l (fun xs => xs.extract 0 ((a : Int)).toNat ++ new ++ xs.extract (max (a : Int) (c : Int)).toNat xs.size) >>= _) _ _ s
  rw [hmax, Int.toNat_natCast]
  refine wpAny_bind (wpAny_updateSeq (hz := Nat.le_trans (Nat.le_add_right _ _) hsz) (_hz' := hz') e rfl ?_)
  refine wpAny_bind (wpAny_letGo ?_)
  first
    | exact wpAny_bind (wpAny_pure (wpAny_pure ⟨.none, rfl, wpAny_pure h⟩))
    | exact wpAny_pure ⟨.none, rfl, wpAny_pure h⟩
end

section
variable {X : Cx}
/-- xs[a:c] = ys of another list, at the value level: sl is the slice object that was just made -/
theorem set_slice {pins : List (Addr × Obj)} {s : Shared} {σ : St} {H : Hp} {l b sl : Addr} {xs ys : List V} {a c : Int} {vl vu : Value} {Q : Unit → Shared → Prop} (I : Inv X pins σ H s)
    (hH : H l = some (.lst xs)) (hB : H b = some (.lst ys)) (hne : l ≠ b) (hs : s.heap.IsSliceOf sl vl vu .none) (ra : RelV (.int a) vl) (rc : RelV (.int c) vu) (h0 : 0 ≤ a) (hac : a ≤ c) (hc : c ≤ xs.length)
    (hz : xs.length + ys.length ≤ sizeLine) (h : ∀ s', Inv X pins σ (upd H l (.lst (xs.take a.toNat ++ ys ++ xs.drop c.toNat))) s' → Q () s') :
    wpAny (model X.prog X.w) X.A (setItem (.ref l) (.ref sl) (.ref b)) Q X.xe s := by
  obtain ⟨ta, rfl⟩ := ra
  obtain ⟨tc, rfl⟩ := rc
  obtain ⟨z, its, n, r, hl, e⟩ := I.lstM hH
  obtain ⟨z2, its2, n2, r2, hl2, e2⟩ := I.lstM hB
  obtain ⟨a', rfl⟩ := Int.eq_ofNat_of_zero_le h0
  obtain ⟨c', rfl⟩ := Int.eq_ofNat_of_zero_le (Int.le_trans h0 hac)
  simp only [Int.toNat_natCast] at h
  refine setItem_slice (a := a') (c := c') e e2 hne hs (.int _ _) (.int _ _) (by omega) (by rw [List.size_toArray]; omega) (by rw [List.size_toArray, List.size_toArray]; omega) (h _ ?_)
  refine I.lset (its' := its.take a' ++ its2 ++ its.drop c') (t' := s.toks) hH e ?_ (Vals.append (Vals.append (r.take _) r2) (r.drop _)) ?_
  · exact splice_eq its its2 a' c'
  · rw [List.length_append, List.length_append, List.length_take, List.length_drop]
    omega
end
end L2

namespace L2
open PySem PySem.Spec PyProof.Rows

/-! ### lists of pairs as tables -/
section
variable {κ : Type} [DecidableEq κ]
def valV (kvs : List (κ × V)) (k : κ) : Option V := (kvs.find? fun kv => decide (kv.1 = k)).map (·.2)
/-- in its place, or at the end -/
def putK (kvs : List (κ × V)) (k : κ) (v : V) : List (κ × V) :=
  if (kvs.any fun kv => decide (kv.1 = k)) = true then kvs.map (fun kv => if kv.1 = k then (kv.1, v) else kv) else kvs ++ [(k, v)]
def dropK (kvs : List (κ × V)) (k : κ) : List (κ × V) := kvs.filter fun kv => decide (kv.1 ≠ k)

theorem valV_nil {k : κ} : valV ([] : List (κ × V)) k = none := rfl
theorem valV_pos {p : κ × V} {r : List (κ × V)} {k : κ} (e : p.1 = k) : valV (p :: r) k = some p.2 := by simp [valV, List.find?_cons, e]
theorem valV_neg {p : κ × V} {r : List (κ × V)} {k : κ} (e : ¬ p.1 = k) : valV (p :: r) k = valV r k := by simp [valV, List.find?_cons, e]
theorem valV_any (k : κ) : ∀ kvs : List (κ × V), (kvs.any fun kv => decide (kv.1 = k)) = (valV kvs k).isSome
  | [] => rfl
  | p :: r => by
    rw [List.any_cons]
    by_cases e : p.1 = k
    · simp only [valV_pos e, decide_eq_true e, Bool.true_or, Option.isSome_some]
    · rw [valV_neg e, decide_eq_false e, Bool.false_or]; exact valV_any k r
theorem valV_map (k j : κ) (y : V) : ∀ kvs : List (κ × V), valV (kvs.map fun kv => if kv.1 = k then (kv.1, y) else kv) j = (valV kvs j).map fun x => if j = k then y else x
  | [] => rfl
  | p :: r => by
    have ih := valV_map k j y r
    rw [List.map_cons]
    by_cases h : p.1 = k
    · rw [if_pos h]
      by_cases e : p.1 = j
      · rw [valV_pos (p := (p.1, y)) e, valV_pos e, Option.map_some, if_pos (e.symm.trans h)]
      · rw [valV_neg (p := (p.1, y)) e, valV_neg e, ih]
    · rw [if_neg h]
      by_cases e : p.1 = j
      · rw [valV_pos (p := p) e, valV_pos e, Option.map_some, if_neg (fun z => h (e.trans z))]
      · rw [valV_neg (p := p) e, valV_neg e, ih]
theorem valV_snoc (k j : κ) (y : V) : ∀ kvs : List (κ × V), valV kvs k = none → valV (kvs ++ [(k, y)]) j = if j = k then some y else valV kvs j
  | [], _ => by
    by_cases e : k = j
    · rw [if_pos e.symm]; exact valV_pos (p := (k, y)) e
    · rw [if_neg (fun z => e z.symm)]; exact valV_neg (p := (k, y)) e
  | p :: r, hn => by
    rw [List.cons_append]
    have hk : ¬ p.1 = k := fun z => by rw [valV_pos z] at hn; cases hn
    rw [valV_neg hk] at hn
    have ih := valV_snoc k j y r hn
    by_cases e : p.1 = j
    · rw [valV_pos e, valV_pos e, if_neg (fun z => hk (e.trans z))]
    · rw [valV_neg e, valV_neg e, ih]
theorem valV_put (kvs : List (κ × V)) (k j : κ) (y : V) : valV (putK kvs k y) j = if j = k then some y else valV kvs j := by
  unfold putK
  by_cases a : (kvs.any fun kv => decide (kv.1 = k)) = true
  · rw [if_pos a, valV_map]
    rw [valV_any] at a
    by_cases e : j = k
    · obtain ⟨x, hx⟩ := Option.isSome_iff_exists.mp a
      rw [if_pos e, e, hx, Option.map_some, if_pos rfl]
    · rw [if_neg e]
      cases valV kvs j with
      | none => rfl
      | some x => rw [Option.map_some, if_neg e]
  · rw [if_neg a]
    refine valV_snoc k j y kvs ?_
    rw [valV_any] at a
    cases q : valV kvs k with
    | none => rfl
    | some x => rw [q] at a; exact (a rfl).elim
theorem length_putK (kvs : List (κ × V)) (k : κ) (v : V) : (putK kvs k v).length ≤ kvs.length + 1 := by
  unfold putK
  split
  · rw [List.length_map]; omega
  · rw [List.length_append, List.length_cons, List.length_nil]; omega
theorem putK_new {kvs : List (κ × V)} {k : κ} (v : V) (h : valV kvs k = none) : putK kvs k v = kvs ++ [(k, v)] := by
  unfold putK
  rw [valV_any, h]
  exact if_neg (by decide)

theorem RelO.isSome_eq {o : Option V} {u : Option Value} (r : RelO o u) : o.isSome = u.isSome := by
  cases o with
  | none => cases u with
    | none => rfl
    | some _ => exact (show False from r).elim
  | some _ => cases u with
    | none => exact (show False from r).elim
    | some _ => rfl
theorem RelO.getD {o : Option V} {u : Option Value} {d : V} {d' : Value} (r : RelO o u) (rd : RelV d d') : RelV (o.getD d) (u.getD d') := by
  cases o with
  | none => cases u with
    | none => exact rd
    | some _ => exact (show False from r).elim
  | some _ => cases u with
    | none => exact (show False from r).elim
    | some _ => exact r

/-- raw tables of the same keys -/
theorem KV.val {kvs : List (κ × V)} {vs : List (κ × Value)} (r : KV kvs vs) (k : κ) : RelO (valV kvs k) (valueAt vs k) := by
  unfold KV at r
  induction r with
  | nil => exact True.intro
  | @cons p q ps qs h t ih =>
    obtain ⟨h1, h2⟩ := h
    by_cases e : p.1 = k
    · have e' : q.1 = k := h1.symm.trans e
      have b : valueAt (q :: qs) k = some q.2 := by simp [valueAt, List.find?_cons, e']
      rw [valV_pos e, b]; exact h2
    · have e' : ¬ q.1 = k := fun z => e (h1.trans z)
      have b : valueAt (q :: qs) k = valueAt qs k := by simp [valueAt, List.find?_cons, e']
      rw [valV_neg e, b]; exact ih
theorem KV.any {kvs : List (κ × V)} {vs : List (κ × Value)} (r : KV kvs vs) (k : κ) : (kvs.any fun kv => decide (kv.1 = k)) = vs.any fun kv => decide (kv.1 = k) := by
  unfold KV at r
  induction r with
  | nil => rfl
  | cons h t ih => rw [List.any_cons, List.any_cons, ih, h.1]
theorem KV.repl {kvs : List (κ × V)} {vs : List (κ × Value)} (r : KV kvs vs) (k : κ) {y : V} {u : Value} (ry : RelV y u) :
    KV (kvs.map fun kv => if kv.1 = k then (kv.1, y) else kv) (vs.map fun kv => if kv.1 = k then (kv.1, u) else kv) := by
  unfold KV at r ⊢
  induction r with
  | nil => exact .nil
  | @cons p q ps qs h t ih =>
    rw [List.map_cons, List.map_cons]
    refine .cons ?_ ih
    obtain ⟨h1, h2⟩ := h
    by_cases e : p.1 = k
    · rw [if_pos e, if_pos (h1.symm.trans e)]; exact ⟨h1, ry⟩
    · rw [if_neg e, if_neg (fun z => e (h1.trans z))]; exact ⟨h1, h2⟩
theorem KV.put {kvs : List (κ × V)} {vs : List (κ × Value)} (r : KV kvs vs) (k : κ) {y : V} {u : Value} (ry : RelV y u) : KV (putK kvs k y) (stored vs k u) := by
  unfold putK stored
  rw [r.any k]
  by_cases e : (vs.any fun kv => decide (kv.1 = k)) = true
  · rw [if_pos e, if_pos e]; exact r.repl k ry
  · rw [if_neg e, if_neg e]; exact Paired.snoc r ⟨rfl, ry⟩
theorem KV.drop {kvs : List (κ × V)} {vs : List (κ × Value)} (r : KV kvs vs) (k : κ) : KV (dropK kvs k) (without vs k) := by
  unfold KV at r ⊢
  unfold dropK without
  induction r with
  | nil => exact .nil
  | @cons p q ps qs h t ih =>
    obtain ⟨h1, h2⟩ := h
    rw [List.filter_cons, List.filter_cons]
    by_cases e : p.1 = k
    · have a : ¬ decide (p.1 ≠ k) = true := by simp [e]
      have b : ¬ decide (q.1 ≠ k) = true := by simp [h1.symm.trans e]
      rw [if_neg a, if_neg b]; exact ih
    · have e' : ¬ q.1 = k := fun z => e (h1.trans z)
      have a : decide (p.1 ≠ k) = true := by simp [e]
      have b : decide (q.1 ≠ k) = true := by simp [e']
      rw [if_pos a, if_pos b]; exact .cons ⟨h1, h2⟩ ih
theorem KV.keys {kvs : List (κ × V)} {vs : List (κ × Value)} (r : KV kvs vs) : kvs.map (·.1) = vs.map (·.1) := by
  unfold KV at r
  induction r with
  | nil => rfl
  | cons h t ih => rw [List.map_cons, List.map_cons, ih, h.1]
theorem KV.length {kvs : List (κ × V)} {vs : List (κ × Value)} (r : KV kvs vs) : kvs.length = vs.length := Paired.length r
theorem dropK_le (kvs : List (κ × V)) (k : κ) : (dropK kvs k).length ≤ kvs.length := List.length_filter_le _ _
end


/-! ### a tracked dict, its keys ints and texts or tuples of these -/
theorem kV_is {P : Program} {w : World} {k : Key} {u : Value} (r : RelV (kV k) u) : (mixKind P w).is k u = true := by
  cases k with
  | inl i => obtain ⟨t, e⟩ := (show ∃ t, u = Value.int i t from r); subst e; exact mixKind_int P w i t
  | inr x => obtain ⟨t, e⟩ := (show ∃ t, u = Value.str x t from r); subst e; exact mixKind_str P w x t
theorem kV_inj {a b : Key} (e : kV a = kV b) : a = b := by
  cases a with
  | inl i => cases b with
    | inl j => have e' : V.int i = V.int j := e; injection e' with e'; rw [e']
    | inr y => exact nomatch (show V.int i = V.str y from e)
  | inr x => cases b with
    | inl j => exact nomatch (show V.str x = V.int j from e)
    | inr y => have e' : V.str x = V.str y := e; injection e' with e'; rw [e']
theorem kVs_inj : ∀ {a b : List Key}, a.map kV = b.map kV → a = b
  | [], [], _ => rfl
  | [], _ :: _, e => by simp at e
  | _ :: _, [], e => by simp at e
  | x :: xs, y :: ys, e => by
    rw [List.map_cons, List.map_cons] at e
    injection e with e1 e2
    rw [kV_inj e1, kVs_inj e2]
theorem items_are {P : Program} {w : World} : ∀ {ks : List Key} {us : List Value}, Vals (ks.map kV) us → ItemsAre (mixKind P w) ks us
  | [], _, r => by rw [List.map_nil] at r; cases r; exact .nil
  | k :: ks, _, r => by
    rw [List.map_cons] at r
    cases r with
    | cons h t => exact .cons (kV_is h) (items_are t)

/-- raw entries of a dict with tuple keys -/
abbrev KT (H : Hp) : List (List Key × V) → List (List Key × Addr × Value) → Prop := Paired fun p q => p.1 = q.1 ∧ H q.2.1 = some (.tup (p.1.map kV)) ∧ RelV p.2 q.2.2
theorem KT.val {H : Hp} {kvs : List (List Key × V)} {xs : List (List Key × Addr × Value)} (r : KT H kvs xs) (k : List Key) : RelO (valV kvs k) ((atKey xs k).map (·.2)) := by
  induction r with
  | nil => exact True.intro
  | @cons p q ps qs h t ih =>
    obtain ⟨h1, _, h2⟩ := h
    by_cases e : p.1 = k
    · have e' : q.1 = k := h1.symm.trans e
      have b : atKey (q :: qs) k = some q.2 := by simp [atKey, List.find?_cons, e']
      rw [valV_pos e, b]; exact h2
    · have e' : ¬ q.1 = k := fun z => e (h1.trans z)
      have b : atKey (q :: qs) k = atKey qs k := by simp [atKey, List.find?_cons, e']
      rw [valV_neg e, b]; exact ih
theorem KT.repl {H : Hp} {kvs : List (List Key × V)} {xs : List (List Key × Addr × Value)} (r : KT H kvs xs) (k : List Key) {y : V} {u : Value} (ry : RelV y u) :
    KT H (kvs.map fun kv => if kv.1 = k then (kv.1, y) else kv) (xs.map (putAt k u)) := by
  induction r with
  | nil => exact .nil
  | @cons p q ps qs h t ih =>
    rw [List.map_cons, List.map_cons]
    refine .cons ?_ ih
    obtain ⟨h1, h2, h3⟩ := h
    unfold putAt
    by_cases e : p.1 = k
    · rw [if_pos e, if_pos (h1.symm.trans e)]; exact ⟨h1, h2, ry⟩
    · rw [if_neg e, if_neg (fun z => e (h1.trans z))]; exact ⟨h1, h2, h3⟩
theorem KT.put {H : Hp} {kvs : List (List Key × V)} {xs : List (List Key × Addr × Value)} (r : KT H kvs xs) (k : List Key) {b : Addr} {y : V} {u : Value} (hb : H b = some (.tup (k.map kV))) (ry : RelV y u) :
    KT H (putK kvs k y) (storedH xs k b u) := by
  have e : (kvs.any fun kv => decide (kv.1 = k)) = (atKey xs k).isSome := by
    rw [valV_any, (r.val k).isSome_eq, Option.isSome_map]
  unfold putK storedH
  rw [e]
  by_cases q : (atKey xs k).isSome = true
  · rw [if_pos q, if_pos q]; exact r.repl k ry
  · rw [if_neg q, if_neg q]; exact Paired.snoc r ⟨rfl, hb, ry⟩
theorem KT.keeps {H H' : Hp} {kvs : List (List Key × V)} {xs : List (List Key × Addr × Value)} (r : KT H kvs xs) (ht : ∀ b ys, H b = some (.tup ys) → H' b = some (.tup ys)) : KT H' kvs xs :=
  Paired.mapP r fun _ _ z => ⟨z.1, ht _ _ z.2.1, z.2.2⟩

section
variable {P : Program} {w : World} {H : Hp} {h : Heap} {a : Addr}
theorem rd_of {u : HO} (ok : HOk P w H h) (e : Rd H a u) : ObjOk P w H h a u := e.ok ok
theorem dk_rd {kvs : List (Key × V)} (ok : HOk P w H h) (e : Rd H a (.dK kvs)) : kvs.length ≤ sizeLine ∧ (a == sysModules) = false ∧ ∃ vs, KV kvs vs ∧ h.DictOf (mixKind P w) a vs :=
  show ObjOk P w H h a (.dK kvs) from rd_of ok e
theorem dk_of {kvs : List (Key × V)} (ok : HOk P w H h) (e : H a = some (.dK kvs)) : kvs.length ≤ sizeLine ∧ (a == sysModules) = false ∧ ∃ vs, KV kvs vs ∧ h.DictOf (mixKind P w) a vs := dk_rd ok (.inl e)
/-- a tracked tuple of ints and texts is a key -/
theorem key_of {ks : List Key} (ok : HOk P w H h) (e : H a = some (.tup (ks.map kV))) : (tupleKind (mixKind P w)).is h ks a := by
  obtain ⟨_, its, r, o, h1, h2, n, h3⟩ := (show ObjOk P w H h a (.tup (ks.map kV)) from ok a _ e)
  exact ⟨o, its.toArray, n, h1, h2, h3, by simpa using items_are r⟩
theorem dt_rd {kvs : List (List Key × V)} (ok : HOk P w H h) (e : Rd H a (.dT kvs)) : kvs.length ≤ sizeLine ∧ (a == sysModules) = false ∧
    ∃ xs, KT H kvs xs ∧ h.DictOfH (tupleKind (mixKind P w)) a xs := by
  obtain ⟨z, y, xs, r, o, es, ep, h1, h2, h3, h4, h5⟩ := (show ObjOk P w H h a (.dT kvs) from rd_of ok e)
  refine ⟨z, y, xs, r, o, es, ep, h1, h2, h3, h4, fun x hx => ?_, h5⟩
  have all : ∀ {l : List (List Key × V)} {m : List (List Key × Addr × Value)}, KT H l m → ∀ x ∈ m, (tupleKind (mixKind P w)).is h x.1 x.2.1 := by
    intro l m q
    induction q with
    | nil => intro x hx; exact nomatch hx
    | @cons p q ps qs hq t ih =>
      intro x hx
      rcases List.mem_cons.mp hx with e | hx
      · subst e
        exact key_of ok (by rw [← hq.1]; exact hq.2.1)
      · exact ih x hx
  exact all r x hx
theorem dt_of {kvs : List (List Key × V)} (ok : HOk P w H h) (e : H a = some (.dT kvs)) : kvs.length ≤ sizeLine ∧ (a == sysModules) = false ∧
    ∃ xs, KT H kvs xs ∧ h.DictOfH (tupleKind (mixKind P w)) a xs := dt_rd ok (.inl e)
end

/-- what the dict at a holds at the key y -/
def DGet (H : Hp) (a : Addr) (y : V) (r : Option V) : Prop :=
  (∃ kvs k, Rd H a (.dK kvs) ∧ y = kV k ∧ r = valV kvs k) ∨ ∃ kvs k b, Rd H a (.dT kvs) ∧ y = .ref b ∧ H b = some (.tup (k.map kV)) ∧ r = valV kvs k
/-- the heap behind a[y] = v -/
def DPut (H : Hp) (a : Addr) (y v : V) (H' : Hp) : Prop :=
  (∃ kvs k, H a = some (.dK kvs) ∧ y = kV k ∧ kvs.length < sizeLine ∧ H' = upd H a (.dK (putK kvs k v))) ∨
  ∃ kvs k b, H a = some (.dT kvs) ∧ y = .ref b ∧ H b = some (.tup (k.map kV)) ∧ kvs.length < sizeLine ∧ H' = upd H a (.dT (putK kvs k v))
theorem DGet.k {H : Hp} {a : Addr} {kvs : List (Key × V)} {k : Key} (e : H a = some (.dK kvs)) : DGet H a (kV k) (valV kvs k) := .inl ⟨kvs, k, .inl e, rfl, rfl⟩
theorem DGet.t {H : Hp} {a b : Addr} {kvs : List (List Key × V)} {k : List Key} (e : H a = some (.dT kvs)) (eb : H b = some (.tup (k.map kV))) : DGet H a (.ref b) (valV kvs k) := .inr ⟨kvs, k, b, .inl e, rfl, eb, rfl⟩
theorem DPut.k {H : Hp} {a : Addr} {kvs : List (Key × V)} {k : Key} {v : V} (e : H a = some (.dK kvs)) (hl : kvs.length < sizeLine) : DPut H a (kV k) v (upd H a (.dK (putK kvs k v))) := .inl ⟨kvs, k, e, rfl, hl, rfl⟩
theorem DPut.t {H : Hp} {a b : Addr} {kvs : List (List Key × V)} {k : List Key} {v : V} (e : H a = some (.dT kvs)) (eb : H b = some (.tup (k.map kV))) (hl : kvs.length < sizeLine) :
    DPut H a (.ref b) v (upd H a (.dT (putK kvs k v))) := .inr ⟨kvs, k, b, e, rfl, eb, hl, rfl⟩


section
variable {X : Cx} {pins : List (Addr × Obj)} {σ : St} {H : Hp} {s : Shared} {a : Addr} {y v : V} {u r : Value} {o : Option V} {A : Around} {E : Value → Shared → Prop}

theorem Inv.big (I : Inv X pins σ H s) : sysModules < s.heap.objs.size := by
  have h : mainGlobals < s.heap.objs.size := (I.mod.glob.keeps I.bk).lt
  exact Nat.lt_trans (by decide) h

/-- d[y], there -/
theorem d_getItem {Q : Value → Shared → Prop} (hu : A.units + 1 < cLine) (I : Inv X pins σ H s) (g : DGet H a y (some v)) (ry : RelV y u) (h : ∀ w' s', Inv X pins σ H s' → RelV v w' → Q w' s') :
    wpAny (model X.prog X.w) A (getItem (.ref a) u) Q E s := by
  rcases g with ⟨kvs, k, e, ey, l⟩ | ⟨kvs, k, b, e, ey, eb, l⟩
  · subst ey
    obtain ⟨z, hd, vs, rel, dd⟩ := dk_rd I.hok e
    obtain ⟨w', hw, rw'⟩ := RelO.some_of (v := v) (o := valueAt vs k) (by rw [l]; exact rel.val k)
    exact wpAny_getItem_of (kV_is ry) dd.mapOf hw (h w' _ (I.tok _) rw')
  · subst ey
    cases (show u = Value.ref b from ry)
    obtain ⟨z, hd, xs, rel, dd⟩ := dt_rd I.hok e
    obtain ⟨w', hw, rw'⟩ := RelO.some_of (v := v) (o := (atKey xs k).map (·.2)) (by rw [l]; exact rel.val k)
    obtain ⟨p, hp, hp2⟩ := Option.map_eq_some_iff.mp hw
    refine wpAny_getItem_heap (tupleKind_room_in1 hu) (key_of I.hok eb) dd hp ?_
    rw [hp2]
    exact h w' _ (I.tok _) rw'
/-- y in d -/
theorem d_in {Q : Value → Shared → Prop} (hu : A.units + 1 < cLine) (I : Inv X pins σ H s) (g : DGet H a y o) (ry : RelV y u) (h : ∀ s', Inv X pins σ H s' → Q (.bool o.isSome) s') :
    wpAny (model X.prog X.w) A (compareOp .In u (.ref a)) Q E s := by
  rcases g with ⟨kvs, k, e, ey, l⟩ | ⟨kvs, k, b, e, ey, eb, l⟩
  · subst ey
    obtain ⟨z, hd, vs, rel, dd⟩ := dk_rd I.hok e
    refine wpAny_in_of (kV_is ry) hd dd.mapOf ?_
    rw [← (rel.val k).isSome_eq, ← l]
    exact h _ (I.tok _)
  · subst ey
    cases (show u = Value.ref b from ry)
    obtain ⟨z, hd, xs, rel, dd⟩ := dt_rd I.hok e
    refine wpAny_in_heap (tupleKind_room_in1 hu) (key_of I.hok eb) hd dd ?_
    have q := (rel.val k).isSome_eq
    rw [Option.isSome_map] at q
    rw [← q, ← l]
    exact h _ (I.tok _)
theorem d_notIn {Q : Value → Shared → Prop} (hu : A.units + 1 < cLine) (I : Inv X pins σ H s) (g : DGet H a y o) (ry : RelV y u) (h : ∀ s', Inv X pins σ H s' → Q (.bool (!o.isSome)) s') :
    wpAny (model X.prog X.w) A (compareOp .NotIn u (.ref a)) Q E s := by
  rcases g with ⟨kvs, k, e, ey, l⟩ | ⟨kvs, k, b, e, ey, eb, l⟩
  · subst ey
    obtain ⟨z, hd, vs, rel, dd⟩ := dk_rd I.hok e
    refine wpAny_notIn_of (kV_is ry) hd dd.mapOf ?_
    rw [← (rel.val k).isSome_eq, ← l]
    exact h _ (I.tok _)
  · subst ey
    cases (show u = Value.ref b from ry)
    obtain ⟨z, hd, xs, rel, dd⟩ := dt_rd I.hok e
    refine wpAny_notIn_heap (tupleKind_room_in1 hu) (key_of I.hok eb) hd dd ?_
    have q := (rel.val k).isSome_eq
    rw [Option.isSome_map] at q
    rw [← q, ← l]
    exact h _ (I.tok _)
/-- a dict's object is replaced -/
theorem d_write {h' : Heap} {t' : Nat} {ob : HO} (I : Inv X pins σ H s) (mu : Mut (H a)) (hs : Heap.SameBut a s.heap h') (he : ∃ q, h'.get? a = some q) (new : ObjOk X.prog X.w (upd H a ob) h' a ob) :
    Inv X pins σ (upd H a ob) { s with heap := h', toks := t' } :=
  I.write (x := a) (e := a) mu (.inl rfl) (fun b q hb z => (hs.2 b hb).trans z) he new
theorem dk_new {P : Program} {w : World} {H' : Hp} {h' : Heap} {kvs : List (Key × V)} {vs : List (Key × Value)} (z : kvs.length ≤ sizeLine) (hd : (a == sysModules) = false) (rel : KV kvs vs) (dd : h'.DictOf (mixKind P w) a vs) :
    ObjOk P w H' h' a (.dK kvs) := ⟨z, hd, vs, rel, dd⟩
/-- d[y] = v -/
theorem d_setItem {H' : Hp} {Q : Unit → Shared → Prop} (hu : A.units + 1 < cLine) (I : Inv X pins σ H s) (g : DPut H a y v H') (ry : RelV y u) (rv : RelV v r) (h : ∀ s', Inv X pins σ H' s' → Q () s') :
    wpAny (model X.prog X.w) A (setItem (.ref a) u r) Q E s := by
  rcases g with ⟨kvs, k, e, ey, l, eH⟩ | ⟨kvs, k, b, e, ey, eb, l, eH⟩
  · subst ey eH
    obtain ⟨z, hd, vs, rel, dd⟩ := dk_of I.hok e
    have hz : vs.length ≤ sizeLine := by rw [← rel.length]; exact z
    have hl : (putK kvs k v).length ≤ sizeLine := by have := length_putK kvs k v; omega
    refine wpAny_setItem_pairs (hsz := hz) (kV_is ry) dd fun h' dd' hs => h _ ?_
    have he : ∃ q, h'.get? a = some q := let ⟨q, _, _, hq, _⟩ := dd'; ⟨q, hq⟩
    exact d_write I (by rw [e]; exact True.intro) hs he (dk_new hl hd (rel.put k rv) dd')
  · subst ey eH
    cases (show u = Value.ref b from ry)
    obtain ⟨z, hd, xs, rel, dd⟩ := dt_of I.hok e
    have hz : xs.length ≤ sizeLine := by rw [← Paired.length rel]; exact z
    have hl : (putK kvs k v).length ≤ sizeLine := by have := length_putK kvs k v; omega
    refine wpAny_setItem_heap (hsz := hz) (tupleKind_room_in1 hu) (key_of I.hok eb) dd fun h' dd' hs => h _ ?_
    obtain ⟨q, es, ep, hq, h2, h3, h4, _, h5⟩ := dd'
    refine d_write I (by rw [e]; exact True.intro) hs ⟨q, hq⟩ ⟨hl, hd, _, (rel.put k eb rv).keeps fun c ys ec => ?_, q, es, ep, hq, h2, h3, h4, h5⟩
    rw [upd_ne (ne_of ec e (fun z => nomatch z))]
    exact ec
end

section
variable {X : Cx} {pins : List (Addr × Obj)} {σ : St} {H : Hp} {s : Shared} {a : Addr} {kvs : List (Key × V)} {k : Key} {u : Value} {A : Around} {E : Value → Shared → Prop}
/-- del d[k] -/
theorem d_delItem {Q : Unit → Shared → Prop} (I : Inv X pins σ H s) (e : H a = some (.dK kvs)) (ry : RelV (kV k) u) (l : (valV kvs k).isSome = true) (h : ∀ s', Inv X pins σ (upd H a (.dK (dropK kvs k))) s' → Q () s') :
    wpAny (model X.prog X.w) A (delItem (.ref a) u) Q E s := by
  obtain ⟨z, hd, vs, rel, dd⟩ := dk_of I.hok e
  refine wpAny_delItem_slot dd.typeIs (by decide) PySem.F.slot_dict_delitem
    (call_meetsIn PySem.F.slot_dict_delitem dd.typeIs PySem.F.entry_dict_delitem (PySem.F.args_dict_delitem_2 _ _) (meets_dict_delitem_pairs (mixKind X.prog X.w) a (kV_is ry)) ⟨vs, dd, by rw [← rel.length]; exact z, by rw [← (rel.val k).isSome_eq]; exact l, fun h' dd' hs => h _ ?_⟩)
  have he : ∃ q, h'.get? a = some q := let ⟨q, _, _, hq, _⟩ := dd'; ⟨q, hq⟩
  exact d_write I (by rw [e]; exact True.intro) hs he (dk_new (Nat.le_trans (dropK_le kvs k) z) hd (rel.drop k) dd')
/-- d.pop(k[, x]), there -/
theorem d_pop {v : V} {more : List Value} {Q : Value → Shared → Prop} (I : Inv X pins σ H s) (e : H a = some (.dK kvs)) (ry : RelV (kV k) u) (l : valV kvs k = some v) (hm : more = [] ∨ ∃ x, more = [x])
    (h : ∀ w' s', Inv X pins σ (upd H a (.dK (dropK kvs k))) s' → RelV v w' → Q w' s') : wpAny (model X.prog X.w) A (call (.builtin "dict.pop") (.ref a :: u :: more)) Q E s := by
  obtain ⟨z, hd, vs, rel, dd⟩ := dk_of I.hok e
  obtain ⟨w', hw, rw'⟩ := RelO.some_of (v := v) (o := valueAt vs k) (by rw [← l]; exact rel.val k)
  have hp : (keyPart u).isSome = true := by
    cases k with
    | inl i => obtain ⟨t, q⟩ := (show ∃ t, u = Value.int i t from ry); subst q; rfl
    | inr x => obtain ⟨t, q⟩ := (show ∃ t, u = Value.str x t from ry); subst q; rfl
  have ha : argsOk "dict.pop" ⟨.ref a :: u :: more, []⟩ := by
    rcases hm with q | ⟨x, q⟩
    · subst q; exact PySem.F.args_dict_pop_2 _ _
    · subst q; exact PySem.F.args_dict_pop_3 _ _ _
  refine call_meetsIn PySem.F.slot_dict_pop dd.typeIs PySem.F.entry_dict_pop ha (meets_dict_pop_there (mixKind X.prog X.w) a (kV_is ry) more hm hp)
    ⟨vs, w', dd, by rw [← rel.length]; exact z, hw, fun h' dd' hs => h w' _ ?_ rw'⟩
  have he : ∃ q, h'.get? a = some q := let ⟨q, _, _, hq, _⟩ := dd'; ⟨q, hq⟩
  exact d_write I (by rw [e]; exact True.intro) hs he (dk_new (Nat.le_trans (dropK_le kvs k) z) hd (rel.drop k) dd')
/-- d.pop(k, x), not there -/
theorem d_popD {r : Value} {Q : Value → Shared → Prop} (I : Inv X pins σ H s) (e : H a = some (.dK kvs)) (ry : RelV (kV k) u) (l : valV kvs k = none) (h : ∀ s', Inv X pins σ H s' → Q r s') :
    wpAny (model X.prog X.w) A (call (.builtin "dict.pop") [.ref a, u, r]) Q E s := by
  obtain ⟨z, hd, vs, rel, dd⟩ := dk_of I.hok e
  have hn : valueAt vs k = none := RelO.none_of (by rw [← l]; exact rel.val k)
  have hp : (keyPart u).isSome = true := by
    cases k with
    | inl i => obtain ⟨t, q⟩ := (show ∃ t, u = Value.int i t from ry); subst q; rfl
    | inr x => obtain ⟨t, q⟩ := (show ∃ t, u = Value.str x t from ry); subst q; rfl
  exact call_meetsIn PySem.F.slot_dict_pop dd.typeIs PySem.F.entry_dict_pop (PySem.F.args_dict_pop_3 _ _ _) (meets_dict_pop_default (mixKind X.prog X.w) a (kV_is ry) hd hp r) ⟨vs, dd, hn, h _ (I.tok _)⟩
/-- d.clear() -/
theorem d_clear {Q : Value → Shared → Prop} (I : Inv X pins σ H s) (e : H a = some (.dK kvs)) (h : ∀ s', Inv X pins σ (upd H a (.dK [])) s' → Q .none s') : wpAny (model X.prog X.w) A (call (.builtin "dict.clear") [.ref a]) Q E s := by
  obtain ⟨z, hd, vs, rel, dd⟩ := dk_of I.hok e
  refine call_meetsIn PySem.F.slot_dict_clear dd.typeIs PySem.F.entry_dict_clear (PySem.F.args_dict_clear_1 _) (meets_dict_clear (mixKind X.prog X.w) a) ⟨vs, dd, by rw [← rel.length]; exact z, fun h' dd' hs => h _ ?_⟩
  have he : ∃ q, h'.get? a = some q := let ⟨q, _, _, hq, _⟩ := dd'; ⟨q, hq⟩
  exact d_write (t' := s.toks) I (by rw [e]; exact True.intro) hs he (dk_new (Nat.zero_le _) hd .nil dd')
/-- len(d) -/
theorem d_len {Q : Value → Shared → Prop} (I : Inv X pins σ H s) (e : Rd H a (.dK kvs)) (h : ∀ t s', Inv X pins σ H s' → Q (.int kvs.length t) s') : wpAny (model X.prog X.w) A (call (.builtin "len") [.ref a]) Q E s := by
  obtain ⟨z, hd, vs, rel, dd⟩ := dk_rd I.hok e
  refine call_len_dict hd dd (by rw [← rel.length]; rw [sizeLine_eq] at z; omega) ?_
  rw [← rel.length]
  exact h _ _ (I.tok _)
/-- if d -/
theorem d_truth {Q : Bool → Shared → Prop} (I : Inv X pins σ H s) (e : Rd H a (.dK kvs)) (h : ∀ s', Inv X pins σ H s' → Q (!kvs.isEmpty) s') : wpAny (model X.prog X.w) A (truthy (.ref a)) Q E s := by
  obtain ⟨z, hd, vs, rel, dd⟩ := dk_rd I.hok e
  refine wpAny_truthy_dict hd dd (by rw [← rel.length]; rw [sizeLine_eq] at z; omega) ?_
  have q : kvs.isEmpty = vs.isEmpty := by cases rel <;> rfl
  rw [← q]
  exact h _ (I.tok _)
end


/-! ### readings and rules -/
/-- the element of a subscription, not a slice -/
def NoSl (i : Expr) : Prop := ∀ ov iv, subscripted i false ov iv = operate [ov, iv] (getItem ov iv)
theorem subD_of {prog : Program} {w : World} {A : Around} {E : Value → Shared → Prop} {s : Shared} {env : Env} {value slice : Expr} {pos : Pos} {T id : String} {Q : Value → Shared → Prop}
    (hl : typeLookup (.type T) "__getitem__" = pure (some (.builtin id))) (hs : NoSl slice)
    (h : wpAny (model prog w) A (eval value env) (fun o s₁ => wpAny (model prog w) A (eval slice env) (fun i s₂ => s₂.TypeIs o T ∧ wpAny (model prog w) A (getItem o i) Q E s₂) E s₁) E s) :
    wpAny (model prog w) A (eval (.Subscript value slice pos) env) Q E s := by
  refine Subscript_ (wpAny_mono h (fun o s₁ h₁ => wpAny_mono h₁ (fun i s₂ h₂ => ?_) fun _ _ x => x) fun _ _ x => x)
  obtain ⟨hT, h₂⟩ := h₂
  unfold subscriptTail
  refine wpAny_bind ?_
  rw [getitemInPython_of_ne hT.not_modules]
  refine wpAny_bind (wpAny_specialOf hT hl ?_)
  have fin : wpAny (model prog w) A (subscripted slice false o i) (fun r s₃ => wpAny (model prog w) A (letTemporaryGo value o r >>= fun _ => pure r) Q E s₃) E s₂ := by
    rw [hs o i]
    exact wpAny_operating (wpAny_mono h₂ (fun r s₃ h₃ => wpAny_bind (wpAny_letTemporaryGo (wpAny_pure h₃))) fun _ _ x => x)
  first
    | exact wpAny_pure (wpAny_bind fin)
    | exact wpAny_bind (wpAny_pure (wpAny_bind fin))
    | exact wpAny_bind fin

theorem dict_typeIs {X : Cx} {pins : List (Addr × Obj)} {σ : St} {H : Hp} {s : Shared} {a : Addr} {y : V} {o : Option V} (I : Inv X pins σ H s) (g : DGet H a y o) : s.TypeIs (.ref a) "dict" := by
  rcases g with ⟨kvs, k, e, _, _⟩ | ⟨kvs, k, b, e, _, _, _⟩
  · obtain ⟨_, _, vs, _, dd⟩ := dk_rd I.hok e
    exact dd.typeIs
  · obtain ⟨_, _, xs, _, dd⟩ := dt_rd I.hok e
    exact dd.typeIs
theorem dict_noDict {X : Cx} {pins : List (Addr × Obj)} {σ : St} {H : Hp} {s : Shared} {a : Addr} {y : V} {o : Option V} (I : Inv X pins σ H s) (g : DGet H a y o) :
    ∀ b, Value.ref a = .ref b → ∃ ob, s.heap.get? b = some ob ∧ ob.dict = none := fun b q => by
  cases q
  rcases g with ⟨kvs, k, e, _, _⟩ | ⟨kvs, k, b, e, _, _, _⟩
  · obtain ⟨_, _, vs, _, ob, _, _, h1, h2, _⟩ := dk_rd I.hok e
    exact ⟨ob, h1, h2.2.1⟩
  · obtain ⟨_, _, xs, _, ob, _, _, h1, h2, _⟩ := dt_rd I.hok e
    exact ⟨ob, h1, h2.2.1⟩

/-- d[y] -/
def tDGet (td ty : TE) : TE := fun σ H Q => td σ H fun x H1 => ty σ H1 fun y H2 => ∃ a v, x = .ref a ∧ DGet H2 a y (some v) ∧ Q v H2
/-- y in d, y not in d -/
def tDIn (ty td : TE) : TE := fun σ H Q => ty σ H fun y H1 => td σ H1 fun x H2 => ∃ a o, x = .ref a ∧ DGet H2 a y o ∧ Q (.bl o.isSome) H2
def tDNotIn (ty td : TE) : TE := fun σ H Q => ty σ H fun y H1 => td σ H1 fun x H2 => ∃ a o, x = .ref a ∧ DGet H2 a y o ∧ Q (.bl (!o.isSome)) H2
/-- d[y] = v -/
def sDPut (td ty tv : TE) : TS := fun D σ H => tv σ H fun v H1 => td σ H1 fun x H2 => ty σ H2 fun y H3 => ∃ a H4, x = .ref a ∧ DPut H3 a y v H4 ∧ D.nx σ H4
/-- d[y] op= v -/
def sDAug (td ty tv : TE) (rd : V → V → Hp → VK → Prop) : TS := fun D σ H => td σ H fun x H1 => ty σ H1 fun y H2 => ∃ a v, x = .ref a ∧ DGet H2 a y (some v) ∧
  tv σ H2 fun y2 H3 => rd v y2 H3 fun z H4 => ∃ H5, DPut H4 a y z H5 ∧ D.nx σ H5
/-- del d[y] -/
def sDDel (td ty : TE) : TS := fun D σ H => td σ H fun x H1 => ty σ H1 fun y H2 => ∃ a kvs k, x = .ref a ∧ H2 a = some (.dK kvs) ∧ y = kV k ∧ (valV kvs k).isSome = true ∧ D.nx σ (upd H2 a (.dK (dropK kvs k)))

section
variable {X : Cx} {o i e value : Expr} {pos pos' tpos : Pos} {td ty tv : TE}
theorem pe_dget (hu : X.A.units + 1 < cLine) (ho : PE X o td) (hi : PE X i ty) (hs : NoSl i) : PE X (.Subscript o i pos) (tDGet td ty) := by
  intro pins s σ H Q I h
  refine subD_of PySem.F.slot_dict_getitem.lookup hs (thn (ho pins s σ H _ I h) fun u s1 ⟨x, H1, I1, rx, q1⟩ => thn (hi pins s1 σ H1 _ I1 q1) fun iv s2 ⟨y, H2, I2, ry, a, v, ex, g, q2⟩ => ?_)
  subst ex
  obtain rfl : u = Value.ref a := rx
  exact ⟨dict_typeIs I2 g, d_getItem hu I2 g ry fun w' s3 I3 rw' => ⟨v, H2, I3, rw', q2⟩⟩
theorem pc_din (hu : X.A.units + 1 < cLine) (hi : PE X i ty) (ho : PE X o td) : PC X .In i o (tDIn ty td) := by
  intro pins s σ H Q I h
  refine thn (hi pins s σ H _ I h) fun iv s1 ⟨y, H1, I1, ry, q1⟩ => thn (ho pins s1 σ H1 _ I1 q1) fun u s2 ⟨x, H2, I2, rx, a, ov, ex, g, q2⟩ => ?_
  subst ex
  obtain rfl : u = Value.ref a := rx
  exact d_in hu I2 g ry fun s3 I3 => ⟨.bl ov.isSome, H2, I3, rfl, q2⟩
theorem pc_dnotin (hu : X.A.units + 1 < cLine) (hi : PE X i ty) (ho : PE X o td) : PC X .NotIn i o (tDNotIn ty td) := by
  intro pins s σ H Q I h
  refine thn (hi pins s σ H _ I h) fun iv s1 ⟨y, H1, I1, ry, q1⟩ => thn (ho pins s1 σ H1 _ I1 q1) fun u s2 ⟨x, H2, I2, rx, a, ov, ex, g, q2⟩ => ?_
  subst ex
  obtain rfl : u = Value.ref a := rx
  exact d_notIn hu I2 g ry fun s3 I3 => ⟨.bl (!ov.isSome), H2, I3, rfl, q2⟩
theorem ps_dput (hu : X.A.units + 1 < cLine) (ho : PE X o td) (hi : PE X i ty) (hv : PE X value tv) (hs : swapsWith value (some (.Subscript o i pos')) pos.line X.env = pure false) :
    PS X (.Assign [.Subscript o i pos'] value pos) (sDPut td ty tv) := by
  intro pins s σ H D I h
  refine wpAny_Assign_Subscript (thn (hv pins s σ H _ I h) fun r s1 ⟨v, H1, I1, rv, q1⟩ => thn (ho pins s1 σ H1 _ I1 q1) fun u s2 ⟨x, H2, I2, rx, q2⟩ => thn (hi pins s2 σ H2 _ I2 q2) fun iv s3 ⟨y, H3, I3, ry, a, H4, ex, g, q3⟩ => ?_) hs
  subst ex
  obtain rfl : u = Value.ref a := rx
  exact d_setItem hu I3 g ry rv fun s4 I4 => ⟨σ, H4, I4, q3⟩
theorem ps_daug {op : Operator} {rd : V → V → Hp → VK → Prop} (hu : X.A.units + 1 < cLine) (ho : PE X o td) (hi : PE X i ty) (hv : PE X value tv) (hop : InOp X op rd)
    (ha : ∀ ov iv new, augStore i ov iv new = (do holding [new, ov, iv] (setItem ov iv new); release [new, ov, iv] []; pure .next)) : PS X (.AugAssign (.Subscript o i tpos) op value pos) (sDAug td ty tv rd) := by
  intro pins s σ H D I h
  refine wpAny_AugAssign_SubscriptAny (thn (ho pins s σ H _ I h) fun u s1 ⟨x, H1, I1, rx, q1⟩ => thn (hi pins s1 σ H1 _ I1 q1) fun iv s2 ⟨y, H2, I2, ry, a, v, ex, g, q2⟩ => ?_) ha
  subst ex
  obtain rfl : u = Value.ref a := rx
  refine d_getItem hu I2 g ry fun w' s3 I3 rw' => thn (hv pins s3 σ H2 _ I3 q2) fun w2 s4 ⟨y2, H3, I4, ry2, q3⟩ => thn (hop pins s4 σ H3 v y2 w' w2 _ I4 rw' ry2 q3) fun w3 s5 ⟨z, H4, I5, rz, H5, g5, q4⟩ => ?_
  exact d_setItem hu I5 g5 ry rz fun s6 I6 => ⟨σ, H5, I6, q4⟩
theorem ps_ddel (ho : PE X o td) (hi : PE X i ty) : PS X (.Delete [.Subscript o i tpos] pos) (sDDel td ty) := by
  intro pins s σ H D I h
  refine wpAny_Delete (wpAny_deleteEach_cons (wpAny_delete_Subscript (thn (ho pins s σ H _ I h) fun u s1 ⟨x, H1, I1, rx, q1⟩ => thn (hi pins s1 σ H1 _ I1 q1) fun iv s2 ⟨y, H2, I2, ry, a, kvs, k, ex, e, ey, l, q2⟩ => ?_)))
  subst ex ey
  obtain rfl : u = Value.ref a := rx
  exact d_delItem I2 e ry l fun s3 I3 => wpAny_deleteEach_nil ⟨σ, _, I3, q2⟩
end


/-! ### displays -/
theorem dk_empty {P : Program} {w : World} {H : Hp} (h : Heap) (hb : sysModules < h.objs.size) : ObjOk P w H (h.push { cls := .type "dict", data := .dict #[] }) h.objs.size (.dK []) :=
  ⟨Nat.zero_le _, beq_eq_false_iff_ne.mpr (Ne.symm (Nat.ne_of_lt hb)), [], .nil, Heap.DictOf.new h⟩
theorem dt_empty {P : Program} {w : World} {H : Hp} (h : Heap) (hb : sysModules < h.objs.size) : ObjOk P w H (h.push { cls := .type "dict", data := .dict #[] }) h.objs.size (.dT []) :=
  ⟨Nat.zero_le _, beq_eq_false_iff_ne.mpr (Ne.symm (Nat.ne_of_lt hb)), [], .nil, _, #[], 0, Heap.get?_push_size _ rfl, ⟨rfl, rfl, rfl⟩, rfl, rfl, List.nodup_nil⟩
/-- {}, to be a dict of the kind that is wanted -/
def tDNewK : TE := fun _ H Q => ∀ p, H p = none → Q (.ref p) (upd H p (.dK []))
def tDNewT : TE := fun _ H Q => ∀ p, H p = none → Q (.ref p) (upd H p (.dT []))
section
variable {X : Cx} {pos : Pos}
theorem pe_dnewK : PE X (.Dict [] [] pos) tDNewK := fun pins s σ H Q I h =>
  wpAny_Dict_empty ⟨.ref s.heap.objs.size, _, I.laid (a := s.heap.objs.size) (o := .dK []) (t' := s.toks) (fun _ _ q => Heap.get?_push_of_some _ q) (Nat.le_refl _) (dk_empty s.heap I.big), rfl, h _ (I.hok.fresh (Nat.le_refl _))⟩
theorem pe_dnewT : PE X (.Dict [] [] pos) tDNewT := fun pins s σ H Q I h =>
  wpAny_Dict_empty ⟨.ref s.heap.objs.size, _, I.laid (a := s.heap.objs.size) (o := .dT []) (t' := s.toks) (fun _ _ q => Heap.get?_push_of_some _ q) (Nat.le_refl _) (dt_empty s.heap I.big), rfl, h _ (I.hok.fresh (Nat.le_refl _))⟩
end

/-- the pairs of a display, from the left -/
def tPairs : List (TE × TE) → St → Hp → (List (V × V) → Hp → Prop) → Prop
  | [], _, H, Q => Q [] H
  | (tk, tv) :: r, σ, H, Q => tk σ H fun x H1 => tv σ H1 fun y H2 => tPairs r σ H2 fun ps H3 => Q ((x, y) :: ps) H3
abbrev VV : List (V × V) → List (Value × Value) → Prop := Paired fun p q => RelV p.1 q.1 ∧ RelV p.2 q.2
def PPs (X : Cx) (pos : Pos) (keys : List (Option Expr)) (values : List Expr) (trs : List (TE × TE)) : Prop :=
  ∀ (pins : List (Addr × Obj)) (s : Shared) (σ : St) (H : Hp) (Q : List (V × V) → Hp → Prop), Inv X pins σ H s → tPairs trs σ H Q →
    wpAny (model X.prog X.w) X.A (evalPairs (pairTrees keys values X.env pos)) (fun vs s' => ∃ ps H', Inv X pins σ H' s' ∧ VV ps vs ∧ Q ps H') X.xe s
theorem pps_nil {X : Cx} {pos : Pos} : PPs X pos [] [] [] := fun pins s σ H Q I h => pairTrees_nil_walk ⟨[], H, I, .nil, h⟩
theorem pps_cons {X : Cx} {pos : Pos} {k v : Expr} {ks : List (Option Expr)} {vs : List Expr} {tk tv : TE} {trs : List (TE × TE)} (hk : PE X k tk) (hv : PE X v tv) (hr : PPs X pos ks vs trs) :
    PPs X pos (some k :: ks) (v :: vs) ((tk, tv) :: trs) := fun pins s σ H Q I h =>
  pairTrees_cons_walk (thn (hk pins s σ H _ I h) fun u s1 ⟨x, H1, I1, rx, q1⟩ => thn (hv pins s1 σ H1 _ I1 q1) fun w2 s2 ⟨y, H2, I2, ry, q2⟩ =>
    thn (hr pins s2 σ H2 _ I2 q2) fun ws s3 ⟨ps, H3, I3, rel, q3⟩ => ⟨(x, y) :: ps, H3, I3, .cons ⟨rx, ry⟩ rel, q3⟩)

def mergeK (kvs more : List (Key × V)) : List (Key × V) := more.foldl (fun acc kv => putK acc kv.1 kv.2) kvs
theorem KV.merge : ∀ {more : List (Key × V)} {rs : List (Key × Value)} {kvs : List (Key × V)} {vs : List (Key × Value)}, KV more rs → KV kvs vs → KV (mergeK kvs more) (merged vs rs) := by
  intro more rs kvs vs r
  unfold KV at r
  induction r generalizing kvs vs with
  | nil => intro q; exact q
  | @cons p q ps qs h t ih =>
    intro r0
    have e : KV (putK kvs p.1 p.2) (stored vs q.1 q.2) := by
      have := r0.put p.1 h.2
      rw [← h.1]; exact this
    exact ih e
theorem length_mergeK : ∀ (more kvs : List (Key × V)), (mergeK kvs more).length ≤ kvs.length + more.length
  | [], kvs => by show kvs.length ≤ kvs.length + 0; omega
  | p :: r, kvs => by
    have h1 := length_mergeK r (putK kvs p.1 p.2)
    have h2 := length_putK kvs p.1 p.2
    show (mergeK (putK kvs p.1 p.2) r).length ≤ _
    rw [List.length_cons]; omega
theorem carries_of {P : Program} {w : World} : ∀ {kvs : List (Key × V)} {ws : List (Value × Value)}, VV (kvs.map fun kv => (kV kv.1, kv.2)) ws → ∃ rs, Carries (mixKind P w) ws rs ∧ KV kvs rs
  | [], _, r => by rw [List.map_nil] at r; cases r; exact ⟨[], True.intro, .nil⟩
  | p :: kvs, _, r => by
    rw [List.map_cons] at r
    cases r with
    | @cons a b as bs h t =>
      obtain ⟨rs, c, q⟩ := carries_of (P := P) (w := w) t
      obtain ⟨b1, b2⟩ := b
      exact ⟨(p.1, b2) :: rs, ⟨kV_is h.1, rfl, c⟩, .cons ⟨rfl, h.2⟩ q⟩
/-- {k: v, ..} with keys ints and texts; the new dict stands empty while the pairs are made -/
def tDisp (trs : List (TE × TE)) : TE := fun σ H Q => ∀ p, H p = none → tPairs trs σ (upd H p (.dK [])) fun ps H2 => H2 p = some (.dK []) ∧ ∃ kvs : List (Key × V), ps = kvs.map (fun kv => (kV kv.1, kv.2)) ∧ kvs.length ≤ 15 ∧ Q (.ref p) (upd H2 p (.dK (mergeK [] kvs)))
theorem pe_disp {X : Cx} {pos : Pos} {keys : List (Option Expr)} {values : List Expr} {trs : List (TE × TE)} (h : PPs X pos keys values trs) (hall : keys.all (·.isSome) = true) (hl : keys.length = values.length) (h0 : keys ≠ [])
    (h15 : keys.length ≤ 15) : PE X (.Dict keys values pos) (tDisp trs) := by
  intro pins s σ H Q I q
  have hn := I.hok.fresh (Nat.le_refl s.heap.objs.size)
  have I1 := I.laid (a := s.heap.objs.size) (o := .dK []) (h' := s.heap.push { cls := .type "dict", data := .dict #[] }) (t' := s.toks) (fun _ _ q => Heap.get?_push_of_some _ q) (Nat.le_refl _) (dk_empty s.heap I.big)
  refine wpAny_Dict_walk (knd := mixKind X.prog X.w) hall hl h0 h15 (thn (h pins _ σ _ _ I1 (q _ hn)) fun ws s2 ⟨ps, H2, I2, rel, e, kvs, ep, lk, q2⟩ => ?_)
  subst ep
  obtain ⟨rs, c, rk⟩ := carries_of (P := X.prog) (w := X.w) rel
  obtain ⟨z, hd, vs0, r0, dd⟩ := dk_of I2.hok e
  cases r0
  refine ⟨rs, c, dd, fun h' dd' hs => ⟨.ref s.heap.objs.size, _, ?_, rfl, q2⟩⟩
  have hz : (mergeK [] kvs).length ≤ sizeLine := by
    have h1 := length_mergeK kvs []
    rw [List.length_nil] at h1
    rw [sizeLine_eq]; omega
  have he : ∃ q, h'.get? s.heap.objs.size = some q := let ⟨q, _, _, hq, _⟩ := dd'; ⟨q, hq⟩
  exact d_write I2 (by rw [e]; exact True.intro) hs he (dk_new hz hd (rk.merge .nil) dd')


/-! ### methods -/
/-- a method call o.m(e) of a built-in, with one argument: what must be seen of the text -/
structure M1 (X : Cx) (o : Expr) (m : Str) (apos : Pos) (e : Expr) (cpos : Pos) : Prop where
  base : attributeBase o m X.env (eval o X.env) = eval o X.env
  few : ((backTo cpos (starEach [e] X.env)).all (fun x => !x.1) && (backToKw cpos (keywordEach [] X.env)).all (fun x => x.1.isSome)
    && decide (([e] : List Expr).length + ([] : List Keyword).length + (if ([] : List Keyword).isEmpty then 0 else 1) < 30)) = true
  line : (apos.endLine == cpos.line) = true
  trees : backTo cpos (starEach [e] X.env) = [(false, eval e X.env)]
structure M2 (X : Cx) (o : Expr) (m : Str) (apos : Pos) (e f : Expr) (cpos : Pos) : Prop where
  base : attributeBase o m X.env (eval o X.env) = eval o X.env
  few : ((backTo cpos (starEach [e, f] X.env)).all (fun x => !x.1) && (backToKw cpos (keywordEach [] X.env)).all (fun x => x.1.isSome)
    && decide (([e, f] : List Expr).length + ([] : List Keyword).length + (if ([] : List Keyword).isEmpty then 0 else 1) < 30)) = true
  line : (apos.endLine == cpos.line) = true
  trees : backTo cpos (starEach [e, f] X.env) = [(false, eval e X.env), (false, eval f X.env)]

/-- a is a dict, whatever its keys -/
def IsD (H : Hp) (a : Addr) : Prop := (∃ kvs, Rd H a (.dK kvs)) ∨ ∃ kvs, Rd H a (.dT kvs)
theorem isD_at {X : Cx} {pins : List (Addr × Obj)} {σ : St} {H : Hp} {s : Shared} {a : Addr} (I : Inv X pins σ H s) (d : IsD H a) :
    s.TypeIs (.ref a) "dict" ∧ (∀ b, Value.ref a = .ref b → ∃ ob, s.heap.get? b = some ob ∧ ob.dict = none) ∧ (a == sysModules) = false := by
  rcases d with ⟨kvs, e⟩ | ⟨kvs, e⟩
  · obtain ⟨_, hd, vs, _, dd⟩ := dk_rd I.hok e
    refine ⟨dd.typeIs, fun b q => ?_, hd⟩
    cases q
    obtain ⟨ob, _, _, h1, h2, _⟩ := dd
    exact ⟨ob, h1, h2.2.1⟩
  · obtain ⟨_, hd, xs, _, dd⟩ := dt_rd I.hok e
    refine ⟨dd.typeIs, fun b q => ?_, hd⟩
    cases q
    obtain ⟨ob, _, _, h1, h2, _⟩ := dd
    exact ⟨ob, h1, h2.2.1⟩

section
variable {X : Cx} {pins : List (Addr × Obj)} {σ : St} {H : Hp} {s : Shared} {a : Addr} {y d : V} {u r : Value} {o : Option V} {A : Around} {E : Value → Shared → Prop}
/-- d.get(y) -/
theorem d_get1 {Q : Value → Shared → Prop} (hu : A.units + 1 < cLine) (I : Inv X pins σ H s) (g : DGet H a y o) (ry : RelV y u) (h : ∀ w' s', Inv X pins σ H s' → RelV (o.getD .non) w' → Q w' s') :
    wpAny (model X.prog X.w) A (call (.builtin "dict.get") [.ref a, u]) Q E s := by
  rcases g with ⟨kvs, k, e, ey, l⟩ | ⟨kvs, k, b, e, ey, eb, l⟩
  · subst ey
    obtain ⟨z, hd, vs, rel, dd⟩ := dk_rd I.hok e
    refine call_meetsIn PySem.F.slot_dict_get dd.typeIs PySem.F.entry_dict_get (PySem.F.args_dict_get_2 _ _) (meets_dict_get (mixKind X.prog X.w) a (kV_is ry) hd) ⟨_, dd.mapOf, h _ _ (I.tok _) ?_⟩
    rw [l]
    exact (rel.val k).getD rfl
  · subst ey
    cases (show u = Value.ref b from ry)
    obtain ⟨z, hd, xs, rel, dd⟩ := dt_rd I.hok e
    refine call_meetsIn PySem.F.slot_dict_get dd.typeIs PySem.F.entry_dict_get (PySem.F.args_dict_get_2 _ _) (meetsH_dict_get (tupleKind (mixKind X.prog X.w)) a b hd) ⟨tupleKind_room_in1 hu, k, xs, key_of I.hok eb, dd, h _ _ (I.tok _) ?_⟩
    rw [l]
    exact (rel.val k).getD rfl
/-- d.get(y, x) -/
theorem d_get2 {Q : Value → Shared → Prop} (hu : A.units + 1 < cLine) (I : Inv X pins σ H s) (g : DGet H a y o) (ry : RelV y u) (rd : RelV d r) (h : ∀ w' s', Inv X pins σ H s' → RelV (o.getD d) w' → Q w' s') :
    wpAny (model X.prog X.w) A (call (.builtin "dict.get") [.ref a, u, r]) Q E s := by
  rcases g with ⟨kvs, k, e, ey, l⟩ | ⟨kvs, k, b, e, ey, eb, l⟩
  · subst ey
    obtain ⟨z, hd, vs, rel, dd⟩ := dk_rd I.hok e
    refine call_meetsIn PySem.F.slot_dict_get dd.typeIs PySem.F.entry_dict_get (PySem.F.args_dict_get_3 _ _ _) (meets_dict_get_default (mixKind X.prog X.w) a (kV_is ry) hd r) ⟨_, dd.mapOf, h _ _ (I.tok _) ?_⟩
    rw [l]
    exact (rel.val k).getD rd
  · subst ey
    cases (show u = Value.ref b from ry)
    obtain ⟨z, hd, xs, rel, dd⟩ := dt_rd I.hok e
    refine call_meetsIn PySem.F.slot_dict_get dd.typeIs PySem.F.entry_dict_get (PySem.F.args_dict_get_3 _ _ _) (meetsH_dict_get_default (tupleKind (mixKind X.prog X.w)) a b hd r) ⟨tupleKind_room_in1 hu, k, xs, key_of I.hok eb, dd, h _ _ (I.tok _) ?_⟩
    rw [l]
    exact (rel.val k).getD rd
end

def tDGet1 (td ty : TE) : TE := fun σ H Q => td σ H fun x H1 => ∃ a, x = .ref a ∧ IsD H1 a ∧ ty σ H1 fun y H2 => ∃ o, DGet H2 a y o ∧ Q (o.getD .non) H2
def tDGet2 (td ty tx : TE) : TE := fun σ H Q => td σ H fun x H1 => ∃ a, x = .ref a ∧ IsD H1 a ∧ ty σ H1 fun y H2 => tx σ H2 fun z H3 => ∃ o, DGet H3 a y o ∧ Q (o.getD z) H3
/-- d.pop(k): there; d.pop(k, x): there or not -/
def tDPop1 (td ty : TE) : TE := fun σ H Q => td σ H fun x H1 => ∃ a, x = .ref a ∧ IsD H1 a ∧ ty σ H1 fun y H2 => ∃ kvs k v, H2 a = some (.dK kvs) ∧ y = kV k ∧ valV kvs k = some v ∧ Q v (upd H2 a (.dK (dropK kvs k)))
def tDPop2 (td ty tx : TE) : TE := fun σ H Q => td σ H fun x H1 => ∃ a, x = .ref a ∧ IsD H1 a ∧ ty σ H1 fun y H2 => tx σ H2 fun z H3 => ∃ kvs k, H3 a = some (.dK kvs) ∧ y = kV k ∧
  (∀ v, valV kvs k = some v → Q v (upd H3 a (.dK (dropK kvs k)))) ∧ (valV kvs k = none → Q z H3)
section
variable {X : Cx} {o e f : Expr} {apos cpos : Pos} {td ty tx : TE}
theorem pe_dget1 (hu : X.A.units + 1 < cLine) (ho : PE X o td) (he : PE X e ty) (m : M1 X o "get" apos e cpos) : PE X (.Call (.Attribute o "get" apos) [e] [] cpos) (tDGet1 td ty) := by
  intro pins s σ H Q I h
  refine wpAny_Call_method m.base m.few m.line PySem.F.plainAttrs_dict PySem.F.slot_dict_get PySem.F.type_dict_get (thn (ho pins s σ H _ I h) fun u s1 ⟨x, H1, I1, rx, a, ex, d, q1⟩ => ?_)
  subst ex
  obtain rfl : u = Value.ref a := rx
  obtain ⟨t1, t2, _⟩ := isD_at I1 d
  refine ⟨t1, t2, ?_⟩
  rw [m.trees]
  refine Calls.callWith_builtin rfl (Calls.evalArgs_plain (Calls.spliced_cons (thn (he pins s1 σ H1 _ I1 q1) fun iv s2 ⟨y, H2, I2, ry, ov, g, q2⟩ => Calls.spliced_nil ?_)))
  exact d_get1 hu I2 g ry fun w' s3 I3 rw' => ⟨_, H2, I3, rw', q2⟩
theorem pe_dget2 (hu : X.A.units + 1 < cLine) (ho : PE X o td) (he : PE X e ty) (hf : PE X f tx) (m : M2 X o "get" apos e f cpos) : PE X (.Call (.Attribute o "get" apos) [e, f] [] cpos) (tDGet2 td ty tx) := by
  intro pins s σ H Q I h
  refine wpAny_Call_method m.base m.few m.line PySem.F.plainAttrs_dict PySem.F.slot_dict_get PySem.F.type_dict_get (thn (ho pins s σ H _ I h) fun u s1 ⟨x, H1, I1, rx, a, ex, d, q1⟩ => ?_)
  subst ex
  obtain rfl : u = Value.ref a := rx
  obtain ⟨t1, t2, _⟩ := isD_at I1 d
  refine ⟨t1, t2, ?_⟩
  rw [m.trees]
  refine Calls.callWith_builtin rfl (Calls.evalArgs_plain (Calls.spliced_cons (thn (he pins s1 σ H1 _ I1 q1) fun iv s2 ⟨y, H2, I2, ry, q2⟩ =>
    Calls.spliced_cons (thn (hf pins s2 σ H2 _ I2 q2) fun fv s3 ⟨z, H3, I3, rz, ov, g, q3⟩ => Calls.spliced_nil ?_))))
  exact d_get2 hu I3 g ry rz fun w' s4 I4 rw' => ⟨_, H3, I4, rw', q3⟩
theorem pe_dpop1 (ho : PE X o td) (he : PE X e ty) (m : M1 X o "pop" apos e cpos) : PE X (.Call (.Attribute o "pop" apos) [e] [] cpos) (tDPop1 td ty) := by
  intro pins s σ H Q I h
  refine wpAny_Call_method m.base m.few m.line PySem.F.plainAttrs_dict PySem.F.slot_dict_pop PySem.F.type_dict_pop (thn (ho pins s σ H _ I h) fun u s1 ⟨x, H1, I1, rx, a, ex, d, q1⟩ => ?_)
  subst ex
  obtain rfl : u = Value.ref a := rx
  obtain ⟨t1, t2, _⟩ := isD_at I1 d
  refine ⟨t1, t2, ?_⟩
  rw [m.trees]
  refine Calls.callWith_builtin rfl (Calls.evalArgs_plain (Calls.spliced_cons (thn (he pins s1 σ H1 _ I1 q1) fun iv s2 ⟨y, H2, I2, ry, kvs, k, v, ea, ey, l, q2⟩ => Calls.spliced_nil ?_)))
  subst ey
  exact d_pop I2 ea ry l (.inl rfl) fun w' s3 I3 rw' => ⟨v, _, I3, rw', q2⟩
theorem pe_dpop2 (ho : PE X o td) (he : PE X e ty) (hf : PE X f tx) (m : M2 X o "pop" apos e f cpos) : PE X (.Call (.Attribute o "pop" apos) [e, f] [] cpos) (tDPop2 td ty tx) := by
  intro pins s σ H Q I h
  refine wpAny_Call_method m.base m.few m.line PySem.F.plainAttrs_dict PySem.F.slot_dict_pop PySem.F.type_dict_pop (thn (ho pins s σ H _ I h) fun u s1 ⟨x, H1, I1, rx, a, ex, d, q1⟩ => ?_)
  subst ex
  obtain rfl : u = Value.ref a := rx
  obtain ⟨t1, t2, _⟩ := isD_at I1 d
  refine ⟨t1, t2, ?_⟩
  rw [m.trees]
  refine Calls.callWith_builtin rfl (Calls.evalArgs_plain (Calls.spliced_cons (thn (he pins s1 σ H1 _ I1 q1) fun iv s2 ⟨y, H2, I2, ry, q2⟩ =>
    Calls.spliced_cons (thn (hf pins s2 σ H2 _ I2 q2) fun fv s3 ⟨z, H3, I3, rz, kvs, k, ea, ey, q3, q4⟩ => Calls.spliced_nil ?_))))
  subst ey
  cases l : valV kvs k with
  | some v => exact d_pop I3 ea ry l (.inr ⟨fv, rfl⟩) fun w' s4 I4 rw' => ⟨v, _, I4, rw', q3 v l⟩
  | none => exact d_popD I3 ea ry l fun s4 I4 => ⟨z, H3, I4, rz, q4 l⟩
end

/-! ### dict(d): a copy -/
section
variable {X : Cx} {pins : List (Addr × Obj)} {σ : St} {H : Hp} {s : Shared} {a : Addr} {kvs : List (Key × V)} {A : Around} {E : Value → Shared → Prop}
theorem d_copyOf {Q : Value → Shared → Prop} (I : Inv X pins σ H s) (e : Rd H a (.dK kvs)) (h : ∀ p s', H p = none → Inv X pins σ (upd H p (.dK kvs)) s' → Q (.ref p) s') : wpAny (model X.prog X.w) A (call (.type "dict") [.ref a]) Q E s := by
  obtain ⟨z, hd, vs, rel, dd⟩ := dk_rd I.hok e
  refine kt_call_dict hd dd (by rw [← rel.length]; exact z) fun h' dd' hs => ?_
  refine h _ _ (I.hok.fresh (Nat.le_refl _)) (I.laid (a := s.heap.objs.size) (o := .dK kvs) (t' := s.toks) (fun b q hq => ?_) (Nat.le_refl _) (dk_new z (beq_eq_false_iff_ne.mpr (Ne.symm (Nat.ne_of_lt I.big))) rel dd'))
  exact (hs.2 b (Nat.ne_of_lt (Heap.lt_size hq))).trans (Heap.get?_push_of_some _ hq)
end


section
variable {X : Cx} {pins : List (Addr × Obj)} {σ : St} {H : Hp} {s : Shared} {a : Addr} {y : V} {u : Value} {A : Around} {E : Value → Shared → Prop}
/-- d[y], not there: a KeyError -/
theorem d_missing {Q : Value → Shared → Prop} (hu : A.units + 1 < cLine) (hh : A.handled = none) (I : Inv X pins σ H s) (g : DGet H a y none) (ry : RelV y u)
    (h : ∀ h' e t', Heap.NewExc s.heap h' e "KeyError" → E (.ref e) { s with heap := h', toks := t' }) : wpAny (model X.prog X.w) A (getItem (.ref a) u) Q E s := by
  rcases g with ⟨kvs, k, e, ey, l⟩ | ⟨kvs, k, b, e, ey, eb, l⟩
  · subst ey
    obtain ⟨z, hd, vs, rel, dd⟩ := dk_rd I.hok e
    have hn : valueAt vs k = none := RelO.none_of (by rw [l]; exact rel.val k)
    exact wpAny_getItem_missing_of (kV_is ry) hd hh dd.mapOf hn fun h' ex ne => h h' ex _ ne
  · subst ey
    cases (show u = Value.ref b from ry)
    obtain ⟨z, hd, xs, rel, dd⟩ := dt_rd I.hok e
    have hn : (atKey xs k).map (·.2) = none := RelO.none_of (by rw [l]; exact rel.val k)
    exact wpAny_getItem_missing_heap (tupleKind_room_in1 hu) (key_of I.hok eb) hd hh dd (Option.map_eq_none_iff.mp hn) fun h' ex ne => h h' ex _ ne
end
end L2

namespace Att
open PySem PySem.W PySem.Calls PyProof.Rows

/-! ### the script -/
theorem ints_of_wellAll {P : Params} {h : Heap} : ∀ (ns : List Int) (vs : List Value), WellAll P h vs (ns.map WData.int) → IntsAre vs ns := by
  intro ns
  induction ns with
  | nil =>
    intro vs w
    rw [List.map_nil] at w
    cases w
    exact .nil
  | cons n ns ih =>
    intro vs w
    rw [List.map_cons] at w
    cases w with
    | cons a b =>
      cases a
      exact .cons _ _ (ih _ b)

theorem script_of {l : OpenLaw} {n : Nat} (hn : l.most = some n) {P : Params} {h : Heap} {args : List WData} {vals : List Value}
    (hpre : l.row.toRowW.claim.pre args = true) (hwl : WellAll P h vals args) :
    ∃ a vs ns, vals = [Value.ref a] ∧ args = [WData.list (ns.map WData.int)] ∧ h.get? a = some { cls := .type "list", data := .seq vs.toArray } ∧ IntsAre vs ns ∧ ns.length ≤ n := by
  have hsh : WShape.hasAll [] args [.list .int] = true := (pre_splitW hpre).1
  have hc : l.pre.holds [] { args := args } = true := (pre_splitW hpre).2
  obtain ⟨d, r, rfl, h1, h2⟩ := hasAllW_cons hsh
  obtain rfl := hasAllW_nil h2
  obtain ⟨xs, rfl, h3⟩ := hasW_list h1
  obtain ⟨ns, rfl⟩ := items_int h3
  have hlen : ns.length ≤ n := by
    unfold OpenLaw.pre at hc
    have h4 : (WTm.not (.lt (.lit (.int (n : Int))) (.len (.arg 0)))).holds [] { args := [.list (ns.map .int)] } = true := by
      have h4 := (holds_andW hc).1
      rw [hn] at h4
      exact h4
    have h5 := condW_of h4 (w_not (w_lt w_lit (w_len_list (w_arg rfl))))
    rw [List.length_map] at h5
    refine Nat.le_of_not_lt fun q => ?_
    have q' : (n : Int) < ((ns.length : Nat) : Int) := by omega
    first
      | (rw [decide_eq_true q'] at h5; exact absurd h5 (by decide))
      | (simp at h5; omega)
  cases hwl with
  | cons w1 w2 =>
    cases w2
    cases w1 with
    | list ho hall => exact ⟨_, _, ns, rfl, rfl, ho, ints_of_wellAll ns _ hall, hlen⟩

theorem post_true (l : OpenLaw) (args : List WData) : l.row.toRowW.claim.post args (.bool true) args = true :=
  postW_of (r := l.row.toRowW) (X := (true == true))
    (show WShape.has [] (.bool true) .bool = true by first | rfl | decide | simp [WShape.has, WShape.arms, WShape.armsAll])
    (show (WTm.eq .res (.lit (.bool true))).value [] { args := args, res := some (.bool true), after := args } = some (.bool (true == true)) from w_eq_bool (w_res rfl) w_lit) rfl

/-! ### the attachment: holds_open's last premise (the goal 'hc' behind k_head) from a wpAny of the law's body -/
theorem attach {l : OpenLaw} {n : Nat} {q : Program} {loose : List Str} {XP : (Str → Option Value) → Heap → Prop} {YP : World → Heap → Prop} {d : DefRec} {x : Str}
    (hn : l.most = some n) (hdf : d.params.defaults = [])
    (hbind : ∀ pm cd doc v : Value, bindArgs (docDef d.name d.params d.body d.scope pm cd doc) ⟨[v], []⟩ = pure [(x, v)])
    (hx : d.scope.names.lookup x = some .local ∨ d.scope.names.lookup x = some .cell)
    (hk : d.scope.kind = .function) (hco : d.scope.isCoroutine = false) (hgen : d.scope.isGenerator = false)
    (body : ∀ (w : World) (s₀ s₁ s : Shared) (mg mb : Str → Option Value) (fa : Addr) (o : Obj) (pm cd doc : Value) (a : Addr) (vs : List Value) (ns : List Int),
      Ground q loose [] XP w s₀ mg mb s₁.heap → YP w s₁.heap →
      s₁.heap.get? fa = some o → o.data = .func (docDef d.name d.params d.body d.scope pm cd doc) → s₁.heap.CodeRec cd d.name → mg d.name = some (.ref fa) →
      s₁.heap.get? a = some { cls := .type "list", data := .seq vs.toArray } → IntsAre vs ns → ns.length ≤ n →
      s.gens = #[] → s.os = s₁.os →
      Fr s₁.heap s₁.heap.objs.size s.heap (bindL (envOfC d.name d.scope s₁.heap.objs.size fa cd).kindOf [(x, .ref a)] fun _ => none) →
      Cl s₁.heap.objs.size (cellsFrom (s₁.heap.objs.size + 1) d.scope.names []) s.heap (bindC (envOfC d.name d.scope s₁.heap.objs.size fa cd).kindOf [(x, .ref a)] fun _ => none) →
      wpAny (model l.prog w) (callerA.deeper (envOfC d.name d.scope s₁.heap.objs.size fa cd)) (execs d.body (envOfC d.name d.scope s₁.heap.objs.size fa cd))
        (fun f s' => f = .ret (.bool true) ∧ OldK s₁.heap s'.heap ∧ s'.os = s₁.os ∧ AllBare s'.gens) (fun _ _ => False) s) :
    WalkO q loose XP YP l.row.toRowW d [] (fun f vs => PySem.call f vs) := by
  intro w s₀ s₁ mg mb G Y fa o pm cd doc dV kV ho hd hcd hD hmg hg args vals as hpre hlay hrd hwl hlo
  obtain rfl : dV = .none := Dflts.none hD hdf
  obtain rfl : kV = .none := Dflts.noKw hD
  obtain ⟨a, vs, ns, rfl, rfl, hobj, hints, hlen⟩ := script_of hn hpre hwl
  refine enter_call ?_
  refine call_cells_ret (o := o) (by rw [depth_caller]; decide) ho (fd_plain hd) G.T.nolimit hcd (hbind pm cd doc (.ref a)) (fun y hy => ?_) (fun h₁ tk F X => ?_) hco hgen hk
  · obtain rfl : y = (x, Value.ref a) := List.mem_singleton.mp hy
    rcases hx with e | e
    · exact .inl e
    · exact .inr ⟨e, cellsFrom_some _ _ _ (.inl e)⟩
  · refine wpAny_mono (body w s₀ s₁ { s₁ with heap := h₁, toks := tk } mg mb fa o pm cd doc a vs ns G Y ho (fd_plain hd) hcd hmg hobj hints hlen hg rfl F X) (fun f s' hq => ?_) (fun _ _ hq => hq)
    obtain ⟨rfl, h2, h3, h4⟩ := hq
    exact ⟨.inl ⟨.bool true, .bool true, [], rfl, fun _ => rfl, .bool true, post_true l _, fun _ => ⟨List.Pairwise.nil, fun _ hm => (nomatch hm)⟩⟩, h2, h3, h4⟩

/-- the same from a codeAny of the CALL (for a layer whose function contracts speak of calls) -/
theorem attach_call {l : OpenLaw} {n : Nat} {q : Program} {loose : List Str} {XP : (Str → Option Value) → Heap → Prop} {YP : World → Heap → Prop} {d : DefRec}
    (hn : l.most = some n) (hdf : d.params.defaults = [])
    (call : ∀ (w : World) (s₀ s₁ : Shared) (mg mb : Str → Option Value) (fa : Addr) (o : Obj) (pm cd doc : Value) (a : Addr) (vs : List Value) (ns : List Int),
      Ground q loose [] XP w s₀ mg mb s₁.heap → YP w s₁.heap →
      s₁.heap.get? fa = some o → o.data = .func (docDef d.name d.params d.body d.scope pm cd doc) → s₁.heap.CodeRec cd d.name → mg d.name = some (.ref fa) →
      s₁.heap.get? a = some { cls := .type "list", data := .seq vs.toArray } → IntsAre vs ns → ns.length ≤ n → s₁.gens = #[] →
      codeAny (model l.prog w) callerA (.call (.ref fa) ⟨[.ref a], []⟩) (fun r s' => r = .ok (.ret (.bool true)) ∧ OldK s₁.heap s'.heap ∧ s'.os = s₁.os ∧ AllBare s'.gens) s₁) :
    WalkO q loose XP YP l.row.toRowW d [] (fun f vs => PySem.call f vs) := by
  intro w s₀ s₁ mg mb G Y fa o pm cd doc dV kV ho hd hcd hD hmg hg args vals as hpre hlay hrd hwl hlo
  obtain rfl : dV = .none := Dflts.none hD hdf
  obtain rfl : kV = .none := Dflts.noKw hD
  obtain ⟨a, vs, ns, rfl, rfl, hobj, hints, hlen⟩ := script_of hn hpre hwl
  refine enter_call (codeAny_mono (call w s₀ s₁ mg mb fa o pm cd doc a vs ns G Y ho (fd_plain hd) hcd hmg hobj hints hlen hg) fun r s' hq => ?_)
  obtain ⟨rfl, h2, h3, h4⟩ := hq
  exact ⟨.inl ⟨.bool true, .bool true, [], rfl, fun _ => rfl, .bool true, post_true l _, fun _ => ⟨List.Pairwise.nil, fun _ hm => (nomatch hm)⟩⟩, h2, h3, h4⟩

/-- the same where the top left finished generators (o_head chose holds_openN): nothing may have changed at all and no generator may be left -/
theorem attachN {l : OpenLaw} {n : Nat} {q : Program} {loose : List Str} {XP : (Str → Option Value) → Heap → Prop} {YP : World → Heap → Prop} {d : DefRec} {x : Str}
    (hn : l.most = some n) (hdf : d.params.defaults = [])
    (hbind : ∀ pm cd doc v : Value, bindArgs (docDef d.name d.params d.body d.scope pm cd doc) ⟨[v], []⟩ = pure [(x, v)])
    (hx : d.scope.names.lookup x = some .local ∨ d.scope.names.lookup x = some .cell)
    (hk : d.scope.kind = .function) (hco : d.scope.isCoroutine = false) (hgen : d.scope.isGenerator = false)
    (body : ∀ (w : World) (s₀ s₁ s : Shared) (mg mb : Str → Option Value) (fa : Addr) (o : Obj) (pm cd doc : Value) (a : Addr) (vs : List Value) (ns : List Int),
      Ground q loose [] XP w s₀ mg mb s₁.heap → YP w s₁.heap →
      s₁.heap.get? fa = some o → o.data = .func (docDef d.name d.params d.body d.scope pm cd doc) → s₁.heap.CodeRec cd d.name → mg d.name = some (.ref fa) →
      s₁.heap.get? a = some { cls := .type "list", data := .seq vs.toArray } → IntsAre vs ns → ns.length ≤ n →
      s.gens = #[] → s.os = s₁.os →
      Fr s₁.heap s₁.heap.objs.size s.heap (bindL (envOfC d.name d.scope s₁.heap.objs.size fa cd).kindOf [(x, .ref a)] fun _ => none) →
      Cl s₁.heap.objs.size (cellsFrom (s₁.heap.objs.size + 1) d.scope.names []) s.heap (bindC (envOfC d.name d.scope s₁.heap.objs.size fa cd).kindOf [(x, .ref a)] fun _ => none) →
      wpAny (model l.prog w) (callerA.deeper (envOfC d.name d.scope s₁.heap.objs.size fa cd)) (execs d.body (envOfC d.name d.scope s₁.heap.objs.size fa cd))
        (fun f s' => f = .ret (.bool true) ∧ (∀ b o, s₁.heap.get? b = some o → s'.heap.get? b = some o) ∧ s'.os = s₁.os ∧ s'.gens = #[]) (fun _ _ => False) s) :
    WalkN q loose XP YP l.row.toRowW d [] (fun f vs => PySem.call f vs) := by
  intro w s₀ s₁ mg mb G Y fa o pm cd doc dV kV ho hd hcd hD hmg hg args vals as hpre hlay hrd hwl hlo
  obtain rfl : dV = .none := Dflts.none hD hdf
  obtain rfl : kV = .none := Dflts.noKw hD
  obtain ⟨a, vs, ns, rfl, rfl, hobj, hints, hlen⟩ := script_of hn hpre hwl
  refine enter_callW ?_
  refine call_cells_ret (o := o) (by rw [depth_caller]; decide) ho (fd_plain hd) G.T.nolimit hcd (hbind pm cd doc (.ref a)) (fun y hy => ?_) (fun h₁ tk F X => ?_) hco hgen hk
  · obtain rfl : y = (x, Value.ref a) := List.mem_singleton.mp hy
    rcases hx with e | e
    · exact .inl e
    · exact .inr ⟨e, cellsFrom_some _ _ _ (.inl e)⟩
  · refine wpAny_mono (body w s₀ s₁ { s₁ with heap := h₁, toks := tk } mg mb fa o pm cd doc a vs ns G Y ho (fd_plain hd) hcd hmg hobj hints hlen hg rfl F X) (fun f s' hq => ?_) (fun _ _ hq => hq)
    obtain ⟨rfl, h2, h3, h4⟩ := hq
    exact ⟨.inl ⟨.bool true, .bool true, [], rfl, fun _ => rfl, .bool true, post_true l _, fun _ => ⟨List.Pairwise.nil, fun _ hm => (nomatch hm)⟩⟩, h2, h3, h4⟩

/-! ### rules over ANY heap (no ledger) from facts about the written part K: the library's own take a ledger (News) for what they write -/
section
variable {prog : Program} {w : World} {A : Around} {E : Value → Shared → Prop} {s : Shared} {K : Frag}

/-- a def of the module, or a method (qual 'C.m'), entered: the frame is the next address; cells behind it -/
theorem call_fn {R : Result → Shared → Prop} {name qual : Str} {params : Arguments} {body : List Stmt} {scope : Scope} {dV kV doc pm cdv ct oc : Value} {an od : Option Addr} {osl : Array (Option Value)} {f : Addr} {args : Args} {binds : List (Str × Value)}
    (X : K.In s.heap) (hlim : s.heap.NoLimit) (ho : K.lookup f = some ⟨oc, od, .func (fnOf name qual params body scope dV kV doc pm an cdv ct), osl⟩) (hcd : codeIn K cdv qual = true) (hroom : A.depth < recursionLimit)
    (hbind : BindsTo s (fnOf name qual params body scope dV kV doc pm an cdv ct) args binds)
    (hkind : (binds.all fun y => scope.names.lookup y.1 == some .local || scope.names.lookup y.1 == some .cell) = true)
    (h : ∀ s₁, InCallC s s.heap.objs.size (bindL (envOfC qual scope s.heap.objs.size f cdv).kindOf binds fun _ => none) (cellsFrom (s.heap.objs.size + 1) scope.names [])
        (bindC (envOfC qual scope s.heap.objs.size f cdv).kindOf binds fun _ => none) s₁ →
      wpAny (model prog w) (A.deeper (envOfC qual scope s.heap.objs.size f cdv)) (execs body (envOfC qual scope s.heap.objs.size f cdv))
        (fun fl s' => R (.ok (.ret (match fl with | .ret v => v | _ => .none))) s')
        (fun e s' => wpAny (model prog w) (A.deeper (envOfC qual scope s.heap.objs.size f cdv)) (leaving (envOfC qual scope s.heap.objs.size f cdv) e) (fun _ s'' => R (.error e) s'') (fun e' s'' => R (.error e') s'') s') s₁)
    (hco : scope.isCoroutine = false) (hgen : scope.isGenerator = false) (hk : scope.kind = .function) : codeAny (model prog w) A (.call (.ref f) args) R s := by
  refine codeAny_call_function hroom (X _ _ ho) rfl hco hgen rfl (codeRec_of X hcd) (hbind _ _ _ _ ?_)
  refine wpAny_newFunctionEnv_cells hk (kindsX hkind _) fun env he s₁ x => ?_
  subst he
  exact ⟨hlim.keeps x.toInCall.keep, codeAny_func (h s₁ x)⟩

/-- C(..): dict at size, instance at size + 1, then __init__ -/
theorem make_obj {R : Result → Shared → Prop} {C fI : Addr} {rest : List Value} {kw : List (Str × Value)}
    (X : K.In s.heap) (hm : makesIn K C = true) (hi : findIn K (.ref C) "__init__" = some (some (.ref fI))) (hf : isFn K (.ref fI) = true)
    (h : codeAny (model prog w) (A.under (.builtin "type.__call__" ⟨.ref C :: rest, kw⟩)) (.call (.ref fI) ⟨.ref (s.heap.objs.size + 1) :: rest, kw⟩) (InitBack (s.heap.objs.size + 1) R)
      { s with heap := (s.heap.push emptyDict).push (instObj C s.heap.objs.size) }) : codeAny (model prog w) A (.call (.ref C) ⟨rest, kw⟩) R s := by
  obtain ⟨hh, g, d, t, os⟩ := s
  exact make_core (makes_of X hm) (looks_findIn X hi) (fun self => bind_fn X self (beq_iff_eq.mp hf)) (.inl rfl) h

/-- x.name where the instance's dict holds the name and the class does not -/
theorem get_field {x C : Addr} {ox : Obj} {es : List DictEntry} {n : Nat} {name : Str} {expr : Bool} {v : Value} {Q : Value → Shared → Prop}
    (X : K.In s.heap) (I : PySem.W.InstAt s.heap x ox C (some (dictOf es n))) (hg : plainGet K C name = true) (hh : hasDictIn K C = true) (ha : findIn K (.ref C) name = some none)
    (hl : getL name es = some (some v)) (hv : handedIn v = true) (h : Q v { s with toks := s.toks + 1 }) : wpAny (model prog w) A (getAttr (.ref x) name expr) Q E s :=
  get_value X I (plainGet_of hg).1 (findObj_own hh ha rfl hl) hv h

/-- x.m(..): the method found in the class -/
theorem get_method {x C f : Addr} {ox : Obj} {es : List DictEntry} {n : Nat} {name : Str} {pl : Sem Bool} {Q : Value × List Value → Shared → Prop}
    (X : K.In s.heap) (I : PySem.W.InstAt s.heap x ox C (some (dictOf es n))) (hg : plainGet K C name = true) (hf : findIn K (.ref C) name = some (some (.ref f))) (ht : isFn K (.ref f) = true)
    (hl : getL name es = some none) (h : Q (.ref f, [.ref x]) s) : wpAny (model prog w) A (getMethod (.ref x) name pl) Q E s :=
  method_fn X I (plainGet_of hg).1 (plainGet_of hg).2 hf (beq_iff_eq.mp ht) (by show (lookIn name (dictOf es n)).map _ = _; rw [lookIn_dict, hl]; rfl) h

/-! the whole heap as the ledger: makes every rule that writes through a ledger a rule over any heap -/
def noObjs (h : Heap) : Heap := { h with objs := #[] }
theorem noObjs_get (h : Heap) (b : Addr) : (noObjs h).get? b = none := by
  cases e : (noObjs h).get? b with
  | none => rfl
  | some o => exact absurd (Heap.lt_size e) (Nat.not_lt_zero _)
def ledger (h : Heap) (L d : Addr) : List (Addr × Obj) := (List.range h.objs.size).filterMap fun a => if a = L ∨ a = d then none else (h.get? a).map fun o => (a, o)
theorem mem_ledger {h : Heap} {L d a : Addr} {o : Obj} : (a, o) ∈ ledger h L d ↔ a ≠ L ∧ a ≠ d ∧ h.get? a = some o := by
  unfold ledger
  rw [List.mem_filterMap]
  constructor
  · rintro ⟨b, _, e⟩
    split at e
    · cases e
    · rename_i hb
      obtain ⟨o', ho, e'⟩ := Option.map_eq_some_iff.mp e
      cases e'
      exact ⟨fun q => hb (.inl q), fun q => hb (.inr q), ho⟩
  · rintro ⟨n1, n2, ho⟩
    refine ⟨a, List.mem_range.mpr (Heap.lt_size ho), ?_⟩
    rw [if_neg (show ¬ (a = L ∨ a = d) from fun q => q.elim n1 n2), ho] <;> rfl
theorem news_ledger {h : Heap} {L d : Addr} {od : Obj} (hne : d ≠ L) (ho : h.get? d = some od) : News (noObjs h) L h ([] ++ (d, od) :: ledger h L d) := by
  rintro ⟨a, o⟩ hp
  rcases List.mem_cons.mp hp with e | hp
  · cases e
    exact ⟨ho, hne, noObjs_get _ _⟩
  · obtain ⟨n1, n2, e⟩ := mem_ledger.mp hp
    exact ⟨e, n1, noObjs_get _ _⟩
theorem fr_all {h : Heap} {L : Addr} {m : Str → Option Value} (n : h.Ns L m) : Fr (noObjs h) L h m :=
  ⟨n, fun b o e => (by rw [noObjs_get] at e; cases e), Nat.zero_le _⟩
/-- Upd of the head entry (for append_K, setItem_K ..) -/
theorem upd_ledger {h : Heap} {L d : Addr} {o o' : Obj} : Upd d o o' ((d, o) :: ledger h L d) ((d, o') :: ledger h L d) :=
  .head fun ⟨_, _⟩ hp => (mem_ledger.mp hp).2.1

/-- x.name = v over any heap: L is any namespace of the heap (the frame's, say): its map stays, its object is not told; all else but the dict stays -/
theorem set_field {x C dx L : Addr} {ox : Obj} {m : Str → Option Value} {es es' : List DictEntry} {n n' : Nat} {name : Str} {v : Value} {Q : Unit → Shared → Prop}
    (X : K.In s.heap) (I : PySem.W.InstAt s.heap x ox C (some (dictOf es n))) (hd : ox.dict = some dx) (hL : s.heap.Ns L m) (hne : dx ≠ L)
    (hs : findIn K (.ref C) "__setattr__" = some (some (.builtin "object.__setattr__"))) (hp : plainOver K C = true) (ht : takerIn K C name = some none) (hh : hasDictIn K C = true) (hl : (getL name es).isSome = true)
    (e : (putL name (PyData.keyHash w.params name) (.str name (s.toks + 1)) v es, putN name es n) = (es', n')) (hz : es'.length ≤ 1000)
    (h : ∀ h' : Heap, h'.Ns L m → h'.get? dx = some (dictOf es' n') → (∀ b o, b ≠ dx → b ≠ L → s.heap.get? b = some o → h'.get? b = some o) → Q () { s with heap := h', toks := s.toks + 2 }) :
    wpAny (model prog w) A (setAttr (.ref x) name v) Q E s := by
  obtain ⟨e1, e2⟩ := Prod.mk.inj e
  have hdx : s.heap.get? dx = some (dictOf es n) := by
    have := I.dict
    rw [hd] at this
    exact this
  refine set_plain X I hs (osa_dict (s := { s with toks := s.toks + 1 }) (h₀ := noObjs s.heap) (L := L) (m := m) (od := dictOf es n) (od' := dictOf es' n') (es := es') (n := n') (pre := []) (post := ledger s.heap L dx)
    (fr_all hL) (news_ledger hne hdx) X I hd hp ht hh hl (fun _ q => nomatch q) (fun ⟨_, _⟩ q => (mem_ledger.mp q).2.1) (by rw [putName_dict, e1, e2]) rfl hz fun h' F' N' => ?_)
  exact h h' F'.ns (N'.get (List.Mem.head _)) fun b o n1 n2 ho => N'.get (List.Mem.tail _ (mem_ledger.mpr ⟨n2, n1, ho⟩))
end
end Att

namespace L2
open PySem PySem.Spec PyProof.Rows

theorem vals_ints : ∀ {vs : List Value} {ns : List Int}, IntsAre vs ns → Vals (ns.map V.int) vs
  | _, _, .nil => .nil
  | _, _, .cons n t h => .cons ⟨t, rfl⟩ (vals_ints h)

/-- nothing is tracked but the script, known to the object (or it is an object of the module) -/
def Only (H : Hp) : Prop := ∀ b, H b = none ∨ ∃ o xs, H b = some (.frz o (.lst xs))

/-- THE HEAD: the law's promise, at the heap behind the top. F, the promise of the law's def, may use that base is part of the heap (so K.In base, base.Ns mainGlobals mg stand in Mod) -/
theorem law_call {P : Program} {w : World} {K : PySem.W.Frag} {mg mb : Str → Option Value} {CX : CXT} {k : Nat} {fa a : Addr} {fd : FuncData} {x : Str} {sp : Sp} {s₁ : Shared} {vs : List Value} {ns : List Int}
    (KX : K.In s₁.heap) (hns : s₁.heap.Ns mainGlobals mg) (hb : s₁.heap.Ns builtinsNs mb) (hbb : ∀ x : Str, x ≠ "__name__" → mb x = bootBuiltins x) (hlim : s₁.heap.NoLimit) (hg : s₁.gens = #[])
    (ha : s₁.heap.get? a = some { cls := .type "list", data := .seq vs.toArray }) (hi : IntsAre vs ns) (hl : ns.length ≤ sizeLine) (hr : Room k callerA)
    (F : ∀ base : Heap, K.In base → base.Ns mainGlobals mg → FnOk P w K mg base CX k fa fd [x] sp) (hbind : ∀ (s : Shared) (u : Value), BindsTo s fd ⟨[u], []⟩ [(x, u)])
    (hsp : ∀ H : Hp, Only H → SqL K H a (ns.map V.int) → sp [.ref a] H (fun v _ => v = .bl true) fun _ _ _ => False)
    (hCX : ∀ H e s', CX [] H s₁ (fun _ _ _ => False) e s' → False) :
    codeAny (model P w) callerA (.call (.ref fa) ⟨[.ref a], []⟩) (fun r s' => r = .ok (.ret (.bool true)) ∧ OldK s₁.heap s'.heap ∧ s'.os = s₁.os ∧ AllBare s'.gens) s₁ := by
  have rv := vals_ints hi
  have lenV := hi.length
  -- from an abstract heap in which nothing but the script may be tracked
  have core : ∀ H : Hp, Only H → SqL K H a (ns.map V.int) → HOk P w H s₁.heap → (∀ b, H b ≠ none → b = a) → (H a ≠ none → K.lookup a = none) →
      codeAny (model P w) callerA (.call (.ref fa) ⟨[.ref a], []⟩) (fun r s' => r = .ok (.ret (.bool true)) ∧ OldK s₁.heap s'.heap ∧ s'.os = s₁.os ∧ AllBare s'.gens) s₁ := by
    intro H hO hS hok hA hK
    have base_of : ∀ {b : Addr} {o : Obj}, s₁.heap.get? b = some o → H b = none → (hidT s₁.heap H).get? b = some o := fun e n => hidT_get e n
    have noA : ∀ {b : Addr} {o : Obj} {es : Array DictEntry} {ep : Nat}, s₁.heap.get? b = some o → o.data = .dict es ep → H b = none := fun {b o es ep} e d => by
      cases q : H b with
      | none => rfl
      | some u =>
        have e' : b = a := hA b (by rw [q]; simp)
        subst e'
        rw [ha] at e; cases e
        have d' : Data.seq vs.toArray _ = Data.dict es ep := d
        cases d'
    have nsK : ∀ {b : Addr} {m : Str → Option Value}, s₁.heap.Ns b m → (hidT s₁.heap H).Ns b m := fun {b m} ⟨o, es, ep, e, d, r⟩ => ⟨o, es, ep, base_of e (noA e d), d, r⟩
    have hKb : K.In (hidT s₁.heap H) := fun b o e => base_of (KX b o e) (by
      cases q : H b with
      | none => rfl
      | some u =>
        have e' : b = a := hA b (by rw [q]; simp)
        subst e'
        rw [hK (by rw [q]; simp)] at e; cases e)
    have hM : Mod K mg (hidT s₁.heap H) := ⟨hKb, nsK hns, ⟨mb, nsK hb, hbb⟩, let ⟨mc, h1, h2⟩ := hlim; ⟨mc, nsK h1, h2⟩⟩
    have e0 : Env0 P w K mg (hidT s₁.heap H) callerA [] s₁ H := ⟨rfl, hM, fun b o e => of_hidT e, Nat.le_of_eq (hidT_size _ _), trivial, fun b hb => absurd (show b ∈ ([] : List Addr) from hb) (by simp), hok, .of_eq hg⟩
    refine codeAny_mono ((F _ hKb (nsK hns)).run callerA [] s₁ H ⟨[.ref a], []⟩ [.ref a] [.ref a] _ _ hr e0 (hbind s₁ (.ref a)) (.cons rfl .nil) (hsp H hO hS)) fun r s' h => ?_
    cases r with
    | error e => exact (hCX H e s' h).elim
    | ok fl =>
      cases fl with
      | next => exact False.elim h
      | brk => exact False.elim h
      | cont => exact False.elim h
      | ret u =>
        obtain ⟨v, H', os, bare, un, hok', r', q⟩ := h
        have q' : v = .bl true := q
        subst q'
        obtain rfl : u = Value.bool true := r'
        refine ⟨rfl, OldK.of_keep fun b o e => ?_, os, bare⟩
        cases q : H b with
        | none => exact un.keep b o e q (by intro z; exact absurd (show b ∈ ([] : List Addr) from z) (by simp)) (by simp)
        | some u =>
          rcases hO b with z | ⟨ob, xs, z⟩
          · rw [q] at z; cases z
          · have z2 := un.frzs b ob _ z
            obtain ⟨e1, _⟩ := hok b _ z
            obtain ⟨e2, _⟩ := hok' b _ z2
            rw [e] at e1; cases e1
            exact e2
  cases hk : K.lookup a with
  | some o =>
    -- the script is one of the module's own objects
    have e := KX a o hk
    rw [ha] at e
    cases e
    refine core (fun _ => none) (fun _ => .inl rfl) (.inr ⟨_, vs.toArray, _, hk, rfl, rfl, rfl, by rw [List.size_toArray, lenV]; exact hl, by simpa using rv⟩) (fun b u z => by have z' : (none : Option HO) = some u := z; cases z') (fun b z => absurd rfl z) fun z => absurd rfl z
  | none =>
    refine core (fun b => if b = a then some (.frz { cls := .type "list", data := .seq vs.toArray } (.lst (ns.map V.int))) else none) (fun b => ?_) (.inl (.inr ⟨{ cls := .type "list", data := .seq vs.toArray }, if_pos rfl⟩)) (fun b u z => ?_) (fun b z => ?_) fun _ => hk
    · by_cases hb : b = a
      · exact .inr ⟨_, _, if_pos hb⟩
      · exact .inl (if_neg hb)
    · by_cases hb : b = a
      · have z' := (if_pos hb).symm.trans z
        cases z'
        subst hb
        exact ⟨ha, by rw [List.length_map]; exact hl, vs, _, rv, ha⟩
      · have z' := (if_neg hb).symm.trans z
        cases z'
    · by_cases hb : b = a
      · exact hb
      · exact absurd (if_neg hb) z
end L2

namespace L2
open PySem PySem.Spec PyProof.Rows

abbrev KOf {K : PySem.W.Frag} {h : Heap} (_ : K.In h) : PySem.W.Frag := K

/-- the goal that k_head leaves (case hc), from the law's promise. F gives the function object fd (K's own) once, then the promise over every base -/
theorem walk_of {l : PySem.W.OpenLaw} {n k : Nat} {q : Program} {loose : List Str} {XP : (Str → Option Value) → Heap → Prop} {YP : World → Heap → Prop} {d : DefRec} {K : Params → PySem.W.Frag} {CX : World → CXT} {sp : World → Sp} {x : Str}
    (hn : l.most = some n) (hn2 : n ≤ sizeLine) (hdf : d.params.defaults = []) (hr : Room k callerA)
    (hY : ∀ (w : World) (h : Heap), YP w h → (K w.params).In h)
    (F : ∀ (w : World) (mg : Str → Option Value) (fa : Addr) (h : Heap), (K w.params).In h → h.Ns mainGlobals mg → mg d.name = some (.ref fa) →
      ∃ fd : FuncData, (∀ (s : Shared) (u : Value), BindsTo s fd ⟨[u], []⟩ [(x, u)]) ∧
        ∀ base : Heap, (K w.params).In base → base.Ns mainGlobals mg → FnOk l.prog w (K w.params) mg base (CX w) k fa fd [x] (sp w))
    (hsp : ∀ (w : World) (H : Hp) (a : Addr) (ns : List Int), ns.length ≤ n → Only H → SqL (K w.params) H a (ns.map V.int) → sp w [.ref a] H (fun v _ => v = .bl true) fun _ _ _ => False)
    (hCX : ∀ (w : World) (H : Hp) (s : Shared) (e : Value) (s' : Shared), CX w [] H s (fun _ _ _ => False) e s' → False) :
    PySem.W.WalkO q loose XP YP l.row.toRowW d [] (fun f vs => PySem.call f vs) := by
  refine Att.attach_call hn hdf fun w s₀ s₁ mg mb fa o pm cd doc a vs ns G Y ho hd hcd hmg hobj hints hlen hg => ?_
  have KX := hY w _ Y
  obtain ⟨fd, hb, hF⟩ := F w mg fa _ KX G.T.g hmg
  exact law_call KX G.T.g G.T.b G.T.builtins G.T.nolimit hg hobj hints (Nat.le_trans hlen hn2) hr hF hb (fun H hO hS => hsp w H a ns hlen hO hS) fun H e s' => hCX w H s₁ e s'
/-- the same where the promise hangs on the written part alone: (sp := My.sp_law), no hole under a binder -/
theorem walk_ofK {l : PySem.W.OpenLaw} {n k : Nat} {q : Program} {loose : List Str} {XP : (Str → Option Value) → Heap → Prop} {YP : World → Heap → Prop} {d : DefRec} {K : Params → PySem.W.Frag} {CX : CXT} {sp : PySem.W.Frag → Sp} {x : Str}
    (hn : l.most = some n) (hn2 : n ≤ sizeLine) (hdf : d.params.defaults = []) (hr : Room k callerA)
    (hY : ∀ (w : World) (h : Heap), YP w h → (K w.params).In h)
    (F : ∀ (w : World) (mg : Str → Option Value) (fa : Addr) (h : Heap), (K w.params).In h → h.Ns mainGlobals mg → mg d.name = some (.ref fa) →
      ∃ fd : FuncData, (∀ (s : Shared) (u : Value), BindsTo s fd ⟨[u], []⟩ [(x, u)]) ∧
        ∀ base : Heap, (K w.params).In base → base.Ns mainGlobals mg → FnOk l.prog w (K w.params) mg base CX k fa fd [x] (sp (K w.params)))
    (hsp : ∀ (K : PySem.W.Frag) (H : Hp) (a : Addr) (ns : List Int), ns.length ≤ n → Only H → SqL K H a (ns.map V.int) → sp K [.ref a] H (fun v _ => v = .bl true) fun _ _ _ => False)
    (hCX : ∀ (H : Hp) (s : Shared) (e : Value) (s' : Shared), CX [] H s (fun _ _ _ => False) e s' → False) :
    PySem.W.WalkO q loose XP YP l.row.toRowW d [] (fun f vs => PySem.call f vs) :=
  walk_of (K := K) (CX := fun _ => CX) (sp := fun w => sp (K w.params)) hn hn2 hdf hr hY F (fun w H a ns h1 h2 h3 => hsp (K w.params) H a ns h1 h2 h3) fun _ H s e s' => hCX H s e s'
end L2

/- THE LAST THEOREM (shape; LID, My.* are yours):
   My.Adr: a structure of the addresses that your layer names (classes, functions); My.Txt K t: a structure (Prop) of the equations over K;
   My.txt_mk : {K} {implicit addresses ..} (e1 : nsIn K mainGlobals "law" = some (some (.ref f))) (e2 : K.lookup f = some ⟨oc, od, .func (fnOf "law" "law" params body scope dV kV doc pm an cdv ct), sl⟩) (e3 : codeIn K cdv "law" = true) .. : ∃ t, My.Txt K t

set_option maxRecDepth 100000 in
set_option maxHeartbeats 0 in
theorem PySem.Challenge.cw_LID_holds : PySem.Challenge.rw_LID.Holds := by
  w_on; o_law; k_head; (case hw => w_witness2)
  k_fill
  refine L2.walk_of (l := PySem.Challenge.rw_LID) (n := 63) (k := 40) (x := "script") (CX := fun w => ..) (sp := fun _ => My.sp_law) rfl (by decide) rfl ⟨rfl, by decide, by decide⟩ (fun w h Y => PySem.W.kIn_of Y) ?F ?S ?C
  case F =>
    intro w mg fa h KX G hmg
    have T : ∃ t, My.Txt (L2.KOf KX) t := by
      dsimp only [L2.KOf]                          -- K must stand as «<heap const> w.params» for k_is
      refine' My.txt_mk ?e1 ?e2 ?e3 ..
      (case e1 => PySem.W.k_is)                    -- in the order: a name -> its address -> its object -> its parts
      (case e2 => PySem.W.k_is)
      ..
    obtain ⟨t, T⟩ := T
    have e0 := hmg.symm.trans (PySem.W.mg_of KX G T.law)
    cases e0                                       -- fa is the law's own address
    exact ⟨_, fun s u => .of_eq rfl, fun base kb nb => My.law_fn T kb nb⟩     -- if «.of_eq rfl» comes too early: refine' ⟨_, ?b, fun base kb nb => My.law_fn T kb nb⟩; exact fun s u => .of_eq rfl
  case S => exact fun w H a ns hl hO hS => ..
  case C => exact ..
(the tactic k_is has no namespace: write k_is) -/

/-! SHORT WORDS over the layer: a def of the text, its body, what a loop and a test want. -/
namespace L2
open PySem PySem.Spec PyProof.Rows

/-! ### the text by places -/
/-- the j-th statement of a class's body -/
def inClass (s : Stmt) (j : Nat) : Stmt := match s with
  | .ClassDef _ _ _ body _ _ _ _ _ _ _ => body.getD j (.Pass ⟨0, 0, 0, 0⟩)
  | _ => .Pass ⟨0, 0, 0, 0⟩
def defArgs (s : Stmt) : Arguments := match s with
  | .FunctionDef _ a _ _ _ _ _ _ _ _ => a
  | _ => { posonlyargs := [], args := [], vararg := none, kwonlyargs := [], kw_defaults := [], kwarg := none, defaults := [] }
def defBody (s : Stmt) : List Stmt := match s with
  | .FunctionDef _ _ b _ _ _ _ _ _ _ => b
  | _ => []
def defScope (s : Stmt) : Scope := match s with
  | .FunctionDef _ _ _ _ _ _ sc _ _ _ => sc
  | _ => { kind := .function, names := [], isGenerator := false, isCoroutine := false }

/-! ### no exception leaves a def -/
abbrev CX0 : CXT := fun _ _ _ _ _ _ => False
abbrev E0 : XK := fun _ _ _ => False
theorem pass0 {X : Cx} : Passes CX0 X E0 := fun _ _ _ _ _ _ _ h => h.elim

/-! ### a def (or method) of the text as it stands behind the top -/
structure Fun (K : PySem.W.Frag) (x qual : Str) (st : Stmt) (f : Addr) (fd : FuncData) : Prop where
  ex : ∃ (oc : Value) (od : Option Addr) (kV doc pm : Value) (an : Option Addr) (cdv ct : Value) (osl : Array (Option Value)),
    fd = PySem.W.fnOf x qual (defArgs st) (defBody st) (defScope st) .none kV doc pm an cdv ct ∧ K.lookup f = some ⟨oc, od, .func fd, osl⟩ ∧ PySem.W.codeIn K cdv qual = true
  kp : PySem.W.keepIn K (.ref f) = true
section
variable {P : Program} {w : World} {K : PySem.W.Frag} {mg : Str → Option Value} {base : Heap}
/-- THE RULE for a def: its body as a term of rules, and the reading of that term -/
theorem Fun.ok {x qual : Str} {st : Stmt} {f : Addr} {fd : FuncData} {N ps : List Str} {k : Nat} {sp : Sp} (F : Fun K x qual st f fd) (S : FnScope N ps (defScope st)) (len : ∀ vs H Q E, sp vs H Q E → vs.length = ps.length)
    (hbody : ∀ (cdv : Value) (A : Around) (outer : List Env) (s : Shared) (H : Hp) (vs : List V) (Q : VK) (E : XK), Room k (A.deeper (envOfC qual (defScope st) s.heap.objs.size f cdv)) → sp vs H Q E →
      ∃ t, PSs (cxOf CX0 P w K mg base N qual (defScope st) f cdv A outer s H E).nox (defBody st) t ∧ t { nx := fun _ H' => Q .non H', rt := Q } (start N vs) H) : FnOk P w K mg base CX0 (k + 1) f fd ps sp := by
  obtain ⟨oc, od, kV, doc, pm, an, cdv, ct, osl, rfl, lk, hcd⟩ := F.ex
  refine fn_of lk hcd S len fun A outer s H vs Q E hr hsp => ?_
  obtain ⟨t, h, q⟩ := hbody cdv A outer s H vs Q E hr hsp
  exact ⟨t, h.nox, q⟩
/-- how its arguments bind (no defaults): h is «fun _ _ _ _ _ _ us hl => match us, hl with | [_, _], _ => rfl», one _ a parameter -/
theorem Fun.binds {x qual : Str} {st : Stmt} {f : Addr} {fd : FuncData} {ps : List Str} (F : Fun K x qual st f fd)
    (h : ∀ (kV doc pm : Value) (an : Option Addr) (cdv ct : Value) (us : List Value), us.length = ps.length → bindArgs (PySem.W.fnOf x qual (defArgs st) (defBody st) (defScope st) .none kV doc pm an cdv ct) ⟨us, []⟩ = pure (ps.zip us)) : Binds K fd ps [] := by
  obtain ⟨oc, od, kV, doc, pm, an, cdv, ct, osl, rfl, lk, hcd⟩ := F.ex
  exact .all (h kV doc pm an cdv ct)
theorem fun_mk {x qual : Str} {st : Stmt} {f : Addr} {oc : Value} {od an : Option Addr} {osl : Array (Option Value)} {kV doc pm cdv ct : Value} (l : K.lookup f = some ⟨oc, od, .func (PySem.W.fnOf x qual (defArgs st) (defBody st) (defScope st) .none kV doc pm an cdv ct), osl⟩)
    (c : PySem.W.codeIn K cdv qual = true) (k : PySem.W.keepIn K (.ref f) = true) : Fun K x qual st f (PySem.W.fnOf x qual (defArgs st) (defBody st) (defScope st) .none kV doc pm an cdv ct) := ⟨⟨oc, od, kV, doc, pm, an, cdv, ct, osl, rfl, l, c⟩, k⟩
end
theorem hu_of {A : Around} {k : Nat} (hr : Room k A) : A.units + 1 < cLine := Nat.lt_of_le_of_lt (Nat.add_le_add_left (by decide : 1 ≤ 64) _) hr.units
theorem small1000 {n : Nat} (h : n ≤ 1000) : n < sizeLine := Nat.lt_of_le_of_lt h (by decide)

/-! ### expressions in short: the name that stands in the i-th slot -/
section
variable {X : Cx}
theorem pv (i : Nat) {x : Str} {pos : Pos} (hN : X.N[i]? = some x := by rfl) (hv : Vis X.env.scope x := by first | exact Or.inl rfl | exact Or.inr (Or.inl rfl) | exact Or.inr (Or.inr rfl)) (hd : (x == ("__debug__" : Str)) = false := by decide)
    (hcd : (x == ("__classdict__" : Str)) = false := by decide) : PE X (.Name x pos) (tVar i) := pe_var hN hv hd hcd
end

/-! ### tests -/
theorem iteF {A B : Prop} (h : B) : if false = true then A else B := by
  rw [if_neg Bool.false_ne_true]
  exact h
theorem iteT {A B : Prop} (h : A) : if true = true then A else B := by
  rw [if_pos rfl]
  exact h
theorem ite2 {c A B : Prop} [Decidable c] (h1 : c → A) (h2 : ¬ c → B) : if c then A else B := by
  by_cases h : c
  · rw [if_pos h]
    exact h1 h
  · rw [if_neg h]
    exact h2 h
theorem iteNS {c A B : Prop} [Decidable c] (hc : c) (h : B) : if (!decide c) = true then A else B := by
  rw [decide_eq_true hc]
  exact iteF h

/-! ### heaps -/
/-- all that was tracked is as it was -/
def Same (H H' : Hp) : Prop := ∀ b o, H b = some o → H' b = some o
theorem Same.refl (H : Hp) : Same H H := fun _ _ h => h
theorem Same.trans {H H1 H2 : Hp} (a : Same H H1) (b : Same H1 H2) : Same H H2 := fun c o h => b c o (a c o h)
theorem Same.free {H H' : Hp} (e : Same H H') {l : Addr} (h : H' l = Option.none) : H l = Option.none := by
  cases q : H l with
  | none => rfl
  | some o =>
    rw [e l o q] at h
    cases h
theorem Same.seq {K : PySem.W.Frag} {H H' : Hp} {a : Addr} {xs : List V} (e : Same H H') (h : SqL K H a xs) : SqL K H' a xs := by
  rcases h with (h | ⟨o, h⟩) | h
  · exact .inl (.inl (e _ _ h))
  · exact .inl (.inr ⟨o, e _ _ h⟩)
  · exact .inr h

end L2

namespace L2
open PySem PySem.Spec PyProof.Rows
section
variable {X : Cx}
/-- len of a dict -/
theorem call_lenD : CallR X (.builtin "len") (fun xs H Q => ∃ a kvs, xs = [V.ref a] ∧ H a = some (.dK kvs) ∧ Q (.int kvs.length) H) := by
  intro pins s σ H xs us Q I r h
  obtain ⟨a, kvs, rfl, ha, q⟩ := h
  obtain ⟨u, rfl, ru⟩ := vals1 r
  cases ru
  exact d_len I (.inl ha) fun t s' I' => ⟨.int kvs.length, H, I', ⟨t, rfl⟩, q⟩
end
/-! ### a dict's pairs: keys that differ -/
section
variable {κ : Type} [DecidableEq κ]
theorem valV_not {kvs : List (κ × V)} {k : κ} (h : valV kvs k = none) : ¬ k ∈ kvs.map (·.1) := by
  intro m
  obtain ⟨p, hp, e⟩ := List.mem_map.mp m
  have q : (kvs.any fun kv => decide (kv.1 = k)) = true := List.any_eq_true.mpr ⟨p, hp, decide_eq_true e⟩
  rw [valV_any, h] at q
  exact absurd q (by simp)
theorem valV_in {kvs : List (κ × V)} {k : κ} {v : V} (h : valV kvs k = some v) : k ∈ kvs.map (·.1) := by
  have q : (kvs.any fun kv => decide (kv.1 = k)) = true := by
    rw [valV_any, h]
    all_goals rfl
  obtain ⟨p, hp, e⟩ := List.any_eq_true.mp q
  exact List.mem_map.mpr ⟨p, hp, of_decide_eq_true e⟩
theorem nd_snoc : ∀ {l : List κ} {k : κ}, l.Nodup → ¬ k ∈ l → (l ++ [k]).Nodup
  | [], k, _, _ => by simp
  | a :: r, k, h, hk => by
    obtain ⟨h1, h2⟩ := List.nodup_cons.mp h
    show (a :: (r ++ [k])).Nodup
    refine List.nodup_cons.mpr ⟨fun m => ?_, nd_snoc h2 fun m => hk (List.mem_cons.mpr (Or.inr m))⟩
    rcases List.mem_append.mp m with q | q
    · exact h1 q
    · exact hk (List.mem_cons.mpr (Or.inl (List.mem_singleton.mp q).symm))
theorem nd_putK {kvs : List (κ × V)} {k : κ} (v : V) (hn : (kvs.map (·.1)).Nodup) (h : valV kvs k = none) : ((putK kvs k v).map (·.1)).Nodup := by
  rw [putK_new v h, List.map_append]
  exact nd_snoc hn (valV_not h)
theorem dropK_pos {p : κ × V} {r : List (κ × V)} {k : κ} (e : p.1 = k) : dropK (p :: r) k = dropK r k := by
  unfold dropK
  rw [List.filter_cons, if_neg (by simp [e])]
theorem dropK_neg {p : κ × V} {r : List (κ × V)} {k : κ} (e : ¬ p.1 = k) : dropK (p :: r) k = p :: dropK r k := by
  unfold dropK
  rw [List.filter_cons, if_pos (by simp [e])]
theorem dropK_no : ∀ {kvs : List (κ × V)} {k : κ}, ¬ k ∈ kvs.map (·.1) → dropK kvs k = kvs
  | [], _, _ => rfl
  | p :: r, k, h => by
    have h' : ¬ k ∈ r.map (·.1) := fun m => by
      obtain ⟨q, hq, e⟩ := List.mem_map.mp m
      exact h (List.mem_map.mpr ⟨q, List.mem_cons.mpr (Or.inr hq), e⟩)
    rw [dropK_neg fun e => h (List.mem_map.mpr ⟨p, List.mem_cons.mpr (Or.inl rfl), e⟩), dropK_no h']
theorem dropK_mem {kvs : List (κ × V)} {k : κ} {p : κ × V} (h : p ∈ dropK kvs k) : p ∈ kvs := (List.mem_filter.mp h).1
theorem nd_dropK : ∀ {kvs : List (κ × V)} {k : κ}, (kvs.map (·.1)).Nodup → ((dropK kvs k).map (·.1)).Nodup
  | [], _, _ => List.nodup_nil
  | p :: r, k, h => by
    have h : (p.1 :: r.map (·.1)).Nodup := h
    obtain ⟨h1, h2⟩ := List.nodup_cons.mp h
    by_cases e : p.1 = k
    · rw [dropK_pos e]
      exact nd_dropK h2
    · rw [dropK_neg e]
      show (p.1 :: (dropK r k).map (·.1)).Nodup
      refine List.nodup_cons.mpr ⟨fun m => h1 ?_, nd_dropK h2⟩
      obtain ⟨q, hq, eq⟩ := List.mem_map.mp m
      exact List.mem_map.mpr ⟨q, dropK_mem hq, eq⟩
theorem dropK_len : ∀ {kvs : List (κ × V)} {k : κ}, (kvs.map (·.1)).Nodup → k ∈ kvs.map (·.1) → (dropK kvs k).length + 1 = kvs.length
  | [], _, _, m => by simp at m
  | p :: r, k, h, m => by
    have h : (p.1 :: r.map (·.1)).Nodup := h
    have m : k = p.1 ∨ k ∈ r.map (·.1) := List.mem_cons.mp m
    obtain ⟨h1, h2⟩ := List.nodup_cons.mp h
    by_cases e : p.1 = k
    · subst e
      rw [dropK_pos rfl, dropK_no h1]
      all_goals rfl
    · have m' : k ∈ r.map (·.1) := m.resolve_left fun z => e z.symm
      have q := dropK_len h2 m'
      rw [dropK_neg e, List.length_cons, List.length_cons]
      omega
end
end L2
set_option Elab.async false
set_option linter.all false
set_option maxRecDepth 100000
namespace L2
open PySem PySem.Spec PyProof.Rows

/-! ### list comprehensions: the block that runs inside the def's frame -/
def closL (env : Env) : List (Str × NameKind) → List (Str × Addr) → List (Str × Addr)
  | [], cs => cs
  | (n, k) :: r, cs => if (k == NameKind.free) = true then closL env r ((n, (env.cells.lookup n).getD 0) :: cs) else closL env r cs
theorem closureFor_is {scope : Scope} {env : Env} (h : ∀ x ∈ scope.names, x.2 = .free → ∃ c, env.cells.lookup x.1 = some c) : closureFor scope env = pure (closL env scope.names []) := by
  unfold closureFor
  have go : ∀ (l : List (Str × NameKind)) (cs : List (Str × Addr)), (∀ x ∈ l, x.2 = .free → ∃ c, env.cells.lookup x.1 = some c) →
      (forIn l cs fun (x : Str × NameKind) (r : List (Str × Addr)) => (match x with
        | (name, kind) => if (kind == NameKind.free) = true then do let a ← cellOf env name; pure (ForInStep.yield ((name, a) :: r)) else pure (ForInStep.yield r) : Sem (ForInStep (List (Str × Addr))))) = (pure (closL env l cs) : Sem (List (Str × Addr))) := by
    intro l
    induction l with
    | nil => intro cs _; rfl
    | cons x r ih =>
      intro cs hl
      obtain ⟨n, k⟩ := x
      rw [List.forIn_cons]
      by_cases hk : (k == NameKind.free) = true
      · obtain ⟨c, hc⟩ := hl (n, k) List.mem_cons_self (by simpa using hk)
        have e : cellOf env n = pure c := by unfold cellOf; rw [hc]
        simp only [hk, if_true, e, pure_bind]
        rw [ih _ fun y hy => hl y (List.mem_cons_of_mem _ hy)]
        rw [closL, if_pos hk, hc]
        rfl
      · simp only [hk, if_false, Bool.false_eq_true, pure_bind]
        rw [ih _ fun y hy => hl y (List.mem_cons_of_mem _ hy)]
        rw [closL, if_neg hk]
  have q := go scope.names [] h
  simp only [pure_bind, bind_pure] at q ⊢
  exact q
theorem closL_lookup {env : Env} {y : Str} {c : Addr} : ∀ (l : List (Str × NameKind)) (cs : List (Str × Addr)), (∀ x ∈ l, x.2 = .free → ∃ c, env.cells.lookup x.1 = some c) →
    (∀ z d, cs.lookup z = some d → env.cells.lookup z = some d) → (closL env l cs).lookup y = some c → env.cells.lookup y = some c
  | [], cs, _, hc, e => hc _ _ e
  | (n, k) :: r, cs, h, hc, e => by
    have hr : ∀ x ∈ r, x.2 = .free → ∃ c, env.cells.lookup x.1 = some c := fun x hx => h x (List.mem_cons_of_mem _ hx)
    by_cases hk : (k == NameKind.free) = true
    · rw [closL, if_pos hk] at e
      refine closL_lookup r _ hr (fun z d ez => ?_) e
      obtain ⟨c', hc'⟩ := h (n, k) List.mem_cons_self (by simpa using hk)
      rw [List.lookup_cons] at ez
      cases hz : z == n with
      | true =>
        rw [hz] at ez
        have hz' : z = n := eq_of_beq hz
        subst hz'
        have e2 : (env.cells.lookup z).getD 0 = d := Option.some.inj ez
        have hc'' : env.cells.lookup z = some c' := hc'
        rw [hc''] at e2 ⊢
        exact congrArg some e2
      | false => rw [hz] at ez; exact hc z d ez
    · rw [closL, if_neg hk] at e
      exact closL_lookup r cs hr hc e
theorem closL_has {env : Env} {y : Str} : ∀ (l : List (Str × NameKind)) (cs : List (Str × Addr)), ((y, NameKind.free) ∈ l ∨ ∃ c, cs.lookup y = some c) → ∃ c, (closL env l cs).lookup y = some c
  | [], cs, h => h.elim (fun z => nomatch z) fun z => z
  | (n, k) :: r, cs, h => by
    by_cases hk : (k == NameKind.free) = true
    · rw [closL, if_pos hk]
      refine closL_has r _ ?_
      rcases h with h | ⟨c, h⟩
      · rcases List.mem_cons.mp h with h | h
        · cases h
          exact .inr ⟨_, by rw [List.lookup_cons, beq_self_eq_true]⟩
        · exact .inl h
      · cases hz : y == n with
        | true => exact .inr ⟨_, by rw [List.lookup_cons, hz]⟩
        | false => exact .inr ⟨c, by rw [List.lookup_cons, hz]; exact h⟩
    · rw [closL, if_neg hk]
      refine closL_has r _ ?_
      rcases h with h | h
      · rcases List.mem_cons.mp h with h | h
        · cases h
          exact absurd rfl hk
        · exact .inl h
      · exact .inr h
theorem lookup_relabel {env : Env} : ∀ {names : List (Str × NameKind)} {x : Str} {k' : NameKind},
    (names.map fun (n, k) => if (k == NameKind.free && env.scope.kind == .function && env.kindOf n == some .cell) then (n, NameKind.cell) else (n, k)).lookup x = some k' →
    names.lookup x = some k' ∨ (names.lookup x = some .free ∧ k' = .cell)
  | [], _, _, h => by simp at h
  | (n, k) :: r, x, k', h => by
    have ih := @lookup_relabel env r x k'
    have h : List.lookup x ((if (k == NameKind.free && env.scope.kind == .function && env.kindOf n == some .cell) = true then (n, NameKind.cell) else (n, k)) :: _) = some k' := h
    rw [List.lookup_cons]
    by_cases hc : (k == NameKind.free && env.scope.kind == .function && env.kindOf n == some .cell) = true
    · rw [if_pos hc, List.lookup_cons] at h
      cases hx : x == n with
      | true =>
        rw [hx] at h
        have e1 : NameKind.cell = k' := Option.some.inj h
        simp only [Bool.and_eq_true] at hc
        exact .inr ⟨congrArg some (eq_of_beq hc.1.1), e1.symm⟩
      | false => rw [hx] at h; exact ih h
    · rw [if_neg hc, List.lookup_cons] at h
      cases hx : x == n with
      | true => rw [hx] at h; exact .inl h
      | false => rw [hx] at h; exact ih h
theorem relabel_free {env : Env} : ∀ {names : List (Str × NameKind)} {x : Str}, names.lookup x = some .free →
    (names.map fun (n, k) => if (k == NameKind.free && env.scope.kind == .function && env.kindOf n == some .cell) then (n, NameKind.cell) else (n, k)).lookup x = some .cell ∨
    (names.map fun (n, k) => if (k == NameKind.free && env.scope.kind == .function && env.kindOf n == some .cell) then (n, NameKind.cell) else (n, k)).lookup x = some .free
  | [], _, h => by simp at h
  | (n, k) :: r, x, h => by
    have ih := @relabel_free env r x
    show List.lookup x ((if (k == NameKind.free && env.scope.kind == .function && env.kindOf n == some .cell) = true then (n, NameKind.cell) else (n, k)) :: _) = _ ∨ List.lookup x ((if (k == NameKind.free && env.scope.kind == .function && env.kindOf n == some .cell) = true then (n, NameKind.cell) else (n, k)) :: _) = _
    rw [List.lookup_cons] at h
    by_cases hc : (k == NameKind.free && env.scope.kind == .function && env.kindOf n == some .cell) = true
    · rw [if_pos hc, List.lookup_cons]
      cases hx : x == n with
      | true => exact .inl rfl
      | false => rw [hx] at h; exact ih h
    · rw [if_neg hc, List.lookup_cons]
      cases hx : x == n with
      | true => rw [hx] at h; exact .inr h
      | false => rw [hx] at h; exact ih h

/-- what is told of a comprehension's own scope: xs its own names, ys the names that it takes from around -/
structure LcScope (xs ys : List Str) (scope around : Scope) : Prop where
  kind : scope.kind = .function
  nd : (xs ++ ys).Nodup
  own : ∀ x ∈ xs, scope.names.lookup x = some .local
  cap : ∀ y ∈ ys, scope.names.lookup y = some .free ∧ (around.names.lookup y = some .cell ∨ around.names.lookup y = some .free)
  nocell : ∀ y ∈ scope.names, y.2 ≠ .cell
  names : ∀ y ∈ scope.names, y.2 = .local → scope.names.lookup y.1 = some .local
  free : ∀ y ∈ scope.names, y.2 = .free → y.1 ∈ ys

/-- the context of the block -/
def blockCx (X : Cx) (xs ys : List Str) (scope : Scope) (C : Addr) (s₀ : Shared) (H₀ : Hp) (fp : List Addr) : Cx where
  prog := X.prog
  w := X.w
  K := X.K
  mg := X.mg
  base := X.base
  A := X.A
  N := xs ++ ys
  s₀ := s₀
  H₀ := H₀
  env := compEnvC scope (closL X.env scope.names []) C X.env
  outer := X.stack
  stack := X.stack
  ex := fp
  fn := fun _ => false
  calm := X.calm
  pn := []
  xe := fun _ _ => False

/-- the values at the block's entry: its own names have none, the others those of the slots js -/
def lcSt (xs : List Str) (js : List Nat) (σ : St) : St := xs.map (fun _ => none) ++ js.map fun j => (σ[j]?).join
/-- a list comprehension over J: what holds between two turns, W, with a measure -/
def LcW (J : It) (n : List Str) (js : List Nat) (g : TG) (tc : Option TT) (te : TE) (σ : St) (H1 : Hp) (Q : VK) : Prop := ∃ W : Nat → Nat → List V → St → Hp → Prop, (∃ m, W 0 m [] (lcSt n js σ) H1) ∧ ∀ i m ys σ1 H, W i m ys σ1 H →
  (J.stop i H ∧ ∀ p, H p = none → Q (.ref p) (upd H p (.lst ys))) ∨
  (J.go i H ∧ ys.length < sizeLine ∧ ∀ x H', J.yld i H x H' → g x σ1 H' fun σ2 H2 => match tc with
    | none => te σ2 H2 fun y H3 => ∃ m', m' < m ∧ W (i + 1) m' (ys ++ [y]) σ2 H3
    | some c => c σ2 H2 fun b H3 => if b = true then te σ2 H3 fun y H4 => ∃ m', m' < m ∧ W (i + 1) m' (ys ++ [y]) σ2 H4 else ∃ m', m' < m ∧ W (i + 1) m' ys σ2 H3)
/-- a list comprehension's reading: its source, its target, its test (if there is one), its element -/
def tLC (n : List Str) (js : List Nat) (wi : TI) (g : TG) (tc : Option TT) (te : TE) : TE := fun σ H Q => wi σ H fun J H1 => LcW J n js g tc te σ H1 Q

/-- the tests as the walk takes them -/
def PIf (X : Cx) (ifs : List Expr) (tc : Option TT) : Prop := match ifs, tc with
  | [], none => True
  | [c], some t => PT X c t
  | _, _ => False
section
variable {X : Cx} {pins : List (Addr × Obj)} {σ : St} {H : Hp} {s : Shared} {xs ys : List Str} {scope : Scope} {fp : List Addr} {C D : Addr} {js : List Nat}
/-- the slots that the block takes over -/
def Caps (X : Cx) (ys : List Str) (js : List Nat) : Prop := js.length = ys.length ∧ ∀ (i : Nat) (y : Str) (j : Nat), ys[i]? = some y → js[i]? = some j → X.N[j]? = some y
theorem clos_ok (I : Inv X pins σ H s) (S : LcScope xs ys scope X.env.scope) : ∀ x ∈ scope.names, x.2 = .free → ∃ c, X.env.cells.lookup x.1 = some c := fun x hx hf =>
  I.ok.has x.1 ((S.cap x.1 (S.free x hx hf)).2.elim .inl .inr)
theorem clos_look (I : Inv X pins σ H s) (S : LcScope xs ys scope X.env.scope) {y : Str} {c : Addr} (e : (closL X.env scope.names []).lookup y = some c) : X.env.cells.lookup y = some c :=
  closL_lookup scope.names [] (clos_ok I S) (fun _ _ z => nomatch z) e
theorem block_start (I : Inv X pins σ H s) (S : LcScope xs ys scope X.env.scope) (hj : Caps X ys js) (f2 : ∀ b ∈ fp, FpOk X pins H b) (fo : ∀ b ∈ fp, b < s.heap.objs.size)
    {h₁ : Heap} {m : Str → Option Value} {tk : Nat} {oD : Obj} (hC : s.heap.objs.size ≤ C) (hD : s.heap.objs.size ≤ D) (hDC : D ≠ C) (hn : h₁.Ns C m) (hd : h₁.get? D = some oD) (hdd : ∀ v, oD.data ≠ .cell v)
    (old : ∀ b o, s.heap.get? b = some o → h₁.get? b = some o) :
    Inv (blockCx X xs ys scope C s H fp) [(D, oD)] (lcSt xs js σ) H { s with heap := h₁, toks := tk } := by
  have cl := fun y c => clos_look (y := y) (c := c) I S
  have nC : H C = none := I.hok.fresh hC
  have nD : H D = none := I.hok.fresh hD
  have lt_of : ∀ {b : Addr}, b < s.heap.objs.size → b ≠ C := fun hb => Nat.ne_of_lt (Nat.lt_of_lt_of_le hb hC)
  have fsub : ∀ b, b ∈ frs X.stack → b ∈ X.env.locals :: X.fs := I.stkSub
  refine ⟨⟨I.ok.mod, ?_, I.ok.glob, I.ok.blt, hC, fun x y c h1 h2 => I.ok.inj x y c (cl x c h1) (cl y c h2), fun x hx => ?_, (fun x c h => nomatch h), I.ok.hd, I.ok.frames, .inl rfl, fun b hb => ⟨lt_of (fo b hb), fun x c h => (f2 b hb).2.2.2.2.1 x c (cl x c h)⟩, I.bs,
    Nat.le_trans I.ok.bsz I.sz, fun b o e hb => ?_, fun b hb hf => ?_, I.stack, I.stkFree⟩,
    rfl, I.bare, Un.kept old, ⟨m, hn, fun i x v e1 e2 e3 => ?_⟩, fun x c h => ?_, nC, fun x c h => I.freeC x c (cl x c h), fun p hp => ?_, I.hok.kept old, ?_⟩
  · show scope.kind = _
    exact S.kind
  · have hx : (relabel scope X.env).names.lookup x = some .cell ∨ (relabel scope X.env).names.lookup x = some .free := hx
    have hm : (x, NameKind.free) ∈ scope.names := by
      rcases hx with hx | hx
      · rcases lookup_relabel hx with z | z
        · exact absurd rfl (S.nocell _ (PySem.mem_of_lookup z))
        · exact PySem.mem_of_lookup z.1
      · rcases lookup_relabel hx with z | z
        · exact PySem.mem_of_lookup z
        · exact nomatch z.2
    exact closL_has scope.names [] (.inl hm)
  · rcases (f2 b hb).2.2.2.1 with z | z
    · exact I.ok.noex b o e z
    · exact absurd (Nat.lt_of_lt_of_le (Heap.lt_size e) (Nat.le_trans I.ok.bsz z)) (Nat.lt_irrefl _)
  · rcases List.mem_cons.mp (fsub b hf) with z | z
    · exact (f2 b hb).2.1 z
    · exact (f2 b hb).2.2.1 z
  · have e1 : (xs ++ ys)[i]? = some x := e1
    have e2 : (xs.map (fun _ => (none : Option V)) ++ js.map fun j => (σ[j]?).join)[i]? = some (some v) := e2
    by_cases hi : i < xs.length
    · rw [List.getElem?_append_left (by simpa using hi), List.getElem?_map] at e2
      cases q : xs[i]? with
      | none => rw [q] at e2; cases e2
      | some z => rw [q] at e2; cases e2
    · rw [List.getElem?_append_right (by simpa using hi), List.length_map, List.getElem?_map] at e2
      rw [List.getElem?_append_right (by simpa using hi)] at e1
      cases q : js[i - xs.length]? with
      | none => rw [q] at e2; cases e2
      | some j =>
        rw [q] at e2
        have e2' : (σ[j]?).join = some v := Option.some.inj e2
        have hy := hj.2 _ _ _ e1 q
        have hσ : σ[j]? = some (some v) := by
          cases z : σ[j]? with
          | none => rw [z] at e2'; cases e2'
          | some t => rw [z] at e2'; exact congrArg some e2'
        have ym : x ∈ ys := List.mem_of_getElem? e1
        obtain ⟨cf, ca⟩ := S.cap x ym
        obtain ⟨m0, _, hl⟩ := I.loc
        obtain ⟨u, ru, lk⟩ := hl j x v hy hσ (ca.elim (fun z => .inr (.inl z)) fun z => .inr (.inr z))
        refine ⟨u, ru, .inr ⟨?_, ?_⟩⟩
        · exact relabel_free (env := X.env) cf
        · rcases lk with ⟨k, _⟩ | ⟨_, c, ec, zc⟩
          · have k : X.env.scope.names.lookup x = some .local := k
            rcases ca with z | z <;> · rw [k] at z; cases z
          · obtain ⟨c', ec'⟩ := closL_has (env := X.env) (y := x) scope.names [] (.inl (PySem.mem_of_lookup cf))
            have e3 := cl x c' ec'
            rw [ec] at e3
            cases e3
            obtain ⟨o, ho, hod⟩ := zc
            exact ⟨_, ec', o, old _ _ ho, hod⟩
  · obtain ⟨v, o, ho, hod⟩ := I.cell x c (cl x c h)
    exact ⟨v, o, old _ _ ho, hod⟩
  · have hp : p ∈ [(D, oD)] := by simpa [blockCx] using hp
    have e := List.mem_singleton.mp hp
    subst e
    refine ⟨hd, nD, hDC, fun hf => ?_, hdd⟩
    have hf : D ∈ frs X.stack := hf
    obtain ⟨o, ho⟩ : ∃ o, s.heap.get? D = some o := by
      rcases List.mem_cons.mp (fsub D hf) with z | z
      · obtain ⟨m0, ⟨o, _, _, ho, _⟩, _⟩ := I.loc
        have z : D = X.env.locals := z
        exact ⟨o, z ▸ ho⟩
      · exact absurd z (I.nofs hD)
    exact absurd (Heap.lt_size ho) (Nat.not_lt.mpr hD)
  · show (xs.map (fun _ => (none : Option V)) ++ js.map fun j => (σ[j]?).join).length = (xs ++ ys).length
    rw [List.length_append, List.length_append, List.length_map, List.length_map, hj.1]
end
section
variable {X : Cx} {pins : List (Addr × Obj)} {σ : St} {H : Hp} {s : Shared} {xs ys : List Str} {scope : Scope} {js : List Nat} {tg iter elt : Expr} {ifs : List Expr} {pos : Pos} {wi : TI} {g : TG} {tc : Option TT} {te : TE}
theorem wp_no {α : Type} {M : Model} {A : Around} {t : Sem α} {Q : α → Shared → Prop} {E : Value → Shared → Prop} {s : Shared} (h : wpAny M A t Q (fun _ _ => False) s) : wpAny M A t Q E s := wpAny_mono h (fun _ _ x => x) fun _ _ z => z.elim
/-- the turn of a list comprehension, any target -/
theorem compLoop_any {prog : Program} {w : World} {A : Around} {R : Result → Shared → Prop} {it acc : Value} {env : Env} (J : Nat → Shared → Prop)
    (turn : ∀ n s, J n s → wpAny (model prog w) A (pyNext it) (fun r s₁ => match r with
      | none => R (.ok .next) s₁
      | some v => wpAny (model prog w) A (letOwnedTupleGo tg it v) (fun _ s₁' => wpAny (model prog w) A (assign tg env v) (fun _ s₂ =>
          wpAny (model prog w) A (forIn ifs true fun c r => if r = true then do let ok ← isTrue c env (eval c env); pure (ForInStep.yield ok) else pure (ForInStep.yield r)) (fun ok s₃ =>
            if ok = true then wpAny (model prog w) A (eval elt env) (fun x s₄ =>
              wpAny (model prog w) A (call (.builtin "list.append") [acc, x]) (fun _ s₅ => ∃ m, m < n ∧ J m s₅) (fun _ _ => False) s₄) (fun _ _ => False) s₃
            else ∃ m, m < n ∧ J m s₃) (fun _ _ => False) s₂) (fun _ _ => False) s₁') (fun _ _ => False) s₁) (fun _ _ => False) s)
    (n : Nat) (h : J n s) : codeAny (model prog w) A (.compLoop (.ListComp elt [⟨tg, iter, ifs, 0⟩] scope pos) 0 it acc env) R s := by
  refine codeAny_loop rfl J (fun n s hI => ?_) n h
  show wpAny _ A ((compTurn (.ListComp elt [⟨tg, iter, ifs, 0⟩] scope pos) 0 it acc env).onRaise (fun x => do noteFrame x env; theTreesLotGoes x)) _ _ s
  refine wpAny_noted ?_
  rw [compTurn_list]
  refine wpAny_bind (wpAny_standAt (wpAny_bind (wp_no (thn (turn n s hI) fun r s₁ h₁ => ?_))))
  cases r with
  | none => exact wpAny_pure h₁
  | some v =>
    refine wpAny_bind (wp_no (thn h₁ fun _ s₁' h₁' => wpAny_bind (wp_no (thn h₁' fun _ s₂ h₂ => wpAny_bind (wp_no (thn h₂ fun ok s₃ h₃ => ?_))))))
    cases ok with
    | false => exact wpAny_pure ⟨rfl, h₃⟩
    | true => exact wpAny_bind (wpAny_bind (wp_no (thn h₃ fun x s₄ h₄ => wpAny_bind (wp_no (thn h₄ fun _ s₅ h₅ => wpAny_pure (wpAny_pure ⟨rfl, h₅⟩))))))
/-- what is left behind a comprehension: the list at D, the block's own namespace at C -/
structure LcEnd (X : Cx) (pins : List (Addr × Obj)) (σ : St) (C : Addr) (H' : Hp) (s' : Shared) : Prop where
  inv : Inv X pins σ H' s'
  ns : ∃ m, s'.heap.Ns C m
  free : H' C = none
  ne : C ≠ X.env.locals
  up : X.s₀.heap.objs.size ≤ C
  cells : ∀ x c, X.env.cells.lookup x = some c → c ≠ C
  pin : ∀ p ∈ X.pn ++ pins, p.1 ≠ C
theorem LcEnd.gone {C : Addr} {H' : Hp} {s' : Shared} (L : LcEnd X pins σ C H' s') {h' : Heap} (hs : Heap.SameBut C s'.heap h') : Inv X pins σ H' { s' with heap := h' } :=
  L.inv.turned (t' := s'.toks) (fun b o hb e => hs.extBut b o hb e) L.free L.ne (.inr L.up) L.cells L.pin
theorem lc_core (hc : X.calm = true) (S : LcScope xs ys scope X.env.scope) (hj : Caps X ys js) (hi : PI X tg iter wi)
    (hg : ∀ C s₀ H₀ fp, PG (blockCx X xs ys scope C s₀ H₀ fp) tg g) (hif : ∀ C s₀ H₀ fp, PIf (blockCx X xs ys scope C s₀ H₀ fp) ifs tc) (he : ∀ C s₀ H₀ fp, PE (blockCx X xs ys scope C s₀ H₀ fp) elt te)
    {RR : Value → Addr → Result → Shared → Prop} {Q : VK} (I : Inv X pins σ H s) (h : tLC xs js wi g tc te σ H Q)
    (fin : ∀ D C H' s', LcEnd X pins σ C H' s' → Q (.ref D) H' → RR (.ref D) C (.ok .next) s') :
    wpAny (model X.prog X.w) X.A (eval iter X.env) (fun x s₁ => wpAny (model X.prog X.w) X.A (pyIter x) (fun it s₂ => wpAny (model X.prog X.w) X.A (newList []) (fun acc s₃ =>
      wpAny (model X.prog X.w) X.A (newFunctionEnv scope X.env.globals (closL X.env scope.names []) [] X.env.qual none .none (some X.env)) (fun cenv s₄ =>
        codeAny (model X.prog X.w) X.A (.compStart (.ListComp elt [⟨tg, iter, ifs, 0⟩] scope pos) 0 it acc { cenv with scope := relabel scope X.env }) (RR acc cenv.locals) s₄) X.xe s₃) X.xe s₂) X.xe s₁) X.xe s := by
  refine thn (hi pins s σ H _ I h) fun v s1 h1 => thn h1 fun itv s2 h2 => ?_
  obtain ⟨it, fp, tn, J, H2, e, I2, T, st2, f2, W, ⟨m0, w0⟩, turn⟩ := h2
  subst e
  have fo : ∀ b ∈ fp, b < s2.heap.objs.size := fun b hb => let ⟨o, e, _⟩ := T.obj _ _ st2 b hb; Heap.lt_size e
  refine wpAny_newObj_type (wpAny_newFunctionEnv S.nocell (by intro y hy; simp at hy) (fun h₁ hns₁ hsb₁ => ?_) S.kind)
  dsimp only at hns₁ hsb₁ ⊢
  generalize hH2 : s2.heap.push { cls := .type "list", dict := none, data := .seq ([] : List Value).toArray } = G at hns₁ hsb₁ ⊢
  have hC : G.objs.size = s2.heap.objs.size + 1 := by rw [← hH2, Heap.size_push]
  have hDC : s2.heap.objs.size ≠ G.objs.size := by rw [hC]; exact Nat.ne_of_lt (Nat.lt_succ_self _)
  have hCle : s2.heap.objs.size ≤ G.objs.size := by rw [hC]; exact Nat.le_succ _
  have below : ∀ b, b < s2.heap.objs.size → b ≠ G.objs.size ∧ b ≠ s2.heap.objs.size := fun b hb => ⟨by rw [hC]; exact Nat.ne_of_lt (Nat.lt_succ_of_lt hb), Nat.ne_of_lt hb⟩
  have old : ∀ b o, s2.heap.get? b = some o → h₁.get? b = some o := fun b o e => hsb₁.extBut b o (below b (Heap.lt_size e)).1 (Heap.get?_push_of_some _ (hH2 ▸ Heap.get?_push_of_some _ e))
  have hacc : h₁.get? s2.heap.objs.size = some (LCg.lst []) := hsb₁.extBut _ _ hDC (Heap.get?_push_of_some _ (hH2 ▸ Heap.get?_push_size _ rfl))
  have st₁ : tn 0 h₁ := T.keep _ _ _ st2 fun b _ o e => old b o e
  have I3 := block_start (C := G.objs.size) (D := s2.heap.objs.size) (tk := s2.toks + ([] : List (Str × Value)).length) I2 S hj f2 fo hCle (Nat.le_refl _) hDC hns₁ hacc (by intro v hv; cases hv) old
  generalize hX : blockCx X xs ys scope G.objs.size s2 H2 fp = B at I3
  have pB : B.prog = X.prog := by rw [← hX]; rfl
  have wB : B.w = X.w := by rw [← hX]; rfl
  have kB : B.K = X.K := by rw [← hX]; rfl
  have aB : B.A = X.A := by rw [← hX]; rfl
  have eB : B.env = compEnvC scope (closL X.env scope.names []) G.objs.size X.env := by rw [← hX]; rfl
  have cB : B.calm = true := by rw [← hX]; exact hc
  have xB : B.xe = fun _ _ => False := by rw [← hX]; rfl
  have gB : PG B tg g := by rw [← hX]; exact hg _ _ _ _
  have iB : PIf B ifs tc := by rw [← hX]; exact hif _ _ _ _
  have elB : PE B elt te := by rw [← hX]; exact he _ _ _ _
  have sB : B.s₀ = s2 := by rw [← hX]; rfl
  have hB : B.H₀ = H2 := by rw [← hX]; rfl
  have fB : B.fs = frs X.stack := by rw [← hX]; rfl
  have exB : B.ex = fp := by rw [← hX]; rfl
  have pnB : B.pn = [] := by rw [← hX]; rfl
  have statB : ∀ {H' : Hp} {oD : Obj} {σ' : St} {s' : Shared}, Inv B [(s2.heap.objs.size, oD)] σ' H' s' → (∀ b ∈ fp, H' b = none) → ∀ b ∈ fp, FpOk B [(s2.heap.objs.size, oD)] H' b := fun {H' oD σ' s'} I' hn b hb =>
    ⟨hn b hb, (I'.ok.exf b (exB ▸ hb)).1, I'.ok.exfs b (exB ▸ hb), .inl (exB ▸ hb), (I'.ok.exf b (exB ▸ hb)).2, fun p hp => by
      rw [pnB] at hp
      have e := List.mem_singleton.mp (show p ∈ [(s2.heap.objs.size, oD)] from hp)
      subst e
      exact Nat.ne_of_gt (fo b hb)⟩
  have loop : ∀ s₃ : Shared, s₃ = { s2 with heap := h₁, toks := s2.toks + ([] : List (Str × Value)).length } →
      codeAny (model X.prog X.w) X.A (.compLoop (.ListComp elt [⟨tg, iter, ifs, 0⟩] scope pos) 0 (.ref it) (.ref s2.heap.objs.size) (compEnvC scope (closL X.env scope.names []) G.objs.size X.env)) (RR (.ref s2.heap.objs.size) G.objs.size) s₃ := by
    rintro s₃ rfl
    refine compLoop_any (fun n s' => ∃ i ys its σ1 H', Inv B [(s2.heap.objs.size, LCg.lst its)] σ1 H' s' ∧ Vals ys its ∧ tn i s'.heap ∧ (∀ b ∈ fp, H' b = none) ∧ ys.length ≤ sizeLine ∧ W i n ys σ1 H') ?_ m0
      ⟨0, [], [], _, H2, I3, .nil, st₁, fun b hb => (f2 b hb).1, Nat.zero_le _, w0⟩
    rintro n s' ⟨i, ys', its, σ1, H', I', rv, st', fr', hz, w'⟩
    have rl := rv.length
    rcases turn i n ys' σ1 H' w' with ⟨stop, qn⟩ | ⟨go, hz', step⟩
    · have q := T.done B pB wB kB cB i _ s' σ1 H' (fun _ _ => False) I' (statB I' fr') st' stop
      rw [aB] at q
      refine thn q fun r s4 ⟨hr, I4⟩ => ?_
      subst hr
      have pD := (I4.pin (s2.heap.objs.size, LCg.lst its) (List.mem_append_right _ List.mem_cons_self))
      have hDn : H' s2.heap.objs.size = none := pD.2.1
      have ub := I4.base
      rw [fB, exB, hB, sB] at ub
      have neD : ∀ {b : Addr} {o : HO}, H' b = some o → b ≠ s2.heap.objs.size := fun e z => by rw [z, hDn] at e; cases e
      have upk : ∀ {b : Addr} {o : HO}, H' b = some o → upd H' s2.heap.objs.size (.lst ys') b = some o := fun e => by rw [upd_ne (neD e)]; exact e
      have u : Un (frs X.stack) fp H2 (upd H' s2.heap.objs.size (.lst ys')) s2.heap s4.heap :=
        ⟨ub.keep, ub.slot, fun b o e n hx => by rw [upd_ne (below b (Heap.lt_size e)).2]; exact ub.free b o e n hx, ub.there, fun b zs e => upk (ub.tups b zs e), fun b o zs e => upk (ub.frzs b o zs e), fun b ps e => let ⟨more, q⟩ := ub.tbls b ps e; ⟨more, upk q⟩⟩
      have hok4 : HOk X.prog X.w H' s4.heap := by have := I4.hok; rw [pB, wB] at this; exact this
      have hok : HOk X.prog X.w (upd H' s2.heap.objs.size (.lst ys')) s4.heap := fun b o e => by
        by_cases hb : b = s2.heap.objs.size
        · subst hb
          rw [upd_same] at e
          cases e
          exact ⟨hz, its, its.length, rv, pD.1⟩
        · rw [upd_ne hb] at e
          exact (hok4 b o e).stay (fun _ _ _ q => q) (fun _ q => upk q) fun _ _ q => upk q
      have I5 : Inv X pins σ (upd H' s2.heap.objs.size (.lst ys')) s4 := I2.call' (ch := fp) (by rw [I4.os, sB]) u hok I4.bare fun b hb => let f := f2 b hb; ⟨f.2.2.2.1, f.2.1, f.2.2.2.2.1, f.2.2.2.2.2⟩
      refine fin s2.heap.objs.size G.objs.size _ s4 ⟨I5, ?_, ?_, ?_, Nat.le_trans I2.sz hCle, fun x c e z => ?_, fun p hp z => ?_⟩ (qn _ hDn)
      · obtain ⟨m, hn, _⟩ := I4.loc
        rw [eB] at hn
        exact ⟨m, hn⟩
      · have fr := I4.free
        rw [eB] at fr
        rw [upd_ne (Ne.symm hDC)]
        exact fr
      · exact Ne.symm (below _ I2.lt).1
      · obtain ⟨_, o, ho, _⟩ := I2.cell x c e
        exact (below c (Heap.lt_size ho)).1 z
      · exact (below p.1 (Heap.lt_size (I2.pin p hp).1)).1 z
    · have q := T.item B pB wB kB cB i _ s' σ1 H' (fun _ _ => False) I' (statB I' fr') st' go
      rw [aB] at q
      refine thn q fun r s4 ⟨u, hr, h4⟩ => ?_
      subst hr
      refine thn h4 fun _ s5 ⟨x, H5, I5, r5, y5, st5, fr5⟩ => ?_
      have I5' := I5.pinned (statB I5 fr5) (T.obj _ _ st5)
      have q5 := gB _ s5 σ1 H5 x u _ I5' r5 (step x H5 y5)
      rw [pB, wB, aB, eB, xB] at q5
      refine thn q5 fun _ s6 ⟨σ6, H6, I6, q6⟩ => ?_
      -- the element and the append
      have last : ∀ {s7 : Shared} {H7 : Hp}, Inv B ([(s2.heap.objs.size, LCg.lst its)] ++ pinsAt fp s5.heap) σ6 H7 s7 → (te σ6 H7 fun y H8 => ∃ m', m' < n ∧ W (i + 1) m' (ys' ++ [y]) σ6 H8) →
          wpAny (model X.prog X.w) X.A (eval elt (compEnvC scope (closL X.env scope.names []) G.objs.size X.env)) (fun x s₄ =>
              wpAny (model X.prog X.w) X.A (call (.builtin "list.append") [.ref s2.heap.objs.size, x]) (fun _ s₅ => ∃ m, m < n ∧
                ∃ i ys its σ1 H', Inv B [(s2.heap.objs.size, LCg.lst its)] σ1 H' s₅ ∧ Vals ys its ∧ tn i s₅.heap ∧ (∀ b ∈ fp, H' b = none) ∧ ys.length ≤ sizeLine ∧ W i m ys σ1 H') (fun _ _ => False) s₄) (fun _ _ => False) s7 := fun {s7 H7} I7 q7 => by
        have q8 := elB _ s7 σ6 H7 _ I7 q7
        rw [pB, wB, aB, eB, xB] at q8
        refine thn q8 fun uy s8 ⟨y, H8, I8, r8, m', hm', w8⟩ => ?_
        have pD := (I8.pin (s2.heap.objs.size, LCg.lst its) (List.mem_append_right _ (List.mem_append_left _ List.mem_cons_self)))
        refine append_at (its := its.toArray) (n := its.length) pD.1 (fun h9 hs9 hd9 => ?_) (by rw [List.size_toArray, ← rl]; exact hz)
        have dropped : Inv B (pinsAt fp s5.heap) σ6 H8 s8 := I8.pins_of fun p hp => I8.pin p (List.mem_append_right _ (List.mem_append_right _ hp))
        have apart : ∀ p ∈ B.pn ++ pinsAt fp s5.heap, p.1 ≠ s2.heap.objs.size := fun p hp => by
          rw [pnB] at hp
          exact Nat.ne_of_lt (fo _ (of_pinsAt (show p ∈ pinsAt fp s5.heap from hp)).1)
        have I9 : Inv B (pinsAt fp s5.heap) σ6 H8 { s8 with heap := h9 } := dropped.turned (t' := s8.toks) (fun b o hb e => hs9.extBut b o hb e) pD.2.1 pD.2.2.1 (.inr (by rw [sB]; exact Nat.le_refl _)) (fun x c e => by
          intro z
          obtain ⟨v, o, ho, hd⟩ := I8.cell x c e
          rw [z, pD.1] at ho
          cases ho
          cases hd) apart
        have I9' : Inv B [(s2.heap.objs.size, LCg.lst (its ++ [uy]))] σ6 H8 { s8 with heap := h9 } := I9.pins_of fun p hp => by
          have e := List.mem_singleton.mp hp
          subst e
          exact ⟨hd9.trans (congrArg some (LCg.lst_snoc its uy)), pD.2.1, pD.2.2.1, pD.2.2.2.1, by intro v hv; cases hv⟩
        refine ⟨m', hm', i + 1, ys' ++ [y], its ++ [uy], σ6, H8, I9', Vals.append rv (.cons r8 .nil), T.keep _ _ _ st5 fun b hb o e => ?_, fun b hb => ?_, by rw [List.length_append]; exact hz', w8⟩
        · exact (I9.pin (b, o) (List.mem_append_right _ (mem_pinsAt hb e))).1
        · obtain ⟨o, e, d⟩ := T.obj _ _ st5 b hb
          exact (I9.pin (b, o) (List.mem_append_right _ (mem_pinsAt hb e))).2.1
      have again : ∀ {s7 : Shared} {H7 : Hp}, Inv B ([(s2.heap.objs.size, LCg.lst its)] ++ pinsAt fp s5.heap) σ6 H7 s7 → (∃ m', m' < n ∧ W (i + 1) m' ys' σ6 H7) → ∃ m, m < n ∧
          ∃ i ys its σ1 H', Inv B [(s2.heap.objs.size, LCg.lst its)] σ1 H' s7 ∧ Vals ys its ∧ tn i s7.heap ∧ (∀ b ∈ fp, H' b = none) ∧ ys.length ≤ sizeLine ∧ W i m ys σ1 H' := fun {s7 H7} I7 ⟨m', hm', w7⟩ => by
        refine ⟨m', hm', i + 1, ys', its, σ6, H7, I7.unpinned, rv, T.keep _ _ _ st5 fun b hb o e => (I7.pin (b, o) (List.mem_append_right _ (List.mem_append_right _ (mem_pinsAt hb e)))).1, fun b hb => ?_, hz, w7⟩
        obtain ⟨o, e, d⟩ := T.obj _ _ st5 b hb
        exact (I7.pin (b, o) (List.mem_append_right _ (List.mem_append_right _ (mem_pinsAt hb e)))).2.1
      match ifs, tc, iB, q6 with
      | [], none, _, q6 =>
        refine wpAny_tests_nil ?_
        rw [if_pos rfl]
        exact last I6 q6
      | [c], some t, iB, q6 =>
        have iB : PT B c t := iB
        have q7 := iB _ s6 σ6 H6 _ I6 q6
        rw [pB, wB, aB, eB, xB] at q7
        refine wpAny_tests_one (thn q7 fun b s7 ⟨H7, I7, q7⟩ => ?_)
        cases b with
        | true => rw [if_pos rfl] at q7 ⊢; exact last I7 q7
        | false => rw [if_neg Bool.false_ne_true] at q7 ⊢; exact again I7 q7
  exact codeAny_compStart_list (loop _ rfl) (T.self _ 0 _ _ _ st₁ (loop _ rfl))
/-- [elt for tg in iter], [elt for tg in iter if c] -/
theorem pe_lc (hc : X.calm = true) (S : LcScope xs ys scope X.env.scope) (hj : Caps X ys js) (hi : PI X tg iter wi)
    (hg : ∀ C s₀ H₀ fp, PG (blockCx X xs ys scope C s₀ H₀ fp) tg g) (hif : ∀ C s₀ H₀ fp, PIf (blockCx X xs ys scope C s₀ H₀ fp) ifs tc) (he : ∀ C s₀ H₀ fp, PE (blockCx X xs ys scope C s₀ H₀ fp) elt te)
    (hs : ∀ x, foldedSetIterable iter X.env x = pure x := by intro _; rfl) : PE X (.ListComp elt [⟨tg, iter, ifs, 0⟩] scope pos) (tLC xs js wi g tc te) := by
  intro pins s σ H Q I h
  rw [eval_ListComp]
  refine wpAny_comprehension_free (use := none) rfl hs (closureFor_is (clos_ok I S)) S.kind S.names ?_
  refine lc_core (RR := fun acc C => compPost (model X.prog X.w) X.A X.xe none (EP X pins σ Q) acc C) hc S hj hi hg hif he I h fun D C H' s' L q => ?_
  obtain ⟨m, hn⟩ := L.ns
  exact ⟨m, hn, fun h'' hs'' => ⟨.ref D, H', L.gone hs'', rfl, q⟩⟩
/-- name = [elt for tg in iter ..], a plain local name on the same row -/
theorem ps_setLC {i : Nat} {x : Str} {p' p : Pos} (hN : X.N.Nodup) (hx : X.N[i]? = some x) (hl : X.env.scope.names.lookup x = some .local) (hc : X.calm = true) (S : LcScope xs ys scope X.env.scope) (hj : Caps X ys js) (hi : PI X tg iter wi)
    (hg : ∀ C s₀ H₀ fp, PG (blockCx X xs ys scope C s₀ H₀ fp) tg g) (hif : ∀ C s₀ H₀ fp, PIf (blockCx X xs ys scope C s₀ H₀ fp) ifs tc) (he : ∀ C s₀ H₀ fp, PE (blockCx X xs ys scope C s₀ H₀ fp) elt te)
    (hsw : swapsWith (.ListComp elt [⟨tg, iter, ifs, 0⟩] scope pos) (some (.Name x p')) p.line X.env = pure true := by rfl)
    (hs : ∀ x, foldedSetIterable iter X.env x = pure x := by intro _; rfl) : PS X (.Assign [.Name x p'] (.ListComp elt [⟨tg, iter, ifs, 0⟩] scope pos) p) (tAsg (tLC xs js wi g tc te) (gName i)) := by
  intro pins s σ H D I h
  rw [exec_Assign_Name_used _ _ _ _ hsw]
  refine wpAny_bind (wpAny_standAt (wpAny_bind ?_))
  show wpAny _ X.A (do let _ ← comprehension (.ListComp elt [⟨tg, iter, ifs, 0⟩] scope pos) scope X.env _ (newList []) false (eval iter X.env) (some (assign (.Name x p') X.env))) _ _ s
  refine wpAny_bind (wpAny_mono (wpAny_comprehension_free (use := some (assign (.Name x p') X.env)) (Q := fun _ s' => SP X pins D .next s') rfl hs (closureFor_is (clos_ok I S)) S.kind S.names ?_) (fun _ s' hq => wpAny_pure (wpAny_pure hq)) fun _ _ e => e)
  refine lc_core (Q := fun v H' => gName i v σ H' D.nx) (RR := fun acc C => compPost (model X.prog X.w) X.A X.xe (some (assign (.Name x p') X.env)) (fun _ s' => SP X pins D .next s') acc C) hc S hj hi hg hif he I h fun A C H' s' L q => ?_
  show wpAny _ X.A (assign (.Name x p') X.env (.ref A)) _ _ _
  refine wpAny_assign_Name (store_ok2 (v := .ref A) L.inv hN hx (.inl hl) rfl (fun s'' I'' ⟨a, sb, ha⟩ => ?_) (.inr hl))
  have cne : ∀ {b : Addr}, (b = X.env.locals ∨ X.env.cells.lookup x = some b) → C ≠ b := fun z e => by
    rcases z with z | z
    · exact L.ne (e.trans z)
    · exact L.cells x _ z e.symm
  obtain ⟨m, hn⟩ := L.ns
  refine ⟨m, hn.sameBut sb (cne ha), fun h'' hs'' => ⟨_, _, ?_, q⟩⟩
  exact LcEnd.gone ⟨I'', ⟨m, hn.sameBut sb (cne ha)⟩, L.free, L.ne, L.up, L.cells, L.pin⟩ hs''
end
end L2
set_option Elab.async false
set_option linter.all false
set_option maxRecDepth 100000
namespace L2
open PySem PySem.Spec PyProof.Rows

/-! ### signs of a text, one by one -/
/-- the signs of a text, as texts -/
def Its (x : Str) : It := ⟨fun i _ => i < x.cps.size, fun i H v H' => H' = H ∧ ∃ c, x.cps[i]? = some c ∧ v = .str ⟨#[c]⟩, fun i _ => x.cps.size ≤ i⟩
section
variable {X : Cx} {tg : Expr}
theorem turn_walk {P : Program} {w : World} {K : PySem.W.Frag} {tg : Expr} {it : Addr} {n : Nat} {Pv : Nat → Value → Prop} {St : Nat → Heap → Prop} {J : It} {T : String}
    (W : ∀ A' : Around, A'.handled = none → Walks P w A' it [it] [it] n Pv St) (ho : ∀ i h, St i h → ∃ o vs, h.get? it = some o ∧ o.cls = .type T ∧ o.data = .fields vs)
    (hT : ["enumerate", "zip", "dict_itemiterator", "dict_reverseitemiterator", "odict_iterator", "itertools.zip_longest", "itertools.pairwise"].contains T = false)
    (hgo : ∀ i H, J.go i H → i < n) (hst : ∀ i H, J.stop i H → n ≤ i) (hy : ∀ i H u, Pv i u → ∃ x, RelV x u ∧ J.yld i H x H) (hself : ∀ (A : Around) (i : Nat) (s : Shared) (Q : Value → Shared → Prop) (E : Value → Shared → Prop), St i s.heap → Q (.ref it) s → wpAny (model P w) A (pyIter (.ref it)) Q E s) : Turn P w K tg J [it] it (fun i h => St i h ∧ i ≤ n) where
  mem := by simp
  obj := fun i h st b hb => by
    have e : b = it := by simpa using hb
    subst e
    obtain ⟨o, vs, e, c, d⟩ := ho i h st.1
    exact ⟨o, e, fun v z => by rw [d] at z; cases z⟩
  keep := fun i h h' st k => ⟨(W {} rfl).frame i h h' st.1 k, st.2⟩
  item := by
    intro X hP hw hK hc i pins s σ H E I hf st hg
    subst hP hw hK
    obtain ⟨f0, f1, f2, f3, f4, f5⟩ := hf it (by simp)
    refine (W X.A (I.ok.hd hc)).item i s _ _ (hgo i H hg) st.1 fun v h' tk hv st' k => ?_
    have I1 : Inv X pins σ H { s with heap := h', toks := tk } := I.turned (fun b o hb e => k b o (by simpa using hb) e) f0 f1 f3 f4 f5
    obtain ⟨o, vs, e, c, d⟩ := ho _ _ st'
    obtain ⟨x, rx, yx⟩ := hy i H v hv
    exact ⟨v, rfl, go_of (s := { s with heap := h', toks := tk }) e c d hT ⟨x, H, I1, rx, yx, ⟨st', hgo i H hg⟩, fun b hb => (hf b hb).1⟩⟩
  done := by
    intro X hP hw hK hc i pins s σ H E I hf st hg
    subst hP hw hK
    obtain ⟨f0, f1, f2, f3, f4, f5⟩ := hf it (by simp)
    have e : i = n := Nat.le_antisymm st.2 (hst i H hg)
    subst e
    exact (W X.A (I.ok.hd hc)).done s _ _ st.1 fun h' tk k => ⟨rfl, I.turned (fun b o hb e => k b o (by simpa using hb) e) f0 f1 f3 f4 f5⟩
  self := fun A i s Q E st q => hself A i s Q E st.1 q
def iStr (tl : TE) : TI := fun σ H R => tl σ H fun x H1 => ∃ z, x = .str z ∧ R (Its z) H1
theorem pi_str {l : Expr} {tl : TE} (hl : PE X l tl) : PI X tg l (iStr tl) := by
  intro pins s σ H R I h
  refine thn (hl pins s σ H _ I h) fun v s1 ⟨x, H1, I1, r1, z, e, q⟩ => ?_
  subst e
  obtain ⟨t, rfl⟩ := r1
  have go : ∀ (T : String) (o : Obj) (St : Nat → Heap → Prop), (∀ A' : Around, A'.handled = none → Walks X.prog X.w A' s1.heap.objs.size [s1.heap.objs.size] [s1.heap.objs.size] z.cps.size (SignAt z) St) →
      (∀ i h, St i h → ∃ o vs, h.get? s1.heap.objs.size = some o ∧ o.cls = .type T ∧ o.data = .fields vs) →
      (["enumerate", "zip", "dict_itemiterator", "dict_reverseitemiterator", "odict_iterator", "itertools.zip_longest", "itertools.pairwise"].contains T = false) → St 0 (s1.heap.push o) →
      (∀ (A : Around) (i : Nat) (s : Shared) (Q : Value → Shared → Prop) (E : Value → Shared → Prop), St i s.heap → Q (.ref s1.heap.objs.size) s → wpAny (model X.prog X.w) A (pyIter (.ref s1.heap.objs.size)) Q E s) →
      PIE X pins σ tg R (.ref s1.heap.objs.size) { s1 with heap := s1.heap.push o } := fun T o St W ho hT st hself => by
    have I2 : Inv X pins σ H1 { s1 with heap := s1.heap.push o } := I1.kept (t' := s1.toks) fun b u e => Heap.get?_push_of_some _ e
    refine ⟨_, [s1.heap.objs.size], _, Its z, H1, rfl, I2, turn_walk (J := Its z) W ho hT (fun _ _ h => h) (fun _ _ h => h) (fun i H u ⟨c, t', hc, hu⟩ => ⟨.str ⟨#[c]⟩, ⟨t', hu⟩, rfl, c, hc, rfl⟩) hself, ⟨st, Nat.zero_le _⟩, fun b hb => ?_, q⟩
    have e : b = s1.heap.objs.size := by simpa using hb
    subst e
    exact I1.fpOk (Nat.le_refl _) (I1.hok.fresh (Nat.le_refl _))
  cases ha : z.cps.all (· < 128)
  · exact wpAny_pyIter_wide ha (go _ _ _ (fun A' hA => Walks.strWide hA _ z t) (fun i h ⟨o, e, c, d⟩ => ⟨o, _, e, c, d⟩) (by decide) ⟨_, Heap.get?_push_size _ rfl, rfl, rfl⟩ fun A i s Q E st q => wpAny_pyIter_striter_wide st q)
  · exact wpAny_pyIter_ascii ha (go _ _ _ (fun A' hA => Walks.strAscii hA _ z t) (fun i h ⟨o, e, c, d⟩ => ⟨o, _, e, c, d⟩) (by decide) ⟨_, Heap.get?_push_size _ rfl, rfl, rfl⟩ fun A i s Q E st q => wpAny_pyIter_striter_ascii st q)
end
/-! ### a slice of a text -/
def rSlS : V → Option Int → Option Int → Hp → VK → Prop := fun x lo hi H Q => ∃ z, x = .str z ∧ z.length ≤ sizeLine ∧ Q (.str (Txt.slice z lo hi)) H
/-! ### sums, greatest, all -/
section
variable {X : Cx}
theorem part_of {v : Value} {o : Option Int} (p : IsPart v o) : ∃ l : Option (Int × Tok), v = partValue l ∧ o = l.map (·.1) := by
  cases p with
  | none => exact ⟨none, rfl, rfl⟩
  | int i t => exact ⟨some (i, t), rfl, rfl⟩
open PySem.Builtin PySem.Builtin.Str in
theorem sl_str : SlR X rSlS := by
  intro pins s σ H x v vl vu lo hi sl Q I rx hs pl pu h
  obtain ⟨z, rfl, hz, q⟩ := h
  obtain ⟨t, rfl⟩ := rx
  obtain ⟨l, rfl, rfl⟩ := part_of pl
  obtain ⟨u, rfl, rfl⟩ := part_of pu
  have key : (sliceMade z t l u none).post (EP X pins σ Q) s := by
    have e : Txt.slice z (l.map (·.1)) (u.map (·.1)) = if ((1 : Int) == 1 && (strSliceIndices (l.map (·.1)) (u.map (·.1)) 1 z.length).length == z.length) = true then z else ⟨((strSliceIndices (l.map (·.1)) (u.map (·.1)) 1 z.length).filterMap (z.cps[·]?)).toArray⟩ := rfl
    have h1 := Nat.le_trans (Txt.slice_le z (l.map (·.1)) (u.map (·.1))) hz
    rw [e] at h1 q
    show (if ((1 : Int) == 1 && (strSliceIndices (l.map (·.1)) (u.map (·.1)) 1 z.length).length == z.length) = true then Made.val (.str z t) else Made.str ⟨((strSliceIndices (l.map (·.1)) (u.map (·.1)) 1 z.length).filterMap (z.cps[·]?)).toArray⟩).post _ _
    exact post_val_or_str ⟨h1, fun t' k => ⟨.str (if ((1 : Int) == 1 && (strSliceIndices (l.map (·.1)) (u.map (·.1)) 1 z.length).length == z.length) = true then z else ⟨((strSliceIndices (l.map (·.1)) (u.map (·.1)) 1 z.length).filterMap (z.cps[·]?)).toArray⟩), H, I.tok k, ⟨t', rfl⟩, q⟩⟩
  exact ⟨"str", _, F.slot_str_getitem.lookup, typeIs_str _ _ _, wpAny_getItem_str_slice (l := l) (u := u) (st := none) hs rfl key⟩
def boolsOf (bs : List Bool) : List V := bs.map V.bl
theorem call_all : CallR X (.builtin "all") (fun xs H Q => X.calm = true ∧ ∃ (p : Addr) (bs : List Bool), xs = [.ref p] ∧ SqL X.K H p (bs.map V.bl) ∧ Q (.bl (bs.all id)) H) := by
  intro pins s σ H xs us Q I r h
  obtain ⟨hc, p, bs, rfl, hp, q⟩ := h
  obtain ⟨u, rfl, ru⟩ := vals1 r
  cases ru
  obtain ⟨its, rv, hl, hz⟩ := I.list hp
  have hlt : p < s.heap.objs.size := by obtain ⟨_, e, _⟩ := hl.isList; exact Heap.lt_size e
  have hlen := rv.length
  rw [List.length_map] at hlen
  refine call_all_walk (wpAny_pyIter_list hl.isList ?_)
  refine ⟨_, _, _, _, _, _, fun i => bs.getD i false, rfl, Walks.list (A := X.A.in1) (I.ok.hd hc) s.heap.objs.size p (Nat.ne_of_lt hlt) its.toArray, ⟨⟨_, Heap.get?_push_size _ rfl, rfl, rfl⟩, hl.isList.push _⟩, fun i v s' Q' E' hv q' => ?_, fun h' tk k => ?_⟩
  · have hv : its[i]? = some v := by simpa using hv
    have hi : i < bs.length := by
      have := (List.getElem?_eq_some_iff.mp hv).1
      omega
    obtain ⟨u', hu', ru'⟩ := rv.get (i := i) (x := .bl bs[i]) (by rw [List.getElem?_map, List.getElem?_eq_getElem hi]; rfl)
    rw [hv] at hu'
    cases hu'
    have e : v = Value.bool bs[i] := ru'
    subst e
    refine wpAny_truthy_bool ?_
    have e2 : bs.getD i false = bs[i] := by rw [List.getD_eq_getElem?_getD, List.getElem?_eq_getElem hi]; rfl
    rw [← e2]
    exact q'
  · refine ⟨.bl (bs.all id), H, ?_, ?_, q⟩
    · exact I.kept (h' := h') (t' := tk) fun b o e => k b o (by intro hm; have := List.mem_singleton.mp hm; exact absurd (this ▸ Heap.lt_size e) (Nat.lt_irrefl _)) (Heap.get?_push_of_some _ e)
    · have e : (List.range its.toArray.size).all (fun i => bs.getD i false) = bs.all id := by
        rw [List.size_toArray, ← hlen]
        rw [Bool.eq_iff_iff, List.all_eq_true, List.all_eq_true]
        constructor
        · intro a b hb
          obtain ⟨i, hi, rfl⟩ := List.getElem_of_mem hb
          have := a i (List.mem_range.mpr hi)
          rw [List.getD_eq_getElem?_getD, List.getElem?_eq_getElem hi] at this
          exact this
        · intro a i hi
          have hi := List.mem_range.mp hi
          rw [List.getD_eq_getElem?_getD, List.getElem?_eq_getElem hi]
          exact a _ (List.getElem_mem hi)
      show Value.bool _ = _
      rw [e]
theorem ints_pair : ∀ {ns : List Int} {its : List Value}, Vals (ns.map V.int) its → ∃ xs : Array (Int × Tok), its.toArray = intItems xs ∧ xs.toList.map (·.1) = ns
  | [], its, r => by
    rw [List.map_nil] at r
    cases r
    exact ⟨#[], by simp [intItems], rfl⟩
  | n :: ns, its, r => by
    rw [List.map_cons] at r
    cases r with
    | @cons a b as bs h t =>
      obtain ⟨xs, e, q⟩ := ints_pair t
      obtain ⟨tk, hb⟩ := (show ∃ tk, b = Value.int n tk from h)
      refine ⟨((n, tk) :: xs.toList).toArray, ?_, by simp [q]⟩
      have e2 : bs = (intItems xs).toList := by rw [← e]
      rw [hb, e2]
      simp [intItems]
theorem preSum_list (xs : Array (Int × Tok)) : ∀ k, k ≤ xs.size → preSum (numAt xs) k = ((xs.toList.map (·.1)).take k).sum
  | 0, _ => by simp [preSum]
  | k + 1, h => by
    have hk : k < (xs.toList.map (·.1)).length := by simp; omega
    rw [preSum, preSum_list xs k (by omega), List.take_succ_eq_append_getElem hk, List.sum_append]
    simp [numAt, show k < xs.size by omega]
/-- sum(list of ints) -/
theorem call_sumI : CallR X (.builtin "sum") (fun xs H Q => X.calm = true ∧ ∃ (p : Addr) (ns : List Int), xs = [.ref p] ∧ SqL X.K H p (ns.map V.int) ∧ (∀ k, k ≤ ns.length → -(2 ^ 62) ≤ (ns.take k).sum ∧ (ns.take k).sum < 2 ^ 62) ∧ (∀ n ∈ ns, -(2 ^ 62) ≤ n ∧ n < 2 ^ 62) ∧ Q (.int ns.sum) H) := by
  intro pins s σ H xs us Q I r h
  obtain ⟨hc, p, ns, rfl, hp, hb, hb2, q⟩ := h
  obtain ⟨u, rfl, ru⟩ := vals1 r
  cases ru
  obtain ⟨its, rv, hl, hz⟩ := I.list hp
  obtain ⟨xs, e1, e2⟩ := ints_pair rv
  have hn : xs.size = ns.length := by rw [← e2]; simp
  rw [e1] at hl
  refine sum_intList (I.ok.hd hc) hl.isList (fun j hj => ?_) fun h' tk t' k => ?_
  · have h1 := hb (j + 1) (by omega)
    have h2 : numAt xs j ∈ ns := by
      rw [← e2]
      simp only [numAt, Array.getElem?_eq_getElem hj, Option.map_some, Option.getD_some, List.mem_map]
      exact ⟨xs[j], by simp, rfl⟩
    have h3 := hb2 _ h2
    rw [preSum_list xs (j + 1) (by omega), e2]
    unfold InLong
    omega
  · refine ⟨.int ns.sum, H, I.kept k, ⟨t', ?_⟩, q⟩
    rw [preSum_list xs xs.size (Nat.le_refl _), e2, hn, List.take_length]
theorem best_max (f : Nat → Int) : ∀ k, (∀ i, i ≤ k → f i ≤ f (argBest (fun i j => decide (f i > f j)) k)) ∧ argBest (fun i j => decide (f i > f j)) k ≤ k
  | 0 => ⟨fun i hi => by have : i = 0 := by omega
                         subst this; exact Int.le_refl _, Nat.le_refl _⟩
  | k + 1 => by
    obtain ⟨h1, h2⟩ := best_max f k
    unfold argBest
    by_cases hc : f (k + 1) > f (argBest (fun i j => decide (f i > f j)) k)
    · rw [if_pos (decide_eq_true hc)]
      refine ⟨fun i hi => ?_, Nat.le_refl _⟩
      by_cases e : i = k + 1
      · subst e; exact Int.le_refl _
      · have := h1 i (by omega); omega
    · rw [if_neg (by simpa using hc)]
      refine ⟨fun i hi => ?_, by omega⟩
      by_cases e : i = k + 1
      · subst e; omega
      · exact h1 i (by omega)
def maxI : List Int → Int
  | [] => 0
  | [n] => n
  | n :: m :: r => max n (maxI (m :: r))
theorem maxI_ge : ∀ {ns : List Int} {n : Int}, n ∈ ns → n ≤ maxI ns
  | [a], n, h => by simp at h; subst h; exact Int.le_refl _
  | a :: b :: r, n, h => by
    rw [maxI]
    rcases List.mem_cons.mp h with h | h
    · subst h; omega
    · have := maxI_ge h; omega
theorem maxI_mem : ∀ {ns : List Int}, ns ≠ [] → maxI ns ∈ ns
  | [a], _ => by simp [maxI]
  | a :: b :: r, _ => by
    rw [maxI]
    have := maxI_mem (ns := b :: r) (by simp)
    by_cases h : a ≤ maxI (b :: r)
    · rw [Int.max_eq_right h]; exact List.mem_cons_of_mem _ this
    · rw [Int.max_eq_left (by omega)]; exact List.mem_cons_self
theorem maxI_is {ns : List Int} {v : Int} (h1 : v ∈ ns) (h2 : ∀ n ∈ ns, n ≤ v) : v = maxI ns :=
  Int.le_antisymm (maxI_ge h1) (h2 _ (maxI_mem (List.ne_nil_of_mem h1)))
/-- max(list of ints) -/
theorem call_maxI : CallR X (.builtin "max") (fun xs H Q => X.calm = true ∧ ∃ (p : Addr) (ns : List Int), xs = [.ref p] ∧ SqL X.K H p (ns.map V.int) ∧ ns ≠ [] ∧ Q (.int (maxI ns)) H) := by
  intro pins s σ H xs us Q I r h
  obtain ⟨hc, p, ns, rfl, hp, hne, q⟩ := h
  obtain ⟨u, rfl, ru⟩ := vals1 r
  cases ru
  obtain ⟨its, rv, hl, hz⟩ := I.list hp
  obtain ⟨xs, e1, e2⟩ := ints_pair rv
  have hn : xs.size = ns.length := by rw [← e2]; simp
  have h0 : 0 < xs.size := by rw [hn]; exact List.length_pos_iff.mpr hne
  rw [e1] at hl
  refine max_intList (I.ok.hd hc) hl.isList h0 fun v h' tk hv k => ?_
  obtain ⟨tk', rfl⟩ := intItems_at hv
  refine ⟨.int (maxI ns), H, I.kept k, ⟨tk', ?_⟩, q⟩
  have b := best_max (numAt xs) (xs.size - 1)
  have at_mem : ∀ i, i < xs.size → numAt xs i ∈ ns := fun i hi => by
    rw [← e2]
    simp only [numAt, Array.getElem?_eq_getElem hi, Option.map_some, Option.getD_some, List.mem_map]
    exact ⟨xs[i], by simp, rfl⟩
  have e3 : numAt xs (argBest (fun i j => decide (numAt xs i > numAt xs j)) (xs.size - 1)) = maxI ns := by
    refine maxI_is (at_mem _ (by omega)) fun n hn' => ?_
    rw [← e2] at hn'
    obtain ⟨y, hy, rfl⟩ := List.mem_map.mp hn'
    obtain ⟨i, hi, rfl⟩ := List.getElem_of_mem hy
    have hi' : i < xs.size := by simpa using hi
    have := b.1 i (by omega)
    simpa [numAt, hi'] using this
  rw [e3]
/-- isinstance(e, T), T a built-in type -/
def tIsi (K : PySem.W.Frag) (T : String) (te : TE) : TE := fun σ H Q => te σ H fun x H1 => ∃ t b, TyOf K H1 x t ∧ PySem.W.kitOne K t (.type T) = some b ∧ Q (.bl b) H1
theorem call_isi {T : String} : CallR X (.builtin "isinstance") (fun xs H Q => ∃ x t b, xs = [x, .ty T] ∧ TyOf X.K H x t ∧ PySem.W.kitOne X.K t (.type T) = some b ∧ Q (.bl b) H) := by
  intro pins s σ H xs us Q I r h
  obtain ⟨x, t, b, rfl, ty, e, q⟩ := h
  obtain ⟨u, w', rfl, ru, rw'⟩ := vals2 r
  cases rw'
  exact isinst_ok I ru ty e fun tk => ⟨.bl b, H, I.tok tk, rfl, q⟩
/-- sep.join(list of texts) -/
theorem strsAre_of : ∀ {ys : List Str} {us : List Value}, Vals (ys.map V.str) us → StrsAre us ys
  | [], us, r => by
    rw [List.map_nil] at r
    cases r
    exact .nil
  | y :: ys, us, r => by
    rw [List.map_cons] at r
    cases r with
    | @cons a b as bs h t =>
      obtain ⟨tk, hb⟩ := (show ∃ tk, b = Value.str y tk from h)
      subst hb
      exact .cons y tk (strsAre_of t)
theorem mt_join : MtR X "str.join" (fun x xs H Q => ∃ (z : Str) (p : Addr) (ys : List Str), x = .str z ∧ xs = [.ref p] ∧ SqL X.K H p (ys.map V.str) ∧ (ys.map (·.length)).sum + ys.length * z.length ≤ 16777216 ∧ Q (.str (Txt.join z ys)) H) := by
  intro pins s σ H x xs v us Q I rx rs h
  obtain ⟨z, p, ys, rfl, rfl, hp, hb, q⟩ := h
  obtain ⟨tz, rfl⟩ := rx
  obtain ⟨u, rfl, ru⟩ := vals1 rs
  cases ru
  obtain ⟨its, rv, hl, hz⟩ := I.list hp
  exact join_list hl.isList (strsAre_of rv) hb fun t' k => ⟨.str (Txt.join z ys), H, I.tok k, ⟨t', rfl⟩, q⟩
end
end L2
set_option Elab.async false
set_option linter.all false
set_option maxRecDepth 100000
namespace L2
open PySem PySem.Spec PyProof.Rows
/-! ### a def that stands at the top and keeps a promise, in one word -/
structure Has (P : Program) (w : World) (K : PySem.W.Frag) (mg : Str → Option Value) (base : Heap) (k : Nat) (x : Str) (ps : List Str) (sp : Sp) : Prop where
  ex : ∃ f fd, FnOk P w K mg base CX0 k f fd ps sp ∧ Binds K fd ps [] ∧ PySem.W.keepIn K (.ref f) = true ∧ mg x = some (.ref f)
def Gc (mg : Str → Option Value) (x : Str) (v : V) : Prop := ∃ u, mg x = some u ∧ RelV v u
section
variable {X : Cx} {k : Nat} {x : Str} {ps : List Str} {sp : Sp} {p pos : Pos} {e : Expr} {es : List Expr} {t : TA} {v : V}
theorem Has.mono {P : Program} {w : World} {K : PySem.W.Frag} {mg : Str → Option Value} {base : Heap} {j k : Nat} (h : Has P w K mg base j x ps sp) (hk : j ≤ k) : Has P w K mg base k x ps sp := by
  obtain ⟨f, fd, F, r⟩ := h.ex
  exact ⟨f, fd, F.mono hk, r⟩
theorem Has.imp {P : Program} {w : World} {K : PySem.W.Frag} {mg : Str → Option Value} {base : Heap} {k : Nat} {sp' : Sp} (h : Has P w K mg base k x ps sp) (hs : ∀ vs H Q E, sp' vs H Q E → sp vs H Q E) : Has P w K mg base k x ps sp' := by
  obtain ⟨f, fd, F, r⟩ := h.ex
  exact ⟨f, fd, F.imp hs, r⟩
theorem pe_callH (h : Has X.prog X.w X.K X.mg X.base k x ps sp) (hr : Room k X.A) (hg : Gl X x) (ha : PA X (e :: es) t) (hdb : (x == ("__debug__" : Str)) = false := by decide)
    (he : starEach (e :: es) X.env = (false, eval e X.env) :: starEach es X.env := by rfl) (hpl : (backTo pos (starEach es X.env)).any (·.1) = false := by rfl) : PE X (.Call (.Name x p) (e :: es) [] pos) (tCall sp [] E0 t) := by
  obtain ⟨f, fd, F, b, kp, m⟩ := h.ex
  exact pe_call F hr hg m kp b .nil pass0 ha hdb he hpl
theorem pe_gc (h : Gc X.mg x v) (hg : Gl X x) (hd : (x == ("__debug__" : Str)) = false := by decide) : PE X (.Name x pos) (tC v) := by
  obtain ⟨u, m, r⟩ := h
  exact pe_glob hg m r hd
/-- the type's name as a value (isinstance's second argument) -/
theorem pe_ty {T : String} (hm : X.mg x = none) (hv : bootBuiltins x = some (.type T)) (hg : Gl X x) (hn : x ≠ "__name__" := by decide) (hd : (x == ("__debug__" : Str)) = false := by decide) : PE X (.Name x pos) (tC (.ty T)) :=
  pe_bltn hg hm hv rfl hn hd
end
theorem pif_nil {X : Cx} : PIf X [] none := trivial
theorem pif_one {X : Cx} {c : Expr} {t : TT} (h : PT X c t) : PIf X [c] (some t) := h
/-- what a comprehension's scope must be, as a look -/
def lcOk (xs ys : List Str) (scope around : Scope) : Bool :=
  (scope.kind == .function) && decide (xs ++ ys).Nodup && xs.all (fun x => scope.names.lookup x == some .local) &&
  ys.all (fun y => (scope.names.lookup y == some .free) && ((around.names.lookup y == some .cell) || (around.names.lookup y == some .free))) &&
  scope.names.all (fun y => (y.2 != .cell) && ((y.2 != .local) || (scope.names.lookup y.1 == some .local)) && ((y.2 != .free) || ys.contains y.1))
theorem lcOk.scope {xs ys : List Str} {scope around : Scope} (h : lcOk xs ys scope around = true) : LcScope xs ys scope around := by
  unfold lcOk at h
  simp only [Bool.and_eq_true, beq_iff_eq, decide_eq_true_eq, List.all_eq_true, Bool.or_eq_true, bne_iff_ne, List.contains_iff_mem] at h
  obtain ⟨⟨⟨⟨h1, h2⟩, h3⟩, h4⟩, h5⟩ := h
  exact ⟨h1, h2, h3, h4, fun y hy => (h5 y hy).1.1, fun y hy hl => (h5 y hy).1.2.resolve_left (fun z => z hl), fun y hy hf => (h5 y hy).2.resolve_left (fun z => z hf)⟩
def capOk (N ys : List Str) (js : List Nat) : Bool := (js.length == ys.length) && (ys.zip js).all fun p => N[p.2]? == some p.1
theorem capOk.caps {X : Cx} {ys : List Str} {js : List Nat} (h : capOk X.N ys js = true) : Caps X ys js := by
  unfold capOk at h
  simp only [Bool.and_eq_true, beq_iff_eq, List.all_eq_true] at h
  refine ⟨h.1, fun i y j hy hj => ?_⟩
  refine h.2 (y, j) (List.mem_of_getElem? (i := i) ?_)
  rw [List.getElem?_zip_eq_some]
  exact ⟨hy, hj⟩
section
variable {X : Cx} {xs ys : List Str} {scope : Scope} {js : List Nat} {tg iter elt : Expr} {ifs : List Expr} {pos : Pos} {wi : TI} {g : TG} {tc : Option TT} {te : TE}
theorem pe_comp (xs ys : List Str) (js : List Nat) (hi : PI X tg iter wi)
    (hg : ∀ C s₀ H₀ fp, (xs ++ ys).Nodup → PG (blockCx X xs ys scope C s₀ H₀ fp) tg g) (hif : ∀ C s₀ H₀ fp, PIf (blockCx X xs ys scope C s₀ H₀ fp) ifs tc) (he : ∀ C s₀ H₀ fp, PE (blockCx X xs ys scope C s₀ H₀ fp) elt te)
    (hc : X.calm = true := by rfl) (S : lcOk xs ys scope X.env.scope = true := by rfl) (hj : capOk X.N ys js = true := by rfl)
    (hs : ∀ x, foldedSetIterable iter X.env x = pure x := by intro _; rfl) : PE X (.ListComp elt [⟨tg, iter, ifs, 0⟩] scope pos) (tLC xs js wi g tc te) :=
  pe_lc hc (lcOk.scope S) (capOk.caps hj) hi (fun C s₀ H₀ fp => hg C s₀ H₀ fp (lcOk.scope S).nd) hif he hs
theorem ps_comp {i : Nat} {x : Str} {p' p : Pos} (xs ys : List Str) (js : List Nat) (hN : X.N.Nodup) (hx : X.N[i]? = some x) (hi : PI X tg iter wi)
    (hg : ∀ C s₀ H₀ fp, (xs ++ ys).Nodup → PG (blockCx X xs ys scope C s₀ H₀ fp) tg g) (hif : ∀ C s₀ H₀ fp, PIf (blockCx X xs ys scope C s₀ H₀ fp) ifs tc) (he : ∀ C s₀ H₀ fp, PE (blockCx X xs ys scope C s₀ H₀ fp) elt te)
    (hl : X.env.scope.names.lookup x = some .local := by rfl) (hc : X.calm = true := by rfl) (S : lcOk xs ys scope X.env.scope = true := by rfl) (hj : capOk X.N ys js = true := by rfl)
    (hsw : swapsWith (.ListComp elt [⟨tg, iter, ifs, 0⟩] scope pos) (some (.Name x p')) p.line X.env = pure true := by rfl)
    (hs : ∀ x, foldedSetIterable iter X.env x = pure x := by intro _; rfl) : PS X (.Assign [.Name x p'] (.ListComp elt [⟨tg, iter, ifs, 0⟩] scope pos) p) (tAsg (tLC xs js wi g tc te) (gName i)) :=
  ps_setLC hN hx hl hc (lcOk.scope S) (capOk.caps hj) hi (fun C s₀ H₀ fp => hg C s₀ H₀ fp (lcOk.scope S).nd) hif he hsw hs
end
theorem bt_len : bootBuiltins "len" = some (.builtin "len") := by decide +kernel
theorem bt_isinstance : bootBuiltins "isinstance" = some (.builtin "isinstance") := by decide +kernel
theorem bt_max : bootBuiltins "max" = some (.builtin "max") := by decide +kernel
theorem bt_sum : bootBuiltins "sum" = some (.builtin "sum") := by decide +kernel
theorem bt_all : bootBuiltins "all" = some (.builtin "all") := by decide +kernel
theorem bt_sorted : bootBuiltins "sorted" = some (.builtin "sorted") := by decide +kernel
theorem bt_range : bootBuiltins "range" = some (.type "range") := by decide +kernel
theorem bt_tuple : bootBuiltins "tuple" = some (.type "tuple") := by decide +kernel
theorem bt_list : bootBuiltins "list" = some (.type "list") := by decide +kernel
theorem bt_set : bootBuiltins "set" = some (.type "set") := by decide +kernel
theorem bt_int : bootBuiltins "int" = some (.type "int") := by decide +kernel
theorem bt_bool : bootBuiltins "bool" = some (.type "bool") := by decide +kernel
theorem bt_str : bootBuiltins "str" = some (.type "str") := by decide +kernel
theorem bt_dict : bootBuiltins "dict" = some (.type "dict") := by decide +kernel
theorem cx_K {CX : CXT} {P : Program} {w : World} {K : PySem.W.Frag} {mg : Str → Option Value} {base : Heap} {N : List Str} {qual : Str} {scope : Scope} {f : Addr} {cd : Value} {A : Around} {outer : List Env} {s : Shared} {H : Hp} {E : XK} : (cxOf CX P w K mg base N qual scope f cd A outer s H E).K = K := rfl
theorem cx_calm {CX : CXT} {P : Program} {w : World} {K : PySem.W.Frag} {mg : Str → Option Value} {base : Heap} {N : List Str} {qual : Str} {scope : Scope} {f : Addr} {cd : Value} {A : Around} {outer : List Env} {s : Shared} {H : Hp} {E : XK} : (cxOf CX P w K mg base N qual scope f cd A outer s H E).calm = true := rfl
theorem bk_calm {X : Cx} {xs ys : List Str} {scope : Scope} {C : Addr} {s₀ : Shared} {H₀ : Hp} {fp : List Addr} : (blockCx X xs ys scope C s₀ H₀ fp).calm = X.calm := rfl
theorem lenV_str {K : PySem.W.Frag} {y : Str} {H : Hp} {n : Nat} : LenV K (.str y) H n ↔ (y.length ≤ sizeLine ∧ n = y.length) := Iff.rfl
theorem eqV_str (a b : Str) : eqV (.str a) (.str b) = decide (b = a) := by
  show (a == b) = _
  rw [Bool.eq_iff_iff, beq_iff_eq, decide_eq_true_eq, eq_comm]
theorem bk_K {X : Cx} {xs ys : List Str} {scope : Scope} {C : Addr} {s₀ : Shared} {H₀ : Hp} {fp : List Addr} : (blockCx X xs ys scope C s₀ H₀ fp).K = X.K := rfl
theorem ix_nat {ns : List Int} {k : Nat} (h : (k : Int) < ns.length) : atI (ns.map V.int) (k : Int) = some (.int (ns.getD k 0)) := by
  refine atI_nat ?_
  have h' : k < ns.length := by omega
  rw [List.getElem?_map, List.getElem?_eq_getElem h', List.getD_eq_getElem?_getD, List.getElem?_eq_getElem h']
  rfl
/-- over the signs of a text -/
theorem for_str {z : Str} {g : TG} {tb : TS} {D : Ends} {σ : St} {H : Hp} (Pv : Nat → St → Hp → Prop) (h0 : Pv 0 σ H)
    (hs : ∀ (i c : Nat) σ H, z.cps[i]? = some c → Pv i σ H → g (.str ⟨#[c]⟩) σ H fun σ2 H2 => tb { D with nx := Pv (i + 1), ct := Pv (i + 1), bk := D.nx } σ2 H2) (hd : ∀ σ H, Pv z.cps.size σ H → D.nx σ H) :
    ∃ W : Nat → Nat → St → Hp → Prop, (∃ m, W 0 m σ H) ∧ ∀ i m σ H, W i m σ H →
      ((Its z).stop i H ∧ D.nx σ H) ∨ ((Its z).go i H ∧ ∃ N : St → Hp → Prop, (∀ σ' H', N σ' H' → ∃ m', m' < m ∧ W (i + 1) m' σ' H') ∧ ∀ x H', (Its z).yld i H x H' → g x σ H' fun σ2 H2 => tb { D with nx := N, ct := N, bk := D.nx } σ2 H2) := by
  refine ⟨fun i m σ H => i + m = z.cps.size ∧ Pv i σ H, ⟨z.cps.size, by omega, h0⟩, fun i m σ H ⟨e, w⟩ => ?_⟩
  by_cases hi : i < z.cps.size
  · refine .inr ⟨hi, Pv (i + 1), fun σ' H' h => ⟨m - 1, by omega, by omega, h⟩, fun x H' ⟨e', c, hc, hx⟩ => ?_⟩
    subst e'; subst hx
    exact hs i c σ _ hc w
  · have : i = z.cps.size := by omega
    subst this
    exact .inl ⟨Nat.le_refl _, hd σ H w⟩
/-- a comprehension by turns: Pv speaks of the items made so far; hs gets the rest as C -/
theorem lc_by {J : It} {n : Nat} {ns : List Str} {js : List Nat} {g : TG} {te : TE} {σ : St} {H : Hp} {Q : VK} (Pv : Nat → List V → St → Hp → Prop) (h0 : Pv 0 [] (lcSt ns js σ) H) (hn : n ≤ sizeLine) (hl : ∀ i ys σ H, Pv i ys σ H → ys.length ≤ i)
    (hgo : ∀ i ys σ H, i < n → Pv i ys σ H → J.go i H) (hst : ∀ ys σ H, Pv n ys σ H → J.stop n H)
    (hs : ∀ i ys σ H x H' (C : V → St → Hp → Prop), i < n → Pv i ys σ H → J.yld i H x H' → (∀ y σ2 H3, Pv (i + 1) (ys ++ [y]) σ2 H3 → C y σ2 H3) → g x σ H' fun σ2 H2 => te σ2 H2 fun y H3 => C y σ2 H3)
    (hd : ∀ ys σ H, Pv n ys σ H → ∀ p, H p = none → Q (.ref p) (upd H p (.lst ys))) :
    LcW J ns js g none te σ H Q := by
  refine ⟨fun i m ys σ H => i + m = n ∧ Pv i ys σ H, ⟨n, by omega, h0⟩, fun i m ys σ H ⟨e, w⟩ => ?_⟩
  by_cases hi : i < n
  · refine .inr ⟨hgo i ys σ H hi w, Nat.lt_of_le_of_lt (hl _ _ _ _ w) (by omega), fun x H' hy => ?_⟩
    exact hs i ys σ H x H' (fun y σ2 H3 => ∃ m', m' < m ∧ i + 1 + m' = n ∧ Pv (i + 1) (ys ++ [y]) σ2 H3) hi w hy fun y σ2 H3 q => ⟨m - 1, by omega, by omega, q⟩
  · have : i = n := by omega
    subst this
    exact .inl ⟨hst ys σ H w, hd ys σ H w⟩
theorem lc_str {z : Str} {ns : List Str} {js : List Nat} {g : TG} {te : TE} {σ : St} {H : Hp} {Q : VK} (Pv : Nat → List V → St → Hp → Prop) (h0 : Pv 0 [] (lcSt ns js σ) H) (hz : z.cps.size ≤ sizeLine) (hl : ∀ i ys σ H, Pv i ys σ H → ys.length ≤ i)
    (hs : ∀ (i c : Nat) ys σ H (C : V → St → Hp → Prop), z.cps[i]? = some c → Pv i ys σ H → (∀ y σ2 H3, Pv (i + 1) (ys ++ [y]) σ2 H3 → C y σ2 H3) → g (.str ⟨#[c]⟩) σ H fun σ2 H2 => te σ2 H2 fun y H3 => C y σ2 H3)
    (hd : ∀ ys σ H, Pv z.cps.size ys σ H → ∀ p, H p = none → Q (.ref p) (upd H p (.lst ys))) :
    LcW (Its z) ns js g none te σ H Q :=
  lc_by (n := z.cps.size) Pv h0 hz hl (fun _ _ _ _ h _ => h) (fun _ _ _ _ => Nat.le_refl _) (fun i ys σ H x H' C hi w ⟨e, c, hc, hx⟩ hC => by subst e; subst hx; exact hs i c ys σ _ C hc w hC) hd
theorem lc_range {lo : Int} {n : Nat} {ns : List Str} {js : List Nat} {g : TG} {te : TE} {σ : St} {H : Hp} {Q : VK} (Pv : Nat → List V → St → Hp → Prop) (h0 : Pv 0 [] (lcSt ns js σ) H) (hz : n ≤ sizeLine) (hl : ∀ i ys σ H, Pv i ys σ H → ys.length ≤ i)
    (hs : ∀ (i : Nat) ys σ H (C : V → St → Hp → Prop), i < n → Pv i ys σ H → (∀ y σ2 H3, Pv (i + 1) (ys ++ [y]) σ2 H3 → C y σ2 H3) → g (.int (lo + i)) σ H fun σ2 H2 => te σ2 H2 fun y H3 => C y σ2 H3)
    (hd : ∀ ys σ H, Pv n ys σ H → ∀ p, H p = none → Q (.ref p) (upd H p (.lst ys))) :
    LcW (Itr lo n) ns js g none te σ H Q :=
  lc_by (n := n) Pv h0 hz hl (fun _ _ _ _ h _ => h) (fun _ _ _ _ => Nat.le_refl _) (fun i ys σ H x H' C hi w ⟨e, hx⟩ hC => by subst e; subst hx; exact hs i ys σ _ C hi w hC) hd
theorem lc_tup {K : PySem.W.Frag} {a : Addr} {xs : List V} {ns : List Str} {js : List Nat} {g : TG} {te : TE} {σ : St} {H : Hp} {Q : VK} (Pv : Nat → List V → St → Hp → Prop) (h0 : Pv 0 [] (lcSt ns js σ) H) (hz : xs.length ≤ sizeLine) (hl : ∀ i ys σ H, Pv i ys σ H → ys.length ≤ i)
    (hK : ∀ i ys σ H, Pv i ys σ H → SqT K H a xs)
    (hs : ∀ (i : Nat) x ys σ H (C : V → St → Hp → Prop), xs[i]? = some x → Pv i ys σ H → (∀ y σ2 H3, Pv (i + 1) (ys ++ [y]) σ2 H3 → C y σ2 H3) → g x σ H fun σ2 H2 => te σ2 H2 fun y H3 => C y σ2 H3)
    (hd : ∀ ys σ H, Pv xs.length ys σ H → ∀ p, H p = none → Q (.ref p) (upd H p (.lst ys))) :
    LcW (Itt K a) ns js g none te σ H Q :=
  lc_by (n := xs.length) Pv h0 hz hl (fun i ys σ H hi w => ⟨xs, xs[i], hK i ys σ H w, List.getElem?_eq_getElem hi⟩) (fun ys σ H w => ⟨xs, hK _ ys σ H w, Nat.le_refl _⟩)
    (fun i ys σ H x H' C hi w ⟨e, hx⟩ hC => by subst e; exact hs i x ys σ _ C (hx xs (hK i ys σ _ w)) w hC) hd
theorem lc_list {K : PySem.W.Frag} {a : Addr} {xs : List V} {ns : List Str} {js : List Nat} {g : TG} {te : TE} {σ : St} {H : Hp} {Q : VK} (Pv : Nat → List V → St → Hp → Prop) (h0 : Pv 0 [] (lcSt ns js σ) H) (hz : xs.length ≤ sizeLine) (hl : ∀ i ys σ H, Pv i ys σ H → ys.length ≤ i)
    (hK : ∀ i ys σ H, Pv i ys σ H → SqL K H a xs)
    (hs : ∀ (i : Nat) x ys σ H (C : V → St → Hp → Prop), xs[i]? = some x → Pv i ys σ H → (∀ y σ2 H3, Pv (i + 1) (ys ++ [y]) σ2 H3 → C y σ2 H3) → g x σ H fun σ2 H2 => te σ2 H2 fun y H3 => C y σ2 H3)
    (hd : ∀ ys σ H, Pv xs.length ys σ H → ∀ p, H p = none → Q (.ref p) (upd H p (.lst ys))) :
    LcW (Itl K a) ns js g none te σ H Q :=
  lc_by (n := xs.length) Pv h0 hz hl (fun i ys σ H hi w => ⟨xs, xs[i], hK i ys σ H w, List.getElem?_eq_getElem hi⟩) (fun ys σ H w => ⟨xs, hK _ ys σ H w, Nat.le_refl _⟩)
    (fun i ys σ H x H' C hi w ⟨e, hx⟩ hC => by subst e; exact hs i x ys σ _ C (hx xs (hK i ys σ _ w)) w hC) hd
/-- a loop over J: what holds between two turns -/
def ForW (J : It) (g : TG) (tb : TS) (D : Ends) (σ : St) (H : Hp) : Prop := ∃ W : Nat → Nat → St → Hp → Prop, (∃ m, W 0 m σ H) ∧ ∀ i m σ H, W i m σ H →
  (J.stop i H ∧ D.nx σ H) ∨ (J.go i H ∧ ∃ N : St → Hp → Prop, (∀ σ' H', N σ' H' → ∃ m', m' < m ∧ W (i + 1) m' σ' H') ∧ ∀ x H', J.yld i H x H' → g x σ H' fun σ2 H2 => tb { D with nx := N, ct := N, bk := D.nx } σ2 H2)
theorem tFor_eq {wi : TI} {g : TG} {tb : TS} {D : Ends} {σ : St} {H : Hp} : tFor wi g tb D σ H = wi σ H fun J H1 => ForW J g tb D σ H1 := rfl
theorem tLC_eq {n : List Str} {js : List Nat} {wi : TI} {g : TG} {tc : Option TT} {te : TE} {σ : St} {H : Hp} {Q : VK} : tLC n js wi g tc te σ H Q = wi σ H fun J H1 => LcW J n js g tc te σ H1 Q := rfl
theorem fw_list {K : PySem.W.Frag} {a : Addr} {xs : List V} {g : TG} {tb : TS} {D : Ends} {σ : St} {H : Hp} (Pv : Nat → St → Hp → Prop) (h0 : Pv 0 σ H) (hl : ∀ i σ H, i ≤ xs.length → Pv i σ H → SqL K H a xs)
    (hs : ∀ i x σ H, xs[i]? = some x → Pv i σ H → g x σ H fun σ2 H2 => tb { D with nx := Pv (i + 1), ct := Pv (i + 1), bk := D.nx } σ2 H2) (hd : ∀ σ H, Pv xs.length σ H → D.nx σ H) : ForW (Itl K a) g tb D σ H := for_list Pv h0 hl hs hd
theorem fw_tup {K : PySem.W.Frag} {a : Addr} {xs : List V} {g : TG} {tb : TS} {D : Ends} {σ : St} {H : Hp} (Pv : Nat → St → Hp → Prop) (h0 : Pv 0 σ H) (hl : ∀ i σ H, i ≤ xs.length → Pv i σ H → SqT K H a xs)
    (hs : ∀ i x σ H, xs[i]? = some x → Pv i σ H → g x σ H fun σ2 H2 => tb { D with nx := Pv (i + 1), ct := Pv (i + 1), bk := D.nx } σ2 H2) (hd : ∀ σ H, Pv xs.length σ H → D.nx σ H) : ForW (Itt K a) g tb D σ H := for_tup Pv h0 hl hs hd
theorem fw_range {lo : Int} {n : Nat} {g : TG} {tb : TS} {D : Ends} {σ : St} {H : Hp} (Pv : Nat → St → Hp → Prop) (h0 : Pv 0 σ H)
    (hs : ∀ i σ H, i < n → Pv i σ H → g (.int (lo + i)) σ H fun σ2 H2 => tb { D with nx := Pv (i + 1), ct := Pv (i + 1), bk := D.nx } σ2 H2) (hd : ∀ σ H, Pv n σ H → D.nx σ H) : ForW (Itr lo n) g tb D σ H := for_range Pv h0 hs hd
theorem fw_str {z : Str} {g : TG} {tb : TS} {D : Ends} {σ : St} {H : Hp} (Pv : Nat → St → Hp → Prop) (h0 : Pv 0 σ H)
    (hs : ∀ (i c : Nat) σ H, z.cps[i]? = some c → Pv i σ H → g (.str ⟨#[c]⟩) σ H fun σ2 H2 => tb { D with nx := Pv (i + 1), ct := Pv (i + 1), bk := D.nx } σ2 H2) (hd : ∀ σ H, Pv z.cps.size σ H → D.nx σ H) : ForW (Its z) g tb D σ H := for_str Pv h0 hs hd
/-- one statement of a block, the rest out of sight -/
theorem seq_abs {t u : TS} {D : Ends} {σ : St} {H : Hp} (h : ∀ N : St → Hp → Prop, (∀ σ H, u D σ H → N σ H) → t { D with nx := N } σ H) : tSeq t u D σ H := h (u D) fun _ _ z => z
/-- an if: the test alone, its two arms out of sight -/
theorem if_abs {c : TT} {t u : TS} {D : Ends} {σ : St} {H : Hp} (h : ∀ T U : Hp → Prop, (∀ H1, t D σ H1 → T H1) → (∀ H1, u D σ H1 → U H1) → c σ H fun b H1 => if b = true then T H1 else U H1) : tIfS c t u D σ H := h (t D σ) (u D σ) (fun _ z => z) fun _ z => z
/-- .. met by J on every way -/
theorem seq_join {t u : TS} {D : Ends} {σ : St} {H : Hp} (J : St → Hp → Prop) (h1 : ∀ N : St → Hp → Prop, (∀ σ H, J σ H → N σ H) → t { D with nx := N } σ H) (h2 : ∀ σ H, J σ H → u D σ H) : tSeq t u D σ H := h1 (u D) h2
/-! ### built-in names that the text leaves alone -/
structure Bi (mg : Str → Option Value) : Prop where
  len : mg "len" = none
  range : mg "range" = none
  isinstance : mg "isinstance" = none
  max : mg "max" = none
  sum : mg "sum" = none
  all : mg "all" = none
  tuple : mg "tuple" = none
  list : mg "list" = none
  sorted : mg "sorted" = none
  set : mg "set" = none
  int : mg "int" = none
  bool : mg "bool" = none
  str : mg "str" = none
  dict : mg "dict" = none
theorem has_of {P : Program} {w : World} {K : PySem.W.Frag} {mg : Str → Option Value} {base : Heap} {k : Nat} {x : Str} {ps : List Str} {sp : Sp} {st : Stmt} {f : Addr} {fd : FuncData} (F : Fun K x x st f fd) (ok : FnOk P w K mg base CX0 k f fd ps sp) (b : Binds K fd ps [])
    (m : mg x = some (.ref f)) : Has P w K mg base k x ps sp := ⟨f, fd, ok, b, F.kp, m⟩
end L2
set_option Elab.async false
set_option linter.all false
set_option maxRecDepth 100000
namespace L2
open PySem PySem.Spec PyProof.Rows
/-! ### data as the abstract heap bears it -/
inductive Dt where
  | non | bl (b : Bool) | int (i : Int) | str (x : Str) | tup (ds : List Dt) | lst (ds : List Dt)
mutual
def DAt (H : Hp) : Dt → V → Prop
  | .non, v => v = .non
  | .bl b, v => v = .bl b
  | .int i, v => v = .int i
  | .str x, v => v = .str x
  | .tup ds, v => ∃ a vs, v = .ref a ∧ H a = some (.tup vs) ∧ DAts H ds vs
  | .lst ds, v => ∃ a vs, v = .ref a ∧ H a = some (.lst vs) ∧ DAts H ds vs
def DAts (H : Hp) : List Dt → List V → Prop
  | [], vs => vs = []
  | d :: ds, vs => ∃ v r, vs = v :: r ∧ DAt H d v ∧ DAts H ds r
end
mutual
theorem DAt.same {H H' : Hp} (e : Same H H') : ∀ {d : Dt} {v : V}, DAt H d v → DAt H' d v
  | .non, _, h => h
  | .bl _, _, h => h
  | .int _, _, h => h
  | .str _, _, h => h
  | .tup ds, v, h => by
    obtain ⟨a, vs, e1, e2, e3⟩ := h
    exact ⟨a, vs, e1, e _ _ e2, DAts.same e e3⟩
  | .lst ds, v, h => by
    obtain ⟨a, vs, e1, e2, e3⟩ := h
    exact ⟨a, vs, e1, e _ _ e2, DAts.same e e3⟩
theorem DAts.same {H H' : Hp} (e : Same H H') : ∀ {ds : List Dt} {vs : List V}, DAts H ds vs → DAts H' ds vs
  | [], _, h => h
  | d :: ds, vs, h => by
    obtain ⟨v, r, e1, e2, e3⟩ := h
    exact ⟨v, r, e1, DAt.same e e2, DAts.same e e3⟩
end
theorem DAts.length {H : Hp} : ∀ {ds : List Dt} {vs : List V}, DAts H ds vs → vs.length = ds.length
  | [], vs, h => by
    have h : vs = [] := h
    rw [h]
    rfl
  | d :: ds, vs, h => by
    obtain ⟨v, r, e1, e2, e3⟩ := h
    rw [e1, List.length_cons, List.length_cons, DAts.length e3]
theorem DAts.get {H : Hp} : ∀ {ds : List Dt} {vs : List V} {i : Nat} {d : Dt}, DAts H ds vs → ds[i]? = some d → ∃ v, vs[i]? = some v ∧ DAt H d v
  | [], vs, i, d, _, e => by simp at e
  | d :: ds, vs, 0, d', h, e => by
    obtain ⟨v, r, e1, e2, e3⟩ := h
    simp at e
    subst e; subst e1
    exact ⟨v, rfl, e2⟩
  | d :: ds, vs, i + 1, d', h, e => by
    obtain ⟨v, r, e1, e2, e3⟩ := h
    subst e1
    simp at e
    obtain ⟨u, h1, h2⟩ := DAts.get e3 e
    exact ⟨u, by simpa using h1, h2⟩
theorem DAts.append {H : Hp} : ∀ {ds es : List Dt} {vs us : List V}, DAts H ds vs → DAts H es us → DAts H (ds ++ es) (vs ++ us)
  | [], es, vs, us, h, h' => by
    have h : vs = [] := h
    subst h
    exact h'
  | d :: ds, es, vs, us, h, h' => by
    obtain ⟨v, r, e1, e2, e3⟩ := h
    subst e1
    exact ⟨v, r ++ us, rfl, e2, DAts.append e3 h'⟩
theorem DAts.take {H : Hp} : ∀ {ds : List Dt} {vs : List V} (n : Nat), DAts H ds vs → DAts H (ds.take n) (vs.take n)
  | ds, vs, 0, _ => rfl
  | [], vs, n + 1, h => by
    have h : vs = [] := h
    subst h
    rfl
  | d :: ds, vs, n + 1, h => by
    obtain ⟨v, r, e1, e2, e3⟩ := h
    subst e1
    exact ⟨v, r.take n, rfl, e2, DAts.take n e3⟩
theorem DAts.drop {H : Hp} : ∀ {ds : List Dt} {vs : List V} (n : Nat), DAts H ds vs → DAts H (ds.drop n) (vs.drop n)
  | ds, vs, 0, h => by simpa using h
  | [], vs, n + 1, h => by
    have h : vs = [] := h
    subst h
    rfl
  | d :: ds, vs, n + 1, h => by
    obtain ⟨v, r, e1, e2, e3⟩ := h
    subst e1
    simpa using DAts.drop n e3
theorem DAts.one {H : Hp} {d : Dt} {v : V} (h : DAt H d v) : DAts H [d] [v] := ⟨v, [], rfl, h, rfl⟩
/-- how deep: every sequence short -/
def DFit : Nat → Dt → Prop
  | n + 1, .tup ds => ds.length ≤ 1000 ∧ ∀ d ∈ ds, DFit n d
  | n + 1, .lst ds => ds.length ≤ 1000 ∧ ∀ d ∈ ds, DFit n d
  | 0, .tup _ => False
  | 0, .lst _ => False
  | _, _ => True
/-! ### terms -/
inductive Tm where
  | name (x : Str)
  | node (w : Str) (ts : List Tm)
mutual
def toD : Tm → Dt
  | .name x => .tup [.str "name", .str x]
  | .node w ts => .tup (.str w :: toDs ts)
def toDs : List Tm → List Dt
  | [] => []
  | t :: ts => toD t :: toDs ts
end
theorem toDs_map : ∀ ts : List Tm, toDs ts = ts.map toD
  | [] => rfl
  | t :: ts => by rw [toDs, toDs_map ts, List.map_cons]
theorem toD_node (w : Str) (ts : List Tm) : toD (.node w ts) = .tup (.str w :: ts.map toD) := by rw [toD, toDs_map]
abbrev TAt (H : Hp) (t : Tm) (v : V) : Prop := DAt H (toD t) v
abbrev TAts (H : Hp) (ts : List Tm) (vs : List V) : Prop := DAts H (ts.map toD) vs
theorem TAt.name {H : Hp} {x : Str} {v : V} (h : TAt H (.name x) v) : ∃ a, v = .ref a ∧ H a = some (.tup [.str "name", .str x]) := by
  obtain ⟨a, vs, e1, e2, u, r, e3, e4, e5⟩ := h
  obtain ⟨u2, r2, e6, e7, e8⟩ := e5
  have e4 : u = .str "name" := e4
  have e7 : u2 = .str x := e7
  have e8 : r2 = [] := e8
  subst e3; subst e4; subst e6; subst e7; subst e8
  exact ⟨a, e1, e2⟩
theorem TAt.mkName {H : Hp} {x : Str} {a : Addr} (h : H a = some (.tup [.str "name", .str x])) : TAt H (.name x) (.ref a) :=
  ⟨a, _, rfl, h, _, _, rfl, rfl, _, _, rfl, rfl, rfl⟩
theorem TAt.node {H : Hp} {w : Str} {ts : List Tm} {v : V} (h : TAt H (.node w ts) v) : ∃ a vs, v = .ref a ∧ H a = some (.tup (.str w :: vs)) ∧ TAts H ts vs := by
  unfold TAt at h
  rw [toD_node] at h
  obtain ⟨a, vs, e1, e2, u, r, e3, e4, e5⟩ := h
  have e4 : u = .str w := e4
  subst e3; subst e4
  exact ⟨a, r, e1, e2, e5⟩
theorem TAt.mkNode {H : Hp} {w : Str} {ts : List Tm} {a : Addr} {vs : List V} (h : H a = some (.tup (.str w :: vs))) (hs : TAts H ts vs) : TAt H (.node w ts) (.ref a) := by
  unfold TAt
  rw [toD_node]
  exact ⟨a, _, rfl, h, _, _, rfl, rfl, hs⟩
/-- the five words of terms that are no names -/
def Wrd (w : Str) : Prop := w = "none" ∨ w = "all" ∨ w = "not" ∨ w = "both" ∨ w = "either"
theorem Wrd.ne {w : Str} (h : Wrd w) : w ≠ "name" := by
  rcases h with rfl | rfl | rfl | rfl | rfl <;> decide +kernel
/-- a word with so many parts -/
def Sh (w : Str) (n : Nat) : Prop := (w = "none" ∧ n = 0) ∨ (w = "all" ∧ n = 0) ∨ (w = "not" ∧ n = 1) ∨ (w = "both" ∧ 2 ≤ n) ∨ (w = "either" ∧ 2 ≤ n)
theorem Sh.wrd {w : Str} {n : Nat} (h : Sh w n) : Wrd w := by
  rcases h with h | h | h | h | h
  · exact .inl h.1
  · exact .inr (.inl h.1)
  · exact .inr (.inr (.inl h.1))
  · exact .inr (.inr (.inr (.inl h.1)))
  · exact .inr (.inr (.inr (.inr h.1)))
/-- a name, as the document has it -/
structure Nm (x : Str) : Prop where
  pos : 1 ≤ x.length
  most : x.length ≤ 8
  low : ∀ c ∈ x.cps.toList, 97 ≤ c ∧ c ≤ 122
  nn : x ≠ "none"
  na : x ≠ "all"
/-- how deep at most, with good words and names -/
def Fit : Nat → Tm → Prop
  | _, .name x => Nm x
  | 0, .node w ts => Sh w ts.length ∧ ts = []
  | n + 1, .node w ts => Sh w ts.length ∧ ∀ t ∈ ts, Fit n t
theorem Fit.up : ∀ {n : Nat} {t : Tm}, Fit n t → Fit (n + 1) t
  | n, .name _, h => by unfold Fit at h ⊢; exact h
  | 0, .node w ts, h => by
    unfold Fit at h
    obtain ⟨h1, h2⟩ := h
    subst h2
    exact ⟨h1, fun _ z => nomatch z⟩
  | n + 1, .node w ts, h => by
    unfold Fit at h ⊢
    exact ⟨h.1, fun t ht => Fit.up (h.2 t ht)⟩
theorem Fit.mono {n m : Nat} {t : Tm} (h : Fit n t) (hm : n ≤ m) : Fit m t := by
  obtain ⟨k, rfl⟩ := Nat.le.dest hm
  induction k with
  | zero => exact h
  | succ k ih => exact Fit.up (ih (by omega))
theorem Fit.sh {n : Nat} {w : Str} {ts : List Tm} (h : Fit n (.node w ts)) : Sh w ts.length := by
  cases n with
  | zero => exact h.1
  | succ n => exact h.1
theorem Fit.wrd {n : Nat} {w : Str} {ts : List Tm} (h : Fit n (.node w ts)) : Wrd w := h.sh.wrd
theorem Fit.part {n : Nat} {w : Str} {ts : List Tm} {t : Tm} (h : Fit (n + 1) (.node w ts)) (ht : t ∈ ts) : Fit n t := h.2 t ht
/-! how many nodes -/
mutual
def wt : Tm → Nat
  | .name _ => 1
  | .node _ ts => 1 + wts ts
def wts : List Tm → Nat
  | [] => 0
  | t :: ts => wt t + wts ts
end
theorem wt_pos : ∀ t : Tm, 1 ≤ wt t
  | .name _ => by rw [wt]; omega
  | .node _ _ => by rw [wt]; omega
theorem wts_len : ∀ ts : List Tm, ts.length ≤ wts ts
  | [] => by simp
  | t :: ts => by
    have := wts_len ts
    have := wt_pos t
    rw [wts, List.length_cons]
    omega
theorem wts_mem : ∀ {ts : List Tm} {t : Tm}, t ∈ ts → wt t ≤ wts ts
  | u :: ts, t, h => by
    rw [wts]
    rcases List.mem_cons.mp h with h | h
    · subst h; omega
    · have := wts_mem h; omega
theorem wts_append : ∀ ts us : List Tm, wts (ts ++ us) = wts ts + wts us
  | [], us => by simp [wts]
  | t :: ts, us => by rw [List.cons_append, wts, wts, wts_append ts us]; omega
theorem Fit.dfit : ∀ {n : Nat} {t : Tm}, Fit n t → wt t ≤ 900 → DFit (n + 1) (toD t)
  | n, .name x, _, _ => by
    rw [toD]
    unfold DFit
    refine ⟨by simp, fun d hd => ?_⟩
    rcases List.mem_cons.mp hd with rfl | hd
    · cases n <;> trivial
    · rw [List.mem_singleton.mp hd]
      cases n <;> trivial
  | n, .node w ts, h, hw => by
    rw [toD_node]
    rw [wt] at hw
    have hl := wts_len ts
    unfold DFit
    refine ⟨by rw [List.length_cons, List.length_map]; omega, fun d hd => ?_⟩
    rcases List.mem_cons.mp hd with rfl | hd
    · cases n <;> trivial
    · obtain ⟨t, ht, rfl⟩ := List.mem_map.mp hd
      have hm := wts_mem ht
      cases n with
      | zero => rw [h.2] at ht; cases ht
      | succ n => exact Fit.dfit (h.2 t ht) (by omega)
/-- a new object leaves all else -/
theorem same_new {H : Hp} {p : Addr} (h : H p = none) (o : HO) : Same H (upd H p o) := fun b u q => by rw [upd_ne (ne_of_none q h)]; exact q
theorem str_ext {x y : Str} (h : x.cps = y.cps) : x = y := by
  cases x; cases y; cases h; rfl
theorem len_app (p q : Str) : (p ++ q).length = p.length + q.length := by
  show (p.cps ++ q.cps).size = p.cps.size + q.cps.size
  rw [Array.size_append]
theorem cps_app (p q : Str) : (p ++ q).cps.toList = p.cps.toList ++ q.cps.toList := by
  show (p.cps ++ q.cps).toList = _
  rw [Array.toList_append]
theorem small {n : Nat} (h : n ≤ 1000) : n ≤ sizeLine := Nat.le_of_lt (small1000 h)
theorem TAts.one {H : Hp} {t : Tm} {v : V} (h : TAt H t v) : TAts H [t] [v] := DAts.one h
theorem TAts.append {H : Hp} {ts us : List Tm} {vs ws : List V} (h : TAts H ts vs) (h' : TAts H us ws) : TAts H (ts ++ us) (vs ++ ws) := by
  unfold TAts
  rw [List.map_append]
  exact DAts.append h h'
theorem TAts.take {H : Hp} {ts : List Tm} {vs : List V} (n : Nat) (h : TAts H ts vs) : TAts H (ts.take n) (vs.take n) := by
  unfold TAts
  rw [List.map_take]
  exact DAts.take n h
theorem TAts.drop {H : Hp} {ts : List Tm} {vs : List V} (n : Nat) (h : TAts H ts vs) : TAts H (ts.drop n) (vs.drop n) := by
  unfold TAts
  rw [List.map_drop]
  exact DAts.drop n h
theorem TAts.length {H : Hp} {ts : List Tm} {vs : List V} (h : TAts H ts vs) : vs.length = ts.length := by
  have := DAts.length h
  rw [List.length_map] at this
  exact this
theorem TAts.get {H : Hp} {ts : List Tm} {vs : List V} {i : Nat} {t : Tm} (h : TAts H ts vs) (ht : ts[i]? = some t) : ∃ v, vs[i]? = some v ∧ TAt H t v :=
  DAts.get (d := toD t) h (by rw [List.getElem?_map, ht]; rfl)
theorem TAts.getV {H : Hp} {ts : List Tm} {vs : List V} {i : Nat} {v : V} (h : TAts H ts vs) (hv : vs[i]? = some v) : ∃ t, ts[i]? = some t ∧ TAt H t v := by
  have hi : i < ts.length := by rw [← h.length]; exact (List.getElem?_eq_some_iff.mp hv).1
  obtain ⟨u, h1, h2⟩ := h.get (List.getElem?_eq_getElem hi)
  rw [hv] at h1
  cases h1
  exact ⟨_, List.getElem?_eq_getElem hi, h2⟩
/-! ### tuples stay, whatever else is written -/
def TupSame (H H' : Hp) : Prop := ∀ b xs, H b = some (.tup xs) → H' b = some (.tup xs)
theorem TupSame.refl (H : Hp) : TupSame H H := fun _ _ h => h
theorem TupSame.trans {H H1 H2 : Hp} (a : TupSame H H1) (b : TupSame H1 H2) : TupSame H H2 := fun c o h => b c o (a c o h)
theorem Same.tups {H H' : Hp} (e : Same H H') : TupSame H H' := fun b xs h => e b _ h
theorem TupSame.upd_lst {H H' : Hp} {a : Addr} {o : HO} {xs : List V} (e : TupSame H H') (h : H' a = some (.lst xs)) : TupSame H (upd H' a o) := fun b ys hb => by
  rw [upd_ne (ne_of (e _ _ hb) h (by intro z; cases z))]
  exact e _ _ hb
theorem TupSame.upd_new {H H' : Hp} {a : Addr} {o : HO} (e : TupSame H H') (h : H' a = none) : TupSame H (upd H' a o) := fun b ys hb => by
  rw [upd_ne (ne_of_none (e _ _ hb) h)]
  exact e _ _ hb
theorem Same.upd {H H1 : Hp} {a : Addr} {o : HO} (e : Same H H1) (h : H a = none) : Same H (upd H1 a o) := fun b u hb => by
  rw [upd_ne (ne_of_none hb h)]
  exact e _ _ hb
mutual
theorem TAt.tups {H H' : Hp} (e : TupSame H H') : ∀ {t : Tm} {v : V}, TAt H t v → TAt H' t v
  | .name x, v, h => by
    obtain ⟨a, e1, h2⟩ := TAt.name h
    subst e1
    exact TAt.mkName (e _ _ h2)
  | .node w ts, v, h => by
    obtain ⟨a, vs, e1, h2, hs⟩ := TAt.node h
    subst e1
    exact TAt.mkNode (e _ _ h2) (TAts.tups e hs)
theorem TAts.tups {H H' : Hp} (e : TupSame H H') : ∀ {ts : List Tm} {vs : List V}, TAts H ts vs → TAts H' ts vs
  | [], vs, h => h
  | t :: ts, vs, h => by
    obtain ⟨v, r, e1, e2, e3⟩ := h
    exact ⟨v, r, e1, TAt.tups e e2, TAts.tups e e3⟩
end
end L2
set_option Elab.async false
set_option linter.all false
set_option maxRecDepth 100000
namespace L2
open PySem PySem.Spec PyProof.Rows
/-! ### a dict of the module: read, never changed -/
structure KD (w : World) (K : PySem.W.Frag) (a : Addr) (kvs : List (Key × V)) : Prop where
  dict : ∀ (P : Program) (h : Heap), K.In h → ∃ vs, KV kvs vs ∧ h.DictOf (mixKind P w) a vs
def tKGet (w : World) (K : PySem.W.Frag) (td ty : TE) : TE := fun σ H Q => td σ H fun x H1 => ty σ H1 fun y H2 => ∃ a kvs k v, x = .ref a ∧ y = kV k ∧ KD w K a kvs ∧ valV kvs k = some v ∧ Q v H2
theorem pe_kdget {X : Cx} {o i : Expr} {pos : Pos} {td ty : TE} (ho : PE X o td) (hi : PE X i ty) (hs : NoSl i) : PE X (.Subscript o i pos) (tKGet X.w X.K td ty) := by
  intro pins s σ H Q I h
  refine subD_of PySem.F.slot_dict_getitem.lookup hs (thn (ho pins s σ H _ I h) fun u s1 ⟨x, H1, I1, rx, q1⟩ => thn (hi pins s1 σ H1 _ I1 q1) fun iv s2 ⟨y, H2, I2, ry, a, kvs, k, v, ex, ey, kd, l, q2⟩ => ?_)
  subst ex; subst ey
  obtain rfl : u = Value.ref a := rx
  obtain ⟨vs, rel, dd⟩ := kd.dict X.prog _ I2.kIn
  obtain ⟨w', hw, rw'⟩ := RelO.some_of (v := v) (o := valueAt vs k) (by rw [← l]; exact rel.val k)
  exact ⟨dd.typeIs, wpAny_getItem_of (kV_is ry) dd.mapOf hw ⟨v, H2, I2.tok _, rw', q2⟩⟩
/-- its entries, texts for texts -/
def entOk (w : World) : List DictEntry → List (Str × Str) → Prop
  | [], r => r = []
  | e :: es, r => ∃ x y t u r', r = (x, y) :: r' ∧ e.hash = hashStr w x ∧ e.key = .str x t ∧ e.val = .str y u ∧ entOk w es r'
theorem entOk.keys {w : World} {P : Program} : ∀ {es : List DictEntry} {r : List (Str × Str)}, entOk w es r → ∀ e ∈ es, ∃ k, (mixKind P w).is k e.key = true ∧ e.hash = (mixKind P w).hash k
  | [], _, _, e, he => nomatch he
  | e :: es, r, h, e', he => by
    obtain ⟨x, y, t, u, r', _, h1, h2, _, h4⟩ := h
    rcases List.mem_cons.mp he with rfl | he
    · exact ⟨.inr x, by rw [h2]; exact mixKind_str P w x t, h1⟩
    · exact entOk.keys h4 e' he
theorem entOk.pairs {w : World} {P : Program} : ∀ {es : List DictEntry} {r : List (Str × Str)}, entOk w es r → ∃ vs : List (Key × Value), KV (r.map fun p => ((.inr p.1 : Key), V.str p.2)) vs ∧ Pairs (mixKind P w) es vs ∧ vs.map (·.1) = r.map fun p => (.inr p.1 : Key)
  | [], r, h => by
    have h : r = [] := h
    subst h
    exact ⟨[], .nil, .nil, rfl⟩
  | e :: es, r, h => by
    obtain ⟨x, y, t, u, r', rfl, h1, h2, h3, h4⟩ := h
    obtain ⟨vs, a, b, c⟩ := entOk.pairs (P := P) h4
    refine ⟨(.inr x, .str y u) :: vs, .cons ⟨rfl, u, rfl⟩ a, .cons (by rw [h2]; exact mixKind_str P w x t) h3 b, ?_⟩
    rw [List.map_cons, List.map_cons, c]
theorem KD.of {w : World} {K : PySem.W.Frag} {a : Addr} {es : Array DictEntry} {ep : Nat} {r : List (Str × Str)} (o : K.lookup a = some ⟨.type "dict", none, .dict es ep, #[]⟩) (e : entOk w es.toList r) (n : (r.map fun p => (.inr p.1 : Key)).Nodup) :
    KD w K a (r.map fun p => ((.inr p.1 : Key), V.str p.2)) := ⟨fun P h X => by
  obtain ⟨vs, h1, h2, h3⟩ := entOk.pairs (P := P) e
  exact ⟨vs, h1, _, es, ep, X _ _ o, ⟨rfl, rfl, rfl⟩, rfl, fun x hx => entOk.keys e x (by simpa using hx), h2, by rw [h3]; exact n⟩⟩
theorem cx_w {CX : CXT} {P : Program} {w : World} {K : PySem.W.Frag} {mg : Str → Option Value} {base : Heap} {N : List Str} {qual : Str} {scope : Scope} {f : Addr} {cd : Value} {A : Around} {outer : List Env} {s : Shared} {H : Hp} {E : XK} : (cxOf CX P w K mg base N qual scope f cd A outer s H E).w = w := rfl
theorem bk_w {X : Cx} {xs ys : List Str} {scope : Scope} {C : Addr} {s₀ : Shared} {H₀ : Hp} {fp : List Addr} : (blockCx X xs ys scope C s₀ H₀ fp).w = X.w := rfl
/-! ### isinstance of built-in kinds -/
theorem kit_same {K : PySem.W.Frag} {T : String} : PySem.W.kitOne K (.type T) (.type T) = some true := by
  unfold PySem.W.kitOne
  rw [if_pos (by simp)]
def kitF (S T : String) : Bool := !(Value.type S == Value.type T) && PySem.W.kitMeta T && ((PySem.fastBuiltinMro S).map (·.contains (.type T)) == some false)
theorem kit_f {K : PySem.W.Frag} {S T : String} (h : kitF S T = true) : PySem.W.kitOne K (.type S) (.type T) = some false := by
  unfold kitF at h
  simp only [Bool.and_eq_true, Bool.not_eq_true', beq_iff_eq] at h
  unfold PySem.W.kitOne
  rw [if_neg (by rw [h.1.1]; decide)]
  show (if PySem.W.kitMeta T = true then PySem.W.subIn K (.type S) (.type T) else none) = _
  rw [if_pos h.1.2]
  exact h.2
theorem kit_sb {K : PySem.W.Frag} : PySem.W.kitOne K (.type "str") (.type "bool") = some false := kit_f (by decide +kernel)
theorem kit_si {K : PySem.W.Frag} : PySem.W.kitOne K (.type "str") (.type "int") = some false := kit_f (by decide +kernel)
theorem kit_tb {K : PySem.W.Frag} : PySem.W.kitOne K (.type "tuple") (.type "bool") = some false := kit_f (by decide +kernel)
theorem kit_ti {K : PySem.W.Frag} : PySem.W.kitOne K (.type "tuple") (.type "int") = some false := kit_f (by decide +kernel)
theorem kit_ts {K : PySem.W.Frag} : PySem.W.kitOne K (.type "tuple") (.type "str") = some false := kit_f (by decide +kernel)
theorem kit_lb {K : PySem.W.Frag} : PySem.W.kitOne K (.type "list") (.type "bool") = some false := kit_f (by decide +kernel)
theorem kit_li {K : PySem.W.Frag} : PySem.W.kitOne K (.type "list") (.type "int") = some false := kit_f (by decide +kernel)
theorem kit_ls {K : PySem.W.Frag} : PySem.W.kitOne K (.type "list") (.type "str") = some false := kit_f (by decide +kernel)
theorem kit_lt {K : PySem.W.Frag} : PySem.W.kitOne K (.type "list") (.type "tuple") = some false := kit_f (by decide +kernel)
theorem kit_ib {K : PySem.W.Frag} : PySem.W.kitOne K (.type "int") (.type "bool") = some false := kit_f (by decide +kernel)
theorem kit_nb {K : PySem.W.Frag} : PySem.W.kitOne K (.type "NoneType") (.type "bool") = some false := kit_f (by decide +kernel)
theorem kit_ni {K : PySem.W.Frag} : PySem.W.kitOne K (.type "NoneType") (.type "int") = some false := kit_f (by decide +kernel)
theorem kit_ns {K : PySem.W.Frag} : PySem.W.kitOne K (.type "NoneType") (.type "str") = some false := kit_f (by decide +kernel)
/-! ### a def that calls itself, level by level -/
theorem rec_ok {P : Program} {w : World} {K : PySem.W.Frag} {mg : Str → Option Value} {base : Heap} {x : Str} {ps : List Str} {st : Stmt} {f : Addr} {fd : FuncData} {sp : Nat → Sp} (F : Fun K x x st f fd) (b : Binds K fd ps []) (m : mg x = some (.ref f))
    (h0 : ∀ vs H Q E, ¬ sp 0 vs H Q E) (step : ∀ n, Has P w K mg base n x ps (sp n) → FnOk P w K mg base CX0 (n + 1) f fd ps (sp (n + 1))) : ∀ n, FnOk P w K mg base CX0 n f fd ps (sp n)
  | 0 => ⟨fun vs H Q E h => (h0 vs H Q E h).elim, fun A outer s H args us vs Q E _ _ _ _ h => (h0 vs H Q E h).elim⟩
  | n + 1 => step n (has_of F (rec_ok F b m h0 step n) b m)
/-! ### the mirror of a term -/
def mw (w : Str) : Str := if w = "none" then "all" else if w = "all" then "none" else if w = "both" then "either" else if w = "either" then "both" else w
mutual
def mir : Tm → Tm
  | .name x => .name x
  | .node w ts => .node (mw w) (mirs ts)
def mirs : List Tm → List Tm
  | [] => []
  | t :: ts => mir t :: mirs ts
end
theorem mirs_map : ∀ ts : List Tm, mirs ts = ts.map mir
  | [] => rfl
  | t :: ts => by rw [mirs, mirs_map ts, List.map_cons]
theorem mir_node (w : Str) (ts : List Tm) : mir (.node w ts) = .node (mw w) (ts.map mir) := by rw [mir, mirs_map]
theorem Sh.mw {w : Str} {n : Nat} (h : Sh w n) : Sh (mw w) n ∧ L2.mw (L2.mw w) = w := by
  rcases h with ⟨rfl, h⟩ | ⟨rfl, h⟩ | ⟨rfl, h⟩ | ⟨rfl, h⟩ | ⟨rfl, h⟩
  · exact ⟨.inr (.inl ⟨by decide +kernel, h⟩), by decide +kernel⟩
  · exact ⟨.inl ⟨by decide +kernel, h⟩, by decide +kernel⟩
  · exact ⟨.inr (.inr (.inl ⟨by decide +kernel, h⟩)), by decide +kernel⟩
  · exact ⟨.inr (.inr (.inr (.inr ⟨by decide +kernel, h⟩))), by decide +kernel⟩
  · exact ⟨.inr (.inr (.inr (.inl ⟨by decide +kernel, h⟩))), by decide +kernel⟩
mutual
theorem wt_mir : ∀ t : Tm, wt (mir t) = wt t
  | .name x => by rw [mir]
  | .node w ts => by rw [mir, wt, wt, wts_mirs ts]
theorem wts_mirs : ∀ ts : List Tm, wts (mirs ts) = wts ts
  | [] => by rw [mirs]
  | t :: ts => by rw [mirs, wts, wts, wt_mir t, wts_mirs ts]
end
theorem Fit.mir : ∀ {n : Nat} {t : Tm}, Fit n t → Fit n (mir t) ∧ L2.mir (L2.mir t) = t
  | n, .name x, h => by rw [L2.mir, L2.mir]; exact ⟨h, rfl⟩
  | 0, .node w ts, h => by
    have h2 : ts = [] := h.2
    subst h2
    rw [mir_node, mir_node]
    exact ⟨⟨h.1.mw.1, rfl⟩, by rw [h.1.mw.2]; rfl⟩
  | n + 1, .node w ts, h => by
    have a : ∀ t ∈ ts, Fit n (L2.mir t) ∧ L2.mir (L2.mir t) = t := fun t ht => Fit.mir (h.2 t ht)
    rw [mir_node, mir_node]
    refine ⟨⟨by rw [List.length_map]; exact h.1.mw.1, fun t ht => ?_⟩, ?_⟩
    · obtain ⟨u, hu, rfl⟩ := List.mem_map.mp ht
      exact (a u hu).1
    · rw [h.1.mw.2]
      have e : (ts.map L2.mir).map L2.mir = ts := by
        have go : ∀ us : List Tm, (∀ t ∈ us, L2.mir (L2.mir t) = t) → (us.map L2.mir).map L2.mir = us := by
          intro us
          induction us with
          | nil => intro _; rfl
          | cons u r ih =>
            intro hu
            rw [List.map_cons, List.map_cons, hu u (by simp), ih fun t ht => hu t (by simp [ht])]
        exact go ts fun t ht => (a t ht).2
      rw [e]
/-! ### pieces -/
theorem cut_tail (x : V) (xs : List V) : cutV (x :: xs) (some 1) none = xs := by
  unfold cutV
  have e : HT.sIx (x :: xs).length 0 (some ((1 : Nat) : Int)) = 1 := by rw [HT.sIx_nat, List.length_cons]; omega
  have e : HT.sIx (x :: xs).length 0 (some 1) = 1 := e
  rw [e, HT.sIx_none, List.drop_one, List.tail_cons, List.take_of_length_le (by rw [List.length_cons]; omega)]
theorem tail_not_whole (x : V) (xs : List V) : ¬ (HT.sIx (x :: xs).length 0 (some 1) = 0 ∧ HT.sIx (x :: xs).length (x :: xs).length none = (x :: xs).length) := by
  have e : HT.sIx (x :: xs).length 0 (some ((1 : Nat) : Int)) = 1 := by rw [HT.sIx_nat, List.length_cons]; omega
  have e : HT.sIx (x :: xs).length 0 (some 1) = 1 := e
  rw [e]
  omega
theorem TAts.snoc {H : Hp} {ts : List Tm} {vs : List V} {i : Nat} {t : Tm} {v : V} (ht : ts[i]? = some t) (h : TAts H (ts.take i) vs) (h1 : TAt H t v) : TAts H (ts.take (i + 1)) (vs ++ [v]) := by
  obtain ⟨hi, e⟩ := List.getElem?_eq_some_iff.mp ht
  rw [List.take_succ_eq_append_getElem hi, e]
  exact TAts.append h (TAts.one h1)
theorem Same.tup {K : PySem.W.Frag} {H H' : Hp} {a : Addr} {xs : List V} (e : Same H H') (h : SqT K H a xs) : SqT K H' a xs := by
  rcases h with (h | ⟨o, h⟩) | h
  · exact .inl (.inl (e _ _ h))
  · exact .inl (.inr ⟨o, e _ _ h⟩)
  · exact .inr h
theorem at0 {α : Type} {x : α} {xs : List α} : atI (x :: xs) 0 = some x := atI_nat (j := 0) (xs := x :: xs) rfl
theorem at1 {α : Type} {x y : α} {xs : List α} : atI (x :: y :: xs) 1 = some y := atI_nat (j := 1) (xs := x :: y :: xs) rfl
/-! ### sayings and rules -/
def dSay (p : Tm × Tm) : Dt := .tup [toD p.1, toD p.2]
def dRule (r : List (Tm × Tm) × (Tm × Tm)) : Dt := .tup [.lst (r.1.map dSay), dSay r.2]
abbrev SAt (H : Hp) (p : Tm × Tm) (v : V) : Prop := DAt H (dSay p) v
abbrev SAts (H : Hp) (ps : List (Tm × Tm)) (vs : List V) : Prop := DAts H (ps.map dSay) vs
abbrev RAt (H : Hp) (r : List (Tm × Tm) × (Tm × Tm)) (v : V) : Prop := DAt H (dRule r) v
theorem SAt.out {H : Hp} {p : Tm × Tm} {v : V} (h : SAt H p v) : ∃ a v1 v2, v = .ref a ∧ H a = some (.tup [v1, v2]) ∧ TAt H p.1 v1 ∧ TAt H p.2 v2 := by
  obtain ⟨a, vs, e1, e2, u, r, e3, h1, u2, r2, e4, h2, e5⟩ := h
  have e5 : r2 = [] := e5
  subst e5; subst e4; subst e3
  exact ⟨a, u, u2, e1, e2, h1, h2⟩
theorem SAt.mk {H : Hp} {p : Tm × Tm} {a : Addr} {v1 v2 : V} (h : H a = some (.tup [v1, v2])) (h1 : TAt H p.1 v1) (h2 : TAt H p.2 v2) : SAt H p (.ref a) :=
  ⟨a, _, rfl, h, v1, _, rfl, h1, v2, _, rfl, h2, rfl⟩
theorem RAt.out {H : Hp} {r : List (Tm × Tm) × (Tm × Tm)} {v : V} (h : RAt H r v) : ∃ a l s vs, v = .ref a ∧ H a = some (.tup [.ref l, s]) ∧ H l = some (.lst vs) ∧ SAts H r.1 vs ∧ SAt H r.2 s := by
  obtain ⟨a, vs, e1, e2, u, q, e3, ⟨l, ws, e6, e7, h1⟩, u2, r2, e4, h2, e5⟩ := h
  have e5 : r2 = [] := e5
  subst e5; subst e4; subst e3; subst e6
  exact ⟨a, l, u2, ws, e1, e2, e7, h1, h2⟩
theorem RAt.mk {H : Hp} {r : List (Tm × Tm) × (Tm × Tm)} {a l : Addr} {s : V} {vs : List V} (h : H a = some (.tup [.ref l, s])) (hl : H l = some (.lst vs)) (h1 : SAts H r.1 vs) (h2 : SAt H r.2 s) : RAt H r (.ref a) :=
  ⟨a, _, rfl, h, _, _, rfl, ⟨l, vs, rfl, hl, h1⟩, s, _, rfl, h2, rfl⟩
theorem SAts.length {H : Hp} {ps : List (Tm × Tm)} {vs : List V} (h : SAts H ps vs) : vs.length = ps.length := by
  have := DAts.length h
  rw [List.length_map] at this
  exact this
theorem SAts.snoc {H : Hp} {ps : List (Tm × Tm)} {vs : List V} {i : Nat} {p : Tm × Tm} {v : V} (ht : ps[i]? = some p) (h : SAts H (ps.take i) vs) (h1 : SAt H p v) : SAts H (ps.take (i + 1)) (vs ++ [v]) := by
  obtain ⟨hi, e⟩ := List.getElem?_eq_some_iff.mp ht
  unfold SAts
  rw [List.take_succ_eq_append_getElem hi, e, List.map_append]
  exact DAts.append h (DAts.one h1)
theorem SAts.getV {H : Hp} {ps : List (Tm × Tm)} {vs : List V} {i : Nat} {v : V} (h : SAts H ps vs) (hv : vs[i]? = some v) : ∃ p, ps[i]? = some p ∧ SAt H p v := by
  have hi : i < ps.length := by rw [← h.length]; exact (List.getElem?_eq_some_iff.mp hv).1
  obtain ⟨u, h1, h2⟩ := DAts.get (d := dSay ps[i]) h (by rw [List.getElem?_map, List.getElem?_eq_getElem hi]; rfl)
  rw [hv] at h1
  cases h1
  exact ⟨_, List.getElem?_eq_getElem hi, h2⟩
/-- all of it small enough -/
def FitS (n m : Nat) (p : Tm × Tm) : Prop := (Fit n p.1 ∧ wt p.1 ≤ m) ∧ Fit n p.2 ∧ wt p.2 ≤ m
theorem FitS.dfit {n m : Nat} {p : Tm × Tm} (h : FitS n m p) (hm : m ≤ 900) : DFit (n + 2) (dSay p) := by
  refine ⟨by simp, fun d hd => ?_⟩
  rcases List.mem_cons.mp hd with rfl | hd
  · exact h.1.1.dfit (Nat.le_trans h.1.2 hm)
  · rw [List.mem_singleton.mp hd]
    exact h.2.1.dfit (Nat.le_trans h.2.2 hm)
theorem DFit.up : ∀ {n : Nat} {d : Dt}, DFit n d → DFit (n + 1) d
  | n, .non, _ => by cases n <;> trivial
  | n, .bl _, _ => by cases n <;> trivial
  | n, .int _, _ => by cases n <;> trivial
  | n, .str _, _ => by cases n <;> trivial
  | 0, .tup _, h => h.elim
  | 0, .lst _, h => h.elim
  | n + 1, .tup ds, h => ⟨h.1, fun d hd => DFit.up (h.2 d hd)⟩
  | n + 1, .lst ds, h => ⟨h.1, fun d hd => DFit.up (h.2 d hd)⟩
theorem rule_dfit {n m : Nat} {r : List (Tm × Tm) × (Tm × Tm)} (h : ∀ p ∈ r.1, FitS n m p) (h2 : FitS n m r.2) (hm : m ≤ 900) (hl : r.1.length ≤ 900) : DFit (n + 4) (dRule r) := by
  refine ⟨by simp, fun d hd => ?_⟩
  rcases List.mem_cons.mp hd with rfl | hd
  · refine ⟨by rw [List.length_map]; omega, fun d hd => ?_⟩
    obtain ⟨p, hp, rfl⟩ := List.mem_map.mp hd
    exact (h p hp).dfit hm
  · rw [List.mem_singleton.mp hd]
    exact (h2.dfit hm).up
def mirP (p : Tm × Tm) : Tm × Tm := (mir p.2, mir p.1)
theorem FitS.mir {n m : Nat} {p : Tm × Tm} (h : FitS n m p) : FitS n m (mirP p) := by
  refine ⟨⟨h.2.1.mir.1, ?_⟩, h.1.1.mir.1, ?_⟩
  · show wt (L2.mir p.2) ≤ m
    rw [wt_mir]
    exact h.2.2
  · show wt (L2.mir p.1) ≤ m
    rw [wt_mir]
    exact h.1.2
/-! ### a slice of ints -/
def cutI (ns : List Int) (lo hi : Option Int) : List Int := (ns.drop (HT.sIx ns.length 0 lo)).take (HT.sIx ns.length ns.length hi - HT.sIx ns.length 0 lo)
theorem cut_ints (ns : List Int) (lo hi : Option Int) : cutV (ns.map V.int) lo hi = (cutI ns lo hi).map V.int := by
  unfold cutV cutI
  rw [List.length_map, List.map_take, List.map_drop]
theorem cutI_len (ns : List Int) (lo hi : Option Int) : (cutI ns lo hi).length ≤ ns.length := by
  unfold cutI
  rw [List.length_take, List.length_drop]
  omega
theorem cutI_len2 (ns : List Int) (i j : Nat) : (cutI ns (some (i : Int)) (some (j : Int))).length ≤ j - i := by
  unfold cutI
  rw [List.length_take, List.length_drop, HT.sIx_nat, HT.sIx_nat]
  omega
theorem DFit.mono {n m : Nat} {d : Dt} (h : DFit n d) (hm : n ≤ m) : DFit m d := by
  obtain ⟨k, rfl⟩ := Nat.le.dest hm
  induction k with
  | zero => exact h
  | succ k ih => exact DFit.up (ih (by omega))
theorem FitS.mono {n m n' m' : Nat} {p : Tm × Tm} (h : FitS n m p) (h1 : n ≤ n') (h2 : m ≤ m') : FitS n' m' p := ⟨⟨h.1.1.mono h1, Nat.le_trans h.1.2 h2⟩, h.2.1.mono h1, Nat.le_trans h.2.2 h2⟩
end L2
set_option Elab.async false
set_option linter.all false
set_option maxRecDepth 100000
namespace L2
open PySem PySem.Spec PyProof.Rows
/-! ### the rules with the written part named: for a comprehension's block, whose reading may not speak of the block's own context -/
section
variable {X : Cx} (K : PySem.W.Frag)
theorem ix_listK (h : X.K = K := by rfl) : IxR X (rIxL K) := by subst h; exact ix_list
theorem ix_tupK (h : X.K = K := by rfl) : IxR X (rIxT K) := by subst h; exact ix_tup
theorem ix_seqK (h : X.K = K := by rfl) : IxR X (rIx K) := by subst h; exact ix_seq
theorem sl_listK (h : X.K = K := by rfl) : SlR X (rSlL K) := by subst h; exact sl_list
theorem sl_tupK (h : X.K = K := by rfl) : SlR X (rSlT K) := by subst h; exact sl_tup
theorem op_catTK (h : X.K = K := by rfl) : OpR X (binaryOp .Add) (rCatT K) := by subst h; exact op_catT
theorem op_in_seqK (h : X.K = K := by rfl) : OpR X (compareOp .In) (rIn K false) := by subst h; exact op_in_seq
theorem op_notIn_seqK (h : X.K = K := by rfl) : OpR X (compareOp .NotIn) (rIn K true) := by subst h; exact op_notIn_seq
theorem call_lenK (h : X.K = K := by rfl) : CallR X (.builtin "len") (fun xs H Q => ∃ x n, xs = [x] ∧ LenV K x H n ∧ Q (.int n) H) := by subst h; exact call_len
theorem call_list_ofK (h : X.K = K := by rfl) : CallR X (.type "list") (fun xs H Q => ∃ p ys, xs = [.ref p] ∧ (SqL K H p ys ∨ SqT K H p ys) ∧ ∀ l, H l = none → Q (.ref l) (upd H l (.lst ys))) := by subst h; exact call_list_of
theorem call_tuple_ofK (h : X.K = K := by rfl) : CallR X (.type "tuple") (fun xs H Q => ∃ p ys, xs = [.ref p] ∧ ((SqL K H p ys ∧ ∀ l, H l = none → Q (.ref l) (upd H l (.tup ys))) ∨ (SqT K H p ys ∧ Q (.ref p) H))) := by subst h; exact call_tuple_of
end
end L2
set_option Elab.async false
set_option linter.all false
set_option maxRecDepth 100000
namespace L2
open PySem PySem.Spec PyProof.Rows
theorem F.lk_list_keys : typeLookup (.type "list") "keys" = pure none := by rw [typeLookup_type, PySem.builtinLookup_eq_fast]; kernel_rfl
theorem F.lk_list_ga : typeLookup (.type "list") "__getattr__" = pure none := by rw [typeLookup_type, PySem.builtinLookup_eq_fast]; kernel_rfl
theorem F.sub_ae : isSubtype (.type "AttributeError") (.type "AttributeError") = pure true := by rw [isSubtype_type]; kernel_rfl
/-- a heap that keeps all that was, with an AttributeError in it -/
def AeAt (h h' : Heap) (e : Addr) : Prop := (∀ b u, h.get? b = some u → h'.get? b = some u) ∧ ∃ o, h'.get? e = some o ∧ o.cls = .type "AttributeError"
section
variable {prog : Program} {w : World} {A : Around} {E : Value → Shared → Prop} {s : Shared} {a : Addr} {its : Array Value} {n : Nat} {sl : Array (Option Value)}
theorem raiseAttr {α : Type} {o : Value} {name msg : Str} {Q : α → Shared → Prop} (hA : A.handled = none) (hm : msg.length ≤ sizeLine)
    (hq : ∀ h' t' e, AeAt s.heap h' e → E (.ref e) { s with heap := h', toks := t' }) : wpAny (model prog w) A (raiseAttrError o name msg : Sem α) Q E s := by
  unfold raiseAttrError
  refine wpAny_bind (wpAny_mkStr (wpAny_bind ?_) hm)
  unfold newExc newTuple
  refine wpAny_bind (wpAny_newObj_type ?_ (by size_fits))
  refine wpAny_bind (m := firstArgMember _ _) (wpAny_of_eq (a := Value.none) (by
    simp only [firstArgMember]
    rw [show ((Manifest.find? "AttributeError").elim false fun t => t.mro.contains "StopIteration" || t.mro.contains "SystemExit") = false by decide +kernel]
    rfl) ?_)
  refine wpAny_newObj_type ?_ (by size_fits)
  refine wpAny_bind (wpAny_mkText ?_)
  refine wpAny_bind ?_
  obtain ⟨h, g, d, t, os⟩ := s
  dsimp only at hq ⊢
  have hk1 : ∀ b u, h.get? b = some u → (h.push { cls := Value.type "tuple", data := Data.seq #[Value.str msg t] }).get? b = some u := fun b u e => Heap.get?_push_of_some _ e
  generalize h.push { cls := Value.type "tuple", data := Data.seq #[Value.str msg t] } = h1 at hk1 ⊢
  have hE := Heap.get?_push_size h1 (o := { cls := Value.type "AttributeError", data := Data.fields (#[Value.ref h.objs.size, Value.none, Value.none, Value.none, Value.bool false, Value.none] ++ ownMembersOf (Value.type "AttributeError") [Value.str msg t]) }) rfl
  have hk2 : ∀ b u, h1.get? b = some u → (h1.push { cls := Value.type "AttributeError", data := Data.fields (#[Value.ref h.objs.size, Value.none, Value.none, Value.none, Value.bool false, Value.none] ++ ownMembersOf (Value.type "AttributeError") [Value.str msg t]) }).get? b = some u := fun b u e => Heap.get?_push_of_some _ e
  have hne : ∀ b u, h1.get? b = some u → b ≠ h1.objs.size := fun b u e => Nat.ne_of_lt (Heap.lt_size e)
  generalize h1.push { cls := Value.type "AttributeError", data := Data.fields (#[Value.ref h.objs.size, Value.none, Value.none, Value.none, Value.bool false, Value.none] ++ ownMembersOf (Value.type "AttributeError") [Value.str msg t]) } = h2 at hE hk2 ⊢
  generalize h1.objs.size = e at hE hne ⊢
  have hT : (⟨h2, g, d, t + 1 + 1, os⟩ : Shared).TypeIs (.ref e) "AttributeError" := ⟨_, hE, rfl⟩
  have f1 := F.sub_ae
  unfold noteAttr
  dsimp only
  refine wpAny_bind ?_
  unfold lacksNameAndObj
  dsimp only
  refine wpAny_bind (wpAny_isInstance hT f1 ?_)
  rw [if_neg (by decide)]
  refine wpAny_bind (wpAny_load hE ?_)
  dsimp only
  rw [if_neg (by simp [ownMembersOf, unsetMember, rawInt]), if_neg (by simp [ownMembersOf, unsetMember, doubtfulMember, rawInt])]
  refine wpAny_pure ?_
  rw [if_pos rfl]
  refine wpAny_bind (wpAny_rule ?_)
  refine wpAny_bind (wpAny_typeOf hT ?_)
  dsimp only
  unfold layMembers
  refine wpAny_bind (wpAny_load hE ?_)
  dsimp only
  refine wpAny_update hE ?_
  refine wpAny_raiseNew_none hA (hq _ _ _ ⟨fun b u hb => ?_, ⟨_, Heap.get?_update_self _ hE (Obj.isFreed_of_fields (Obj.data_mapFields rfl _)), Obj.cls_mapFields _ _⟩⟩)
  exact (Heap.get?_update_other _ _ (Ne.symm (hne b u (hk1 b u hb)))).trans (hk2 b u (hk1 b u hb))
end
section
variable {prog : Program} {w : World} {A : Around} {E : Value → Shared → Prop} {h : Heap} {g : Array GenState} {d : Drawn} {t : Nat} {os : OsState} {a : Addr} {its : Array Value} {n : Nat} {sl : Array (Option Value)}
theorem nokeys_entry {tk : Tok} {Q : PySem.Fin → Shared → Prop} (hA : A.handled = none) (hx : h.get? a = some ⟨.type "list", none, .seq its n, sl⟩)
    (hq : ∀ h' t' e, AeAt h h' e → E (.ref e) ⟨h', g, d, t', os⟩) :
    wpAny (model prog w) A (Builtin.«object.__getattribute__» ⟨[.ref a, .str "keys" tk], []⟩) Q E ⟨h, g, d, t, os⟩ := by
  have hT : (⟨h, g, d, t, os⟩ : Shared).TypeIs (.ref a) "list" := ⟨_, hx, rfl⟩
  have f4 := F.lk_list_keys
  repeat (any_goals (first | assumption | wp_step))
  exact raiseAttr hA (by decide +kernel) hq
theorem nokeys_call {tk : Tok} {R : Result → Shared → Prop} (hA : A.handled = none) (hx : h.get? a = some ⟨.type "list", none, .seq its n, sl⟩)
    (hq : ∀ h' t' e, AeAt h h' e → R (.error (.ref e)) ⟨h', g, d, t', os⟩) :
    codeAny (model prog w) A (.call (.builtin "list.__getattribute__") ⟨[.ref a, .str "keys" tk], []⟩) R ⟨h, g, d, t, os⟩ :=
  codeAny_call_builtin PySem.F.slot_list_getattribute.plain PySem.F.entry_list_ga (PySem.F.slot_list_getattribute.check _ _ _ _ _ _ _ _ (show (⟨h, g, d, t, os⟩ : Shared).TypeIs (.ref a) "list" from ⟨_, hx, rfl⟩) (PySem.F.args_list_getattribute_2 _ _) (nokeys_entry hA hx hq))
theorem nokeys_by {tk : Tok} {Q : Value → Shared → Prop} (hA : A.handled = none) (hx : h.get? a = some ⟨.type "list", none, .seq its n, sl⟩)
    (hq : ∀ h' t' e, AeAt h h' e → E (.ref e) ⟨h', g, d, t', os⟩) : wpAny (model prog w) A (getAttrBy (.ref a) (.str "keys" tk) false) Q E ⟨h, g, d, t, os⟩ := by
  have hT : (⟨h, g, d, t, os⟩ : Shared).TypeIs (.ref a) "list" := ⟨_, hx, rfl⟩
  have f2 := PySem.F.slot_list_getattribute.lookup
  have f3 := PySem.F.slot_list_getattribute.bind (.ref a)
  have f5 := F.lk_list_ga
  have f6 := F.sub_ae
  repeat (any_goals (first | assumption | wp_step))
  refine nokeys_call hA hx fun h' t' e ae => ?_
  have hT2 : (⟨h', g, d, t', os⟩ : Shared).TypeIs (.ref e) "AttributeError" := ae.2
  repeat (any_goals (first | assumption | exact hq _ _ _ ae | wp_step))
theorem nokeys {Q : Option Value → Shared → Prop} (hA : A.handled = none) (hx : h.get? a = some ⟨.type "list", none, .seq its n, sl⟩)
    (hq : ∀ h' t', (∀ b u, h.get? b = some u → h'.get? b = some u) → Q none ⟨h', g, d, t', os⟩) : wpAny (model prog w) A (getAttr? (.ref a) "keys") Q E ⟨h, g, d, t, os⟩ := by
  unfold getAttr? getAttrBy?
  refine wpAny_bind (wpAny_mkText (wpAny_bind (wpAny_attempt (nokeys_by hA hx fun h' t' e ae => ?_))))
  dsimp only
  have hT2 : (⟨h', g, d, t', os⟩ : Shared).TypeIs (.ref e) "AttributeError" := ae.2
  refine wpAny_bind (wpAny_isInstance hT2 F.sub_ae ?_)
  rw [if_pos rfl]
  exact wpAny_pure (hq _ _ ae.1)
end
/-! ### a dict of a list of pairs -/
theorem F.plain_dul : plainId "dict.update.loop" = true := by decide +kernel
theorem F.entry_dul : entryFor table "dict.update.loop" = some Builtin.«dict.update.loop» := entryFor_of_tree (by kernel_rfl)
section
variable {prog : Program} {w : World} {Kt : Type} [DecidableEq Kt] {knd : KeyKind prog w Kt} {A : Around} {E : Value → Shared → Prop} {s : Shared}
theorem stored_take {kvs : List (Kt × Value)} (hn : (kvs.map (·.1)).Nodup) {i : Nat} {k : Kt} {v : Value} (h : kvs[i]? = some (k, v)) : stored (kvs.take i) k v = kvs.take (i + 1) := by
  obtain ⟨il, ie⟩ := List.getElem?_eq_some_iff.mp h
  have hno : (kvs.take i).any (fun kv => kv.1 = k) = false := by
    rw [Bool.eq_false_iff]
    intro z
    obtain ⟨x, hx, hk⟩ := List.any_eq_true.mp z
    have hk : x.1 = k := by simpa using hk
    obtain ⟨j, hj, e⟩ := List.getElem_of_mem hx
    rw [List.length_take] at hj
    rw [List.getElem_take] at e
    exact List.pairwise_iff_getElem.mp hn j i (by rw [List.length_map]; omega) (by rw [List.length_map]; omega) (by omega) (by simp [e, ie, hk])
  unfold stored
  rw [hno, List.take_succ_eq_append_getElem il, ie]
  rfl
theorem pairs_loop {R : Result → Shared → Prop} {d it l : Addr} {its : Array Value} {kvs : List (Kt × Value)} {h0 : Heap} (hA : A.handled = none) (hdi : d ≠ it) (hl : h0.IsList l its) (hd0 : ∀ u, h0.get? d ≠ some u) (hi0 : ∀ u, h0.get? it ≠ some u)
    (hn : (kvs.map (·.1)).Nodup) (hsz : kvs.length ≤ sizeLine) (hlen : its.size = kvs.length) (hp : ∀ (i : Nat) (k : Kt) (v : Value), kvs[i]? = some (k, v) → ∃ (a : Addr) (key : Value), its[i]? = some (Value.ref a) ∧ IsTup h0 a #[key, v] ∧ knd.is k key = true) :
    ∀ (m i : Nat) (t : Tok) (s : Shared), kvs.length - i = m → i ≤ kvs.length → s.heap.IsListIter it l i → s.heap.DictOf knd d (kvs.take i) → (∀ b u, h0.get? b = some u → s.heap.get? b = some u) →
    (∀ h' t', (∀ b u, h0.get? b = some u → h'.get? b = some u) → h'.DictOf knd d kvs → R (.ok (.ret .none)) { s with heap := h', toks := t' }) →
    codeAny (model prog w) A (.builtin "dict.update.loop" ⟨[.ref d, .ref it, .int i t, .none], []⟩) R s := by
  intro m
  induction m with
  | zero =>
    intro i t s hm hi hit hd hk hR
    have hin : i = kvs.length := by omega
    subst hin
    have hl' : s.heap.IsList l its := by obtain ⟨o, ho, r⟩ := hl; exact ⟨o, hk _ _ ho, r⟩
    refine codeAny_builtin F.entry_dul ?_
    rw [Around.under_plainId F.plain_dul _]
    show wpAny _ A.in1 (pyNext (.ref it) >>= _) _ _ s
    refine wpAny_bind (wpAny_pyNext_list_end (A := A.in1) hA hit hl' (by rw [Array.getElem?_eq_none_iff]; omega) fun h' he => ?_)
    rw [List.take_of_length_le (Nat.le_refl _)] at hd
    show wpAny _ A.in1 (Builtin.Dict.addKeywords d [] >>= _) _ _ _
    refine wpAny_bind (wpAny_pure (wpAny_pure (hR h' s.toks (fun b u hb => he b u (fun z => hi0 u (by rw [← z]; exact hb)) (hk b u hb)) (hd.extBut he hdi))))
  | succ m ih =>
    intro i t s hm hi hit hd hk hR
    have hlt : i < kvs.length := by omega
    have hl' : s.heap.IsList l its := by obtain ⟨o, ho, r⟩ := hl; exact ⟨o, hk _ _ ho, r⟩
    obtain ⟨a, key, ha, ht, hkey⟩ := hp i kvs[i].1 kvs[i].2 (List.getElem?_eq_getElem hlt)
    refine codeAny_builtin F.entry_dul ?_
    rw [Around.under_plainId F.plain_dul _]
    show wpAny _ A.in1 (pyNext (.ref it) >>= _) _ _ s
    refine wpAny_bind (wpAny_pyNext_list_item (A := A.in1) hit hl' ha fun h1 hit1 hs1 => ?_)
    have hk1 : ∀ b u, h0.get? b = some u → h1.get? b = some u := fun b u hb => (hs1.2 b (fun z => hi0 u (by rw [← z]; exact hb))).trans (hk b u hb)
    have hd1 : h1.DictOf knd d (kvs.take i) := hd.sameBut hs1 hdi
    obtain ⟨ot, hot, hct, nt, hdt⟩ := ht
    have hot1 := hk1 _ _ hot
    have hT : ({ s with heap := h1 } : Shared).TypeIs (.ref a) "tuple" := ⟨_, hot1, hct⟩
    refine wpAny_bind (wpAny_holding (wpAny_bind ?_))
    refine wpAny_tryCatch ?_
    unfold Builtin.Dict.pairItems
    refine wpAny_bind (wpAny_typeOf hT ?_)
    rw [if_pos (by decide)]
    refine wpAny_bind (wpAny_seqItems hot1 hdt (wpAny_pure ?_))
    refine wpAny_holding (wpAny_dictSet_pairs (kvs := kvs.take i) hkey hd1 (fun h2 hd2 hs2 => ?_) (by rw [List.length_take]; omega))
    rw [stored_take hn (show kvs[i]? = some (kvs[i].1, kvs[i].2) from List.getElem?_eq_getElem hlt)] at hd2
    refine wpAny_pure ⟨plainId_quiet F.plain_dul _, ?_⟩
    have hk2 : ∀ b u, h0.get? b = some u → h2.get? b = some u := fun b u hb => (hs2.2 b (fun z => hd0 u (by rw [← z]; exact hb))).trans (hk1 b u hb)
    have hit2 : h2.IsListIter it l (i + 1) := by obtain ⟨o, ho, r⟩ := hit1; exact ⟨o, (hs2.2 _ (Ne.symm hdi)).trans ho, r⟩
    exact ih (i + 1) _ { s with heap := h2, toks := s.toks + 1 } (by omega) hlt hit2 hd2 hk2 hR
theorem call_dict_pairs {l : Addr} {its : Array Value} {kvs : List (Kt × Value)} {Q : Value → Shared → Prop} (hA : A.handled = none) (hl : PlainL s.heap l its)
    (hn : (kvs.map (·.1)).Nodup) (hsz : kvs.length ≤ sizeLine) (hlen : its.size = kvs.length) (hp : ∀ (i : Nat) (k : Kt) (v : Value), kvs[i]? = some (k, v) → ∃ (a : Addr) (key : Value), its[i]? = some (Value.ref a) ∧ IsTup s.heap a #[key, v] ∧ knd.is k key = true)
    (h : ∀ h' t', (∀ b u, s.heap.get? b = some u → h'.get? b = some u) → h'.DictOf knd s.heap.objs.size kvs → Q (.ref s.heap.objs.size) { s with heap := h', toks := t' }) :
    wpAny (model prog w) A (call (.type "dict") [.ref l]) Q E s := by
  refine callType_codes (Q₁ := fun obj s₁ => obj = .ref s.heap.objs.size ∧ s₁ = { s with heap := s.heap.push { cls := .type "dict", data := .dict #[] } }) PySem.F.kt_called_dict (PySem.F.kt_typeCall_dict_1 _) PySem.F.entry_dict_init (kt_code_dict_new _ ⟨rfl, rfl⟩) ?_
  rintro obj s₁ ⟨rfl, rfl⟩
  have hnew : (s.heap.push { cls := .type "dict", data := .dict #[] }).DictOf knd s.heap.objs.size [] := Heap.DictOf.new s.heap
  refine ⟨hnew.typeIs, PySem.F.args_dict_init_2 _ _, ?_⟩
  obtain ⟨ol, nl, hol, hlc, hld, hls⟩ := hl
  have hol1 : (s.heap.push { cls := .type "dict", data := .dict #[] }).get? l = some ol := Heap.get?_push_of_some _ hol
  have hT : ({ s with heap := s.heap.push { cls := .type "dict", data := .dict #[] } } : Shared).TypeIs (.ref l) "list" := ⟨_, hol1, hlc⟩
  unfold Builtin.«dict.__init__»
  refine wpAny_bind ?_
  unfold Builtin.Dict.selfAndRest
  refine wpAny_bind (wpAny_notOrdered_dict hnew.typeIs ?_)
  show wpAny _ _ (pure (s.heap.objs.size, [Value.ref l])) _ _ _
  refine wpAny_pure ?_
  show wpAny _ _ (Builtin.Dict.updateFrom "dict.__init__" s.heap.objs.size (.ref l) [] .none) _ _ _
  unfold Builtin.Dict.updateFrom
  refine wpAny_bind (wpAny_typeOf hT ?_)
  rw [if_pos (by decide)]
  have hkd : ∀ b u, s.heap.get? b = some u → (s.heap.push { cls := .type "dict", data := .dict #[] }).get? b = some u := fun b u e => Heap.get?_push_of_some _ e
  have hd0 : ∀ u, s.heap.get? s.heap.objs.size ≠ some u := fun u z => Nat.lt_irrefl _ (Heap.lt_size z)
  obtain ⟨hp0, g, d, t, os⟩ := s
  dsimp only at *
  generalize hp0.push { cls := .type "dict", data := .dict #[] } = h1 at hnew hol1 hT hkd ⊢
  generalize hp0.objs.size = D at hnew hd0 h ⊢
  obtain ⟨c1, c2, c3, c4⟩ := ol
  dsimp only at hlc hld hls
  subst hlc hld hls
  refine wpAny_bind (nokeys (A := A.in1.in1) hA hol1 fun h2 t2 hk2 => ?_)
  rw [if_pos (by rfl)]
  refine wpAny_bind (wpAny_rule ?_)
  have hl2 : h2.IsList l its := ⟨_, hk2 _ _ hol1, rfl, _, rfl⟩
  refine wpAny_bind (wpAny_pyIter_list hl2 ?_)
  refine wpAny_pure ⟨plainId_quiet F.plain_dul _, ?_⟩
  have hd2 := hnew.keep hk2
  have hit0 : ∀ u, hp0.get? h2.objs.size ≠ some u := fun u z => Nat.lt_irrefl _ (Heap.lt_size (hk2 _ _ (hkd _ _ z)))
  have hDi : D ≠ h2.objs.size := fun z => by
    obtain ⟨o, _, _, ho, _⟩ := hd2
    exact Nat.lt_irrefl _ (by have := Heap.lt_size ho; rw [z] at this; exact this)
  refine pairs_loop (h0 := hp0) (kvs := kvs) (A := A.in1) hA hDi ⟨_, hol, rfl, _, rfl⟩ hd0 hit0 hn hsz hlen hp kvs.length 0 _ _ (by omega) (Nat.zero_le _) ⟨_, Heap.get?_push_size _ rfl, rfl, rfl⟩ (hd2.push _) (fun b u hb => Heap.get?_push_of_some _ (hk2 _ _ (hkd _ _ hb))) fun h' t' hk' hd' => ?_
  exact ⟨rfl, h h' t' hk' hd'⟩
end
end L2
set_option Elab.async false
set_option linter.all false
set_option maxRecDepth 100000
namespace L2
open PySem PySem.Spec PyProof.Rows
section
variable {X : Cx}
def rInsert : V → List V → Hp → VK → Prop := fun x vs H Q => ∃ (l : Addr) (xs : List V) (i : Nat) (y : V), x = .ref l ∧ vs = [.int i, y] ∧ H l = some (.lst xs) ∧ i ≤ xs.length ∧ xs.length < 1000000 ∧ Q .non (upd H l (.lst (xs.take i ++ y :: xs.drop i)))
theorem insert_run {prog : Program} {w : World} {A : Around} {E : Value → Shared → Prop} {Q : Value → Shared → Prop} {s : Shared} {l : Addr} {its : Array Value} {n : Nat} {x : Int} {t : Tok} {u : Value} (h1 : (!Builtin.List.listFitsIndex x) = false) (hsz : its.size ≤ sizeLine) (e : s.heap.get? l = some { cls := .type "list", data := .seq its n })
    (q : Q .none { s with heap := s.heap.update l (Obj.mapSeq fun xs => have k := if x < 0 then (x + (xs.size : Int)).toNat else min x.toNat xs.size; (xs.extract 0 k).push u ++ xs.extract k), toks := s.toks }) :
    wpAny (model prog w) A (call (.builtin "list.insert") [.ref l, .int x t, u]) Q E s :=
  call_meets PySem.F.slot_list_insert ⟨_, e, rfl⟩ PySem.F.entry_list_insert (PySem.F.args_list_insert_3 _ _ _) (PySem.AutoSeq1.list_insert_list_int_val_1 l its n x t u (by rw [h1]; decide) hsz) ⟨e, q⟩
theorem ins_eq (its : List Value) (i : Nat) (u : Value) (h : i ≤ its.length) (x : Int) (hx : x = i) : (fun xs : Array Value => have k := if x < 0 then (x + (xs.size : Int)).toNat else min x.toNat xs.size; (xs.extract 0 k).push u ++ xs.extract k) its.toArray = (its.take i ++ u :: its.drop i).toArray := by
  have e1 : (if x < 0 then (x + (its.toArray.size : Int)).toNat else min x.toNat its.toArray.size) = i := by
    rw [if_neg (by omega), List.size_toArray]
    omega
  show (its.toArray.extract 0 (if x < 0 then (x + (its.toArray.size : Int)).toNat else min x.toNat its.toArray.size)).push u ++ its.toArray.extract (if x < 0 then (x + (its.toArray.size : Int)).toNat else min x.toNat its.toArray.size) = _
  rw [e1]
  apply Array.toList_inj.mp
  simp [Array.toList_extract, List.extract_eq_drop_take]
  exact List.take_of_length_le (by rw [List.length_drop]; exact Nat.le_refl _)
theorem mt_insert : MtM X "list.insert" rInsert := by
  intro pins s σ H x vs v us Q I rx rv h
  obtain ⟨l, xs, i, y, rfl, rfl, hH, hi, hz, q⟩ := h
  cases rx
  obtain ⟨u1, u, rfl, ru1, ru⟩ := rv.two
  obtain ⟨t, rfl⟩ := ru1
  obtain ⟨z, its, n, r, hl, e⟩ := I.lstM hH
  have hs : sizeLine = 16777216 := sizeLine_eq
  have hfit : (!Builtin.List.listFitsIndex (i : Int)) = false := by
    rw [fitsIndex_both (by omega) (by omega)]
    rfl
  have hsz : its.toArray.size ≤ sizeLine := by rw [List.size_toArray]; omega
  have hlen : (xs.take i ++ y :: xs.drop i).length ≤ sizeLine := by
    rw [List.length_append, List.length_cons, List.length_take, List.length_drop]
    omega
  have hil : i ≤ its.length := by omega
  clear hs hz hi
  obtain ⟨x, hx⟩ : ∃ x : Int, x = (i : Int) := ⟨_, rfl⟩
  rw [← hx] at hfit ⊢
  exact insert_run hfit hsz e ⟨.non, _, I.lset (its' := its.take i ++ u :: its.drop i) hH e (ins_eq its i u hil x hx) ((r.take i).append (.cons ru (r.drop i))) hlen, rfl, q⟩
def rIndex (K : PySem.W.Frag) : V → List V → Hp → VK → Prop := fun x vs H Q => ∃ (l : Addr) (zs : List Str) (z : Str) (j : Nat), x = .ref l ∧ vs = [.str z] ∧ H l = some (.lst (zs.map V.str)) ∧ zs.length ≤ 1000000 ∧ zs[j]? = some z ∧ (∀ m : Nat, m < j → zs[m]? ≠ some z) ∧ Q (.int j) H
def isS (z : Str) : Value → Bool
  | .str y _ => y == z
  | _ => false
theorem mt_index : MtM X "list.index" (rIndex X.K) := by
  intro pins s σ H x vs v us Q I rx rv h
  obtain ⟨l, zs, z, j, rfl, rfl, hH, h6, hj, hno, q⟩ := h
  cases rx
  obtain ⟨u, rfl, ru⟩ := rv.one
  obtain ⟨t, rfl⟩ := ru
  obtain ⟨hz, its, n, r, hl, e⟩ := I.lstM hH
  rw [List.length_map] at hl
  obtain ⟨jl, je⟩ := List.getElem?_eq_some_iff.mp hj
  have at_ : ∀ m (hm : m < its.length), ∃ tk, its[m] = .str (zs[m]'(by omega)) tk := fun m hm => by
    obtain ⟨u, h1, h2⟩ := r.get (i := m) (x := V.str (zs[m]'(by omega))) (by rw [List.getElem?_map, List.getElem?_eq_getElem (by omega)]; rfl)
    obtain ⟨tk, h2⟩ := h2
    rw [List.getElem?_eq_getElem hm] at h1
    cases h1
    exact ⟨tk, h2⟩
  have hj' : j < its.toArray.size := by rw [List.size_toArray]; omega
  have M := PySem.SeqAt.list_indexAt l its.toArray n none #[] (.str z t) (isS z) j hj' (by omega) (by
      obtain ⟨tk, h⟩ := at_ j (by omega)
      rw [List.getElem_toArray, h, je]
      simp [isS]) (fun m hm hlt => by
      obtain ⟨tk, h⟩ := at_ m (by omega)
      rw [List.getElem_toArray, h]
      have := hno m hlt
      rw [List.getElem?_eq_getElem (by omega)] at this
      simpa [isS] using this)
  refine call_meets PySem.F.slot_list_index ⟨_, e, rfl⟩ PySem.F.entry_list_index (PySem.F.args_list_index_2 _ _) M ⟨e, fun y hy => ?_, ?_⟩
  · obtain ⟨m, hm, rfl⟩ := List.getElem_of_mem (show y ∈ its by simpa using hy)
    obtain ⟨tk, h⟩ := at_ m hm
    rw [h]
    exact PySem.SeqAt.EqAt.str_str _ _ _ _
  · exact ⟨.int j, H, I.tok _, ⟨_, rfl⟩, q⟩
theorem pairs_of {P : Program} {w : World} {h : Heap} : ∀ (kvs : List (Key × V)) (as : List Addr), (∀ (i : Nat) (k : Key) (v : V), kvs[i]? = some (k, v) → ∃ a its, as[i]? = some a ∧ Vals [kV k, v] its ∧ IsTup h a its.toArray) →
    ∃ vs : List (Key × Value), KV kvs vs ∧ ∀ (i : Nat) (k : Key) (v : Value), vs[i]? = some (k, v) → ∃ (a : Addr) (key : Value), as[i]? = some a ∧ IsTup h a #[key, v] ∧ (mixKind P w).is k key = true
  | [], as, _ => ⟨[], .nil, fun i k v e => by simp at e⟩
  | (k, v) :: kvs, as, hh => by
    obtain ⟨a, its, h1, h2, h3⟩ := hh 0 k v rfl
    cases as with
    | nil => simp at h1
    | cons a0 as =>
      simp at h1
      subst h1
      obtain ⟨ku, vu, rfl, rk, rv⟩ := h2.two
      obtain ⟨vs, g1, g2⟩ := pairs_of (P := P) (w := w) kvs as fun i k v e => by
        obtain ⟨a, its, e1, e2⟩ := hh (i + 1) k v (by simpa using e)
        exact ⟨a, its, by simpa using e1, e2⟩
      refine ⟨(k, vu) :: vs, .cons ⟨rfl, rv⟩ g1, fun i k' v' e => ?_⟩
      cases i with
      | zero =>
        simp at e
        obtain ⟨rfl, rfl⟩ := e
        exact ⟨a0, ku, rfl, h3, kV_is rk⟩
      | succ i =>
        obtain ⟨a, key, e1, e2⟩ := g2 i k' v' (by simpa using e)
        exact ⟨a, key, by simpa using e1, e2⟩
theorem kv_keys {κ : Type} : ∀ {kvs : List (κ × V)} {vs : List (κ × Value)}, KV kvs vs → vs.map (·.1) = kvs.map (·.1)
  | _, _, .nil => rfl
  | _, _, .cons h r => by rw [List.map_cons, List.map_cons, kv_keys r, h.1]
/-- a dict of a list of pairs, no key twice -/
theorem call_dictP : CallR X (.type "dict") (fun xs H Q => X.calm = true ∧ ∃ (p : Addr) (as : List Addr) (kvs : List (Key × V)), xs = [.ref p] ∧ SqL X.K H p (as.map V.ref) ∧ as.length = kvs.length ∧ (kvs.map (·.1)).Nodup ∧
    (∀ (i : Nat) (k : Key) (v : V), kvs[i]? = some (k, v) → ∃ a, as[i]? = some a ∧ SqT X.K H a [kV k, v]) ∧ ∀ l, H l = none → Q (.ref l) (upd H l (.dK kvs))) := by
  intro pins s σ H xs us Q I r h
  obtain ⟨hc, p, as, kvs, rfl, hp, hlen, hn, hk, q⟩ := h
  obtain ⟨u, rfl, ru⟩ := vals1 r
  cases ru
  obtain ⟨its, rv, hl, hz⟩ := I.list hp
  have hil := rv.length
  rw [List.length_map] at hil hz
  obtain ⟨vs, g1, g2⟩ := pairs_of (P := X.prog) (w := X.w) (h := s.heap) kvs as fun i k v e => by
    obtain ⟨a, e1, e2⟩ := hk i k v e
    obtain ⟨its, r2, t2, _⟩ := I.tuple e2
    exact ⟨a, its, e1, r2, t2⟩
  have hvl : kvs.length = vs.length := Paired.length g1
  refine call_dict_pairs (knd := mixKind X.prog X.w) (kvs := vs) (I.ok.hd hc) hl (by rw [kv_keys g1]; exact hn) (by omega) (by rw [List.size_toArray]; omega) (fun i k v e => ?_) fun h' t' hk' hd' => ?_
  · obtain ⟨a, key, e1, e2, e3⟩ := g2 i k v e
    obtain ⟨u, h1, h2⟩ := rv.get (i := i) (x := V.ref a) (by rw [List.getElem?_map, e1]; rfl)
    cases h2
    exact ⟨a, key, by simpa using h1, e2, e3⟩
  · exact ⟨.ref s.heap.objs.size, _, I.laid (a := s.heap.objs.size) (o := .dK kvs) (t' := t') hk' (Nat.le_refl _) (dk_new (by omega) (beq_eq_false_iff_ne.mpr (Ne.symm (Nat.ne_of_lt I.big))) g1 hd'), rfl, q _ (I.hok.fresh (Nat.le_refl _))⟩
end
end L2
set_option Elab.async false
set_option linter.all false
set_option maxRecDepth 100000
namespace L2
open PySem PySem.Spec PyProof.Rows PySem.W
section
variable {prog : Program} {w : World} {A : Around} {E : Value → Shared → Prop} {s : Shared} {T : String} {r d : Addr} {n : Nat} {P : Nat → Value → Prop} {OK : Heap → Prop}
theorem strs_of : ∀ {vs : List Value} {ss : List Str}, vs.length = ss.length → (∀ (i : Nat) (v : Value) (x : Str), vs[i]? = some v → ss[i]? = some x → ∃ t, v = .str x t) → StrsAre vs ss
  | [], [], _, _ => .nil
  | [], _ :: _, h, _ => by simp at h
  | _ :: _, [], h, _ => by simp at h
  | v :: vs, x :: ss, h, hh => by
    obtain ⟨t, rfl⟩ := hh 0 v x rfl rfl
    exact .cons x t (strs_of (by simpa using h) fun i v' x' h1 h2 => hh (i + 1) v' x' (by simpa using h1) (by simpa using h2))
theorem strs_vals : ∀ {vs : List Value} {ss : List Str}, StrsAre vs ss → Vals (ss.map V.str) vs
  | _, _, .nil => .nil
  | _, _, .cons y t h => .cons ⟨t, rfl⟩ (strs_vals h)
/-- sorted(..) of what is walked, texts all -/
theorem sorted_src {Q : Value → Shared → Prop} (K : KdlSrc prog w T r d n P OK) (hh : A.handled = none) (hok : OK s.heap) (hn : n < 64) {ss : List Str} (hl : ss.length = n) (hP : ∀ (i : Nat) (v : Value) (x : Str), P i v → ss[i]? = some x → ∃ t, v = .str x t)
    (h : ∀ (h1 h' : Heap) (tk : Nat) (vs' : List Value) (ss' : List Str) (e : Nat), (∀ b o, s.heap.get? b = some o → h1.get? b = some o) → (∀ b o, h1.get? b = some o → h'.get? b = some o) → h'.get? h1.objs.size = some { cls := .type "list", data := .seq vs'.toArray e } → StrsAre vs' ss' → ss'.Perm ss → sortedS ss' = true → Q (.ref h1.objs.size) { s with heap := h', toks := tk }) :
    wpAny (model prog w) A (call (.builtin "sorted") [.ref r]) Q E s := by
  have hs : sizeLine = 16777216 := sizeLine_eq
  refine Calls.call_function_entry kind_sorted plain_sorted entry_sorted (args_sorted1 _) ?_
  unfold Builtin.«sorted»
  refine wpAny_bind (m := checkCount "sorted" 1 1 _) (wpAny_pure ?_)
  refine wpAny_bind (kdu_collect (A := A.in1) K hh hok (by omega) fun h' tk acc hk hacc => ?_)
  have hl2 : acc.toList.length = n := by rw [Array.length_toList]; exact hacc.1
  have hS : StrsAre acc.toList ss := strs_of (by omega) fun i v x h1 h2 => hP i v x (hacc.2 i v (by rw [← Array.getElem?_toList]; exact h1)) h2
  generalize acc.toList = vs at hl2 hS
  refine wpAny_bind (wpAny_newList ?_ (by omega))
  have hoL : (h'.push (seqObj "list" vs.toArray 0)).get? h'.objs.size = some (seqObj "list" vs.toArray 0) := Heap.get?_push_size _ rfl
  show wpAny _ _ _ _ _ { s with heap := h'.push (seqObj "list" vs.toArray 0), toks := tk }
  refine wpAny_bind (wpAny_holding (wpAny_call_entry slot_list_sort ⟨_, hoL, rfl⟩ entry_list_sort (list_sort_treeK (A := A.in1.in1) strKind_oneLt hoL hS.keysOf (fun v₁ v₂ rest e => keyKind_strs (by rw [← e]; exact hS)) (by omega) fun st' a1 a2 => ⟨_, rfl, ?_⟩) (args_list_sort _)))
  obtain ⟨ss', h1, h2, h3⟩ := sorted_out_str hS a1 a2
  obtain ⟨e, he⟩ := sortedHeap_at (out := (arrOf st').map (·.2)) hoL
  refine wpAny_pure ⟨_, rfl, h h' _ tk _ ss' e hk (fun b o hb' => ?_) (by rw [Array.toArray_toList]; exact he) h1 h2 h3⟩
  have hlt := Heap.lt_size hb'
  rw [sortedHeap_old (Nat.ne_of_lt hlt) (by rw [size_push']; exact Nat.lt_succ_of_lt hlt)]
  exact Heap.get?_push_of_some _ hb'
end
section
variable {X : Cx}
/-- sorted(d), the keys all texts -/
theorem call_sortedD : CallR X (.builtin "sorted") (fun xs H Q => X.calm = true ∧ ∃ (p : Addr) (kvs : List (Key × V)) (zs : List Str), xs = [.ref p] ∧ H p = some (.dK kvs) ∧ kvs.map (·.1) = zs.map Sum.inr ∧ zs.length < 64 ∧
    ∀ l zs', H l = none → zs'.Perm zs → sortedS zs' = true → Q (.ref l) (upd H l (.lst (zs'.map V.str)))) := by
  intro pins s σ H xs us Q I r h
  obtain ⟨hc, p, kvs, zs, rfl, hp, hk, h64, q⟩ := h
  obtain ⟨u, rfl, ru⟩ := vals1 r
  cases ru
  obtain ⟨z, hd, vs, rel, dd⟩ := dk_rd I.hok (.inl hp)
  obtain ⟨ep, hat⟩ := dd.dictAt
  have hvl : kvs.length = vs.length := Paired.length rel
  have hkl : kvs.length = zs.length := by have := congrArg List.length hk; rwa [List.length_map, List.length_map] at this
  have hkeys : vs.map (·.1) = zs.map Sum.inr := (kv_keys rel).trans hk
  refine sorted_src (kdl_dict (knd := mixKind X.prog X.w) (kvs := vs) (ep := ep) hd) (I.ok.hd hc) hat (by omega) (ss := zs) (by omega) (fun i v x hP hx => ?_) fun h1 h' tk vs' ss' e k1 k2 hB hS hp2 hs2 => ?_
  · obtain ⟨k, y, h1, h2⟩ := hP
    have e1 : (vs.map (·.1))[i]? = some k := by rw [List.getElem?_map, h1]; rfl
    rw [hkeys, List.getElem?_map, hx] at e1
    cases e1
    have h2 : keyIs (.inr x) v = true := h2
    rcases keyIs_shape h2 with ⟨_, _, e, _⟩ | ⟨x', t, e, e2⟩
    · cases e
    · cases e
      exact ⟨t, e2⟩
  · have I1 : Inv X pins σ H { s with heap := h1, toks := tk } := I.kept k1
    have hlen : ss'.length = zs.length := hp2.length_eq
    exact ⟨.ref h1.objs.size, _, I1.laid (a := h1.objs.size) (o := .lst (ss'.map V.str)) (t' := tk) k2 (Nat.le_refl _) ⟨by rw [List.length_map, sizeLine_eq]; omega, vs', e, strs_vals hS, hB⟩, rfl, q _ _ (I1.hok.fresh (Nat.le_refl _)) hp2 hs2⟩
end
end L2
set_option Elab.async false
set_option linter.all false
set_option maxRecDepth 100000
namespace L2
open PySem PySem.Spec PyProof.Rows
theorem extend_tup (l : Addr) (items : Array Value) (n : Nat) (b : Addr) (dd : Option Addr) (sl : Array (Option Value)) (items2 : Array Value) (n2 : Nat) (hs0 : ¬(!items.isEmpty && Builtin.List.listTooLong (items.size + items2.size)) = true) (hs1 : items.size ≤ sizeLine) (hs2 : items.size + items2.size ≤ sizeLine + 1) :
    Meets (Builtin.«list.extend» ⟨[.ref l, .ref b], []⟩) (fun _ R s => s.heap.get? l = some { cls := .type "list", dict := none, data := .seq items n, slots := #[] } ∧ s.heap.get? b = some ⟨.type "tuple", dd, .seq items2 n2, sl⟩ ∧ R (.ok (.ret Value.none)) { s with heap := s.heap.update l (Obj.mapSeq fun x => x ++ items2), toks := s.toks }) :=
  .of_wp fun prog w A R s h => by
    obtain ⟨hp, g, d, tk, os⟩ := s
    obtain ⟨hl, hb, h⟩ := h
    have f2 := PySem.AutoSeq1.sub_tuple_tuple
    have f4 := PySem.AutoSeq1.sub_tuple_list
    have hz' : (items ++ items2).size ≤ sizeLine + 1 := by rw [Array.size_append]; exact hs2
    wp_walk using (wpAny_updateSeq hl rfl (hz := hs1) (_hz' := hz')), PySem.AutoSeq1.wpAny_loadPart' hl, PySem.AutoSeq1.wpAny_loadPart' hb
    exact ⟨_, rfl, h⟩
section
variable {X : Cx}
def rExtendT (K : PySem.W.Frag) : V → List V → Hp → VK → Prop := fun x vs H Q => ∃ l b xs zs, x = .ref l ∧ vs = [.ref b] ∧ H l = some (.lst xs) ∧ SqT K H b zs ∧ xs.length + zs.length ≤ sizeLine ∧ Q .non (upd H l (.lst (xs ++ zs)))
theorem mt_extendT : MtM X "list.extend" (rExtendT X.K) := by
  intro pins s σ H x vs v us Q I rx rv h
  obtain ⟨l, b, xs, zs, rfl, rfl, hH, hB, hz, q⟩ := h
  cases rx
  obtain ⟨u, rfl, ru⟩ := rv.one
  cases ru
  obtain ⟨z, its, n, r, hl, e⟩ := I.lstM hH
  obtain ⟨its2, r2, ⟨o2, e2, c2, n2, d2⟩, z2⟩ := I.tuple hB
  obtain ⟨k1, k2, k3, k4⟩ := o2
  dsimp only at c2 d2
  subst c2 d2
  have hl2 := r2.length
  have hsz : its.toArray.size + its2.toArray.size ≤ sizeLine := by rw [List.size_toArray, List.size_toArray]; omega
  have hlong : ¬ (!its.toArray.isEmpty && Builtin.List.listTooLong (its.toArray.size + its2.toArray.size)) = true := by
    rw [notLongL hsz, Bool.and_false]
    exact Bool.false_ne_true
  refine call_meets PySem.F.slot_list_extend ⟨_, e, rfl⟩ PySem.F.entry_list_extend (PySem.F.args_list_extend_2 _ _)
    (extend_tup l its.toArray n b k2 k4 its2.toArray n2 hlong (by rw [List.size_toArray]; omega) (by omega)) ⟨e, e2, ?_⟩
  refine ⟨.non, _, I.lset (its' := its ++ its2) hH e (by simp) (r.append r2) ?_, rfl, q⟩
  rw [List.length_append]
  omega
end
end L2
set_option Elab.async false
set_option linter.all false
set_option maxRecDepth 100000
namespace L2
open PySem PyProof.Rows
/-- the text of a value -/
def txv : Value → Option Str
  | .str z _ => some z
  | _ => none
def txs (l : List (Int × Value)) : List Str := l.filterMap fun e => txv e.2
/-- whether sets are walked as the world's text has it -/
def byTx (w : World) : Bool := w.params.followText "set-order"
section
variable {prog : Program} {w : World} {A : Around} {E : Value → Shared → Prop} {s : Shared}
/-- a set of the texts zs, in the table's order -/
def TxSet (prog : Program) (w : World) (h : Heap) (a : Addr) (zs : List Str) : Prop :=
  ∃ o es ep t, h.get? a = some o ∧ o.ExactSet ∧ o.data = .set es ep t ∧ ElemsOf (strKind prog w) es.toList ∧ zs = txs es.toList ∧ zs.Nodup ∧ es.size < scanBound ∧ t.fits es.size = true ∧
    (byTx w = true ∨ t.led = true ∧ (es.size = 0 ∨ t.plain = false))
theorem lay_led (t : SetTable) (es : Array (Int × Value)) (h : Int) (x : Value) : (layNew t es h x).2.1.led = t.led := by
  unfold layNew
  split
  · dsimp only
    unfold SetTable.orStandIn
    split <;> rfl
  · rfl
theorem lay_plain (t : SetTable) (es : Array (Int × Value)) (h : Int) (x : Value) (hp : t.plain = false) : (layNew t es h x).2.1.plain = false := by
  unfold layNew
  split
  · dsimp only
    unfold SetTable.orStandIn
    split
    · exact hp
    · rfl
  · rfl
theorem relaid_flags {t t' : SetTable} {hs : Array Int} {n : Nat} {o : Array Nat} (h : t.relaid hs n = some (t', o)) : t'.led = t.led ∧ t'.plain = t.plain := by
  unfold SetTable.relaid SetTable.laid at h
  cases hc : SetTable.layClean (SetTable.sizeAbove n - 1) hs with
  | none => rw [hc] at h; cases h
  | some ow =>
    rw [hc] at h
    have h := Option.some.inj h
    have e := congrArg Prod.fst h
    dsimp only at e
    rw [← e]
    exact ⟨rfl, rfl⟩
theorem relay_led (t : SetTable) (es : Array (Int × Value)) (n : Nat) : (relayAll t es n).2.1.led = t.led := by
  unfold relayAll
  split
  · rename_i t' o hr
    dsimp only
    split
    · exact (relaid_flags hr).1
    · rfl
  · rfl
theorem relay_plain (t : SetTable) (es : Array (Int × Value)) (n : Nat) (hp : t.plain = false) : (relayAll t es n).2.1.plain = false := by
  unfold relayAll
  split
  · rename_i t' o hr
    dsimp only
    split
    · exact (relaid_flags hr).2.trans hp
    · rfl
  · rfl
theorem str_is {k : Str} {v : Value} (h : (strKind prog w).is k v = true) : ∃ t, v = .str k t := Value.isStrOf_shape h
theorem is_str (k : Str) (t : Tok) : (strKind prog w).is k (.str k t) = true := by simp [PySem.strKind, Value.isStrOf]
theorem mem_txs {l : List (Int × Value)} (he : ElemsOf (strKind prog w) l) (k : Str) : k ∈ txs l ↔ ∃ e ∈ l, (strKind prog w).is k e.2 = true := by
  unfold txs
  rw [List.mem_filterMap]
  constructor
  · rintro ⟨e, h1, h2⟩
    obtain ⟨⟨k', hk, _⟩, _⟩ := he e h1
    obtain ⟨t, ht⟩ := str_is hk
    rw [ht] at h2
    cases h2
    exact ⟨e, h1, hk⟩
  · rintro ⟨e, h1, h2⟩
    obtain ⟨t, ht⟩ := str_is h2
    exact ⟨e, h1, by rw [ht]; rfl⟩
theorem txs_length {l : List (Int × Value)} (he : ElemsOf (strKind prog w) l) : (txs l).length = l.length := by
  induction l with
  | nil => rfl
  | cons e l ih =>
    obtain ⟨⟨k, hk, _⟩, _⟩ := he.head
    obtain ⟨t, ht⟩ := str_is hk
    have : txs (e :: l) = k :: txs l := by
      unfold txs
      rw [List.filterMap_cons_some (b := k) (by rw [ht]; rfl)]
    rw [this, List.length_cons, List.length_cons, ih he.tail]
theorem txs_get {l : List (Int × Value)} (he : ElemsOf (strKind prog w) l) {i : Nat} {e : Int × Value} (h : l[i]? = some e) : ∃ z t, e.2 = .str z t ∧ (txs l)[i]? = some z := by
  induction l generalizing i with
  | nil => cases h
  | cons e' l ih =>
    obtain ⟨⟨k, hk, _⟩, _⟩ := he.head
    obtain ⟨t, ht⟩ := str_is hk
    have : txs (e' :: l) = k :: txs l := by
      unfold txs
      rw [List.filterMap_cons_some (b := k) (by rw [ht]; rfl)]
    rw [this]
    cases i with
    | zero => cases h; exact ⟨k, t, ht, rfl⟩
    | succ i => exact ih he.tail h
theorem tx_fresh (led : Bool) (hl : byTx w = true ∨ led = true) {h : Heap} {a : Addr} (ho : h.get? a = some { cls := .type "set", dict := none, data := .set #[] 0 (.fresh 0 0 led) }) : TxSet prog w h a [] :=
  ⟨_, #[], 0, .fresh 0 0 led, ho, ⟨rfl, rfl, rfl⟩, rfl, fun e he => by simp at he, rfl, List.Pairwise.nil, by decide, by rfl, hl.elim .inl fun h => .inr ⟨h, .inl rfl⟩⟩
theorem TxSet.kept {h h' : Heap} {a : Addr} {zs : List Str} (hS : TxSet prog w h a zs) (k : ∀ o, h.get? a = some o → h'.get? a = some o) : TxSet prog w h' a zs := by
  obtain ⟨o, es, ep, t, ho, r⟩ := hS
  exact ⟨o, es, ep, t, k _ ho, r⟩
theorem tx_stored {h : Heap} {a : Addr} {o : Obj} {es es' : Array (Int × Value)} {ep : Nat} {t t' : SetTable} (ho : h.get? a = some o) (hx : o.ExactSet) (hd : o.data = .set es ep t)
    (he : ElemsOf (strKind prog w) es'.toList) (hn : (txs es'.toList).Nodup) (hb : es'.size < scanBound) (hf : t'.fits es'.size = true) (hfl : byTx w = true ∨ t'.led = true ∧ t'.plain = false) :
    (h.update a (Obj.putSet es' t')).get? a = some { o with data := .set es' (ep + 1) t' } ∧ TxSet prog w (h.update a (Obj.putSet es' t')) a (txs es'.toList) := by
  have hg : (h.update a (Obj.putSet es' t')).get? a = some { o with data := .set es' (ep + 1) t' } := by
    have q := Heap.get?_update_self (Obj.putSet es' t') ho (by rw [putSet_of es' t' hd]; rfl)
    rw [putSet_of es' t' hd] at q
    exact q
  exact ⟨hg, _, es', ep + 1, t', hg, hx, rfl, he, rfl, hn, hb, hf, hfl.imp id fun x => ⟨x.1, .inr x.2⟩⟩
theorem tx_tail {g : Bool → Sem Unit} (hg : ∀ (b : Bool) (s₁ : Shared) (Q' : Unit → Shared → Prop), Q' () s₁ → wpAny (model prog w) A (g b) Q' E s₁)
    {a : Addr} {o : Obj} {es es1 : Array (Int × Value)} {ep : Nat} {t t2 : SetTable} {wd : Bool} {R : Option Bool → Shared → Prop}
    (ho : s.heap.get? a = some o) (hx : o.ExactSet) (hd : o.data = .set es ep t) (he1 : ElemsOf (strKind prog w) es1.toList) (hn1 : (txs es1.toList).Nodup) (hb1 : es1.size < scanBound)
    (hf2 : t2.fits es1.size = true) (hfl2 : byTx w = true ∨ t2.led = true ∧ t2.plain = false)
    (h : ∀ h' zs', Heap.SameBut a s.heap h' → TxSet prog w h' a zs' → zs'.Perm (txs es1.toList) → R (some true) { s with heap := h' }) :
    wpAny (model prog w) A (storeSet a es1 t2 >>= fun _ =>
      if (!wd && t2.tooFull) = true then
        g (relayAll t2 es1 (SetTable.grown es1.size)).2.2 >>= fun _ =>
          storeSet a (relayAll t2 es1 (SetTable.grown es1.size)).1 (relayAll t2 es1 (SetTable.grown es1.size)).2.1 >>= fun _ => pure (some true)
      else pure (some true)) R E s := by
  refine wpAny_bind (wpAny_storeSet_of ho hd ?_ (fits_of_scanBound hb1))
  obtain ⟨ho1, hS1⟩ := tx_stored (prog := prog) (w := w) ho hx hd he1 hn1 hb1 hf2 hfl2
  have sb1 := Heap.SameBut.update s.heap a (Obj.putSet es1 t2)
  split
  · have hp2 := relayAll_perm t2 es1 (SetTable.grown es1.size)
    have hf3 := relayAll_fits t2 es1 (SetTable.grown es1.size)
    have hl3 := relay_led t2 es1 (SetTable.grown es1.size)
    have hl4 := relay_plain t2 es1 (SetTable.grown es1.size)
    generalize relayAll t2 es1 (SetTable.grown es1.size) = L2 at hp2 hf3 hl3 hl4 ⊢
    obtain ⟨es2, t3, g2⟩ := L2
    dsimp only at hp2 hf3 hl3 hl4 ⊢
    have hsz2 : es2.size = es1.size := by rw [← Array.length_toList, hp2.length_eq, Array.length_toList]
    have hzp2 : (txs es2.toList).Perm (txs es1.toList) := hp2.filterMap _
    refine wpAny_bind (hg _ _ _ ?_)
    refine wpAny_bind (wpAny_storeSet_of ho1 rfl ?_ (fits_of_scanBound (by omega)))
    obtain ⟨_, hS2⟩ := tx_stored (prog := prog) (w := w) ho1 hx rfl (he1.perm hp2) (hzp2.nodup_iff.mpr hn1) (by omega) hf3 (hfl2.imp id fun y => ⟨hl3.trans y.1, hl4 y.2⟩)
    exact wpAny_pure (h _ _ (sb1.trans (Heap.SameBut.update _ a _)) hS2 hzp2)
  · exact wpAny_pure (h _ _ sb1 hS1 (List.Perm.refl _))
/-- a text is put in -/
theorem tx_add {a : Addr} {zs : List Str} {k : Str} {tk : Tok} {Q : Bool → Shared → Prop} (hS : TxSet prog w s.heap a zs) (room : zs.length + 1 < scanBound)
    (h : ∀ h' zs', Heap.SameBut a s.heap h' → TxSet prog w h' a zs' → zs'.length ≤ zs.length + 1 → (∀ z, z ∈ zs' ↔ z ∈ zs ∨ z = k) → ∀ b, Q b { s with heap := h' }) :
    wpAny (model prog w) A (setAddHashed a (.str k tk) ((strKind prog w).hash k)) Q E s := by
  obtain ⟨o, es, ep, t, ho, hx, hd, he, hz, hn, hb, hf, hfl⟩ := hS
  have hlen : zs.length = es.size := by rw [hz, txs_length he, Array.length_toList]
  have hkey : (strKind prog w).is k (.str k tk) = true := is_str k tk
  unfold setAddHashed setAddHashedIn
  refine wpAny_holding (wpAny_bind (wpAny_setState_of ho hd hf ?_))
  dsimp only
  rw [byScan_of rfl hb he]
  simp only [↓reduceIte]
  unfold setAddByScan
  refine wpAny_bind (wpAny_bind (wpAny_rule (wpAny_bind (wpAny_setScan_of hkey ho hd hf he ?_))))
  cases hr : List.findIdx? (fun e => (strKind prog w).is k e.2) es.toList with
  | some j =>
    dsimp only
    obtain ⟨hj, hpj, _⟩ := List.findIdx?_eq_some_iff_getElem.mp hr
    have hk : k ∈ zs := by rw [hz, mem_txs he]; exact ⟨_, List.getElem_mem hj, hpj⟩
    refine wpAny_pure (wpAny_pure ?_)
    have q := h s.heap zs (Heap.SameBut.refl a s.heap) ⟨o, es, ep, t, ho, hx, hd, he, hz, hn, hb, hf, hfl⟩ (Nat.le_succ _) (fun z => ⟨.inl, fun y => y.elim id fun y => y ▸ hk⟩) false
    cases s
    exact q
  | none =>
    dsimp only
    have hk : k ∉ zs := by
      rw [hz, mem_txs he]
      rintro ⟨e, h1, h2⟩
      have := List.findIdx?_eq_none_iff.mp hr e h1
      rw [h2] at this
      cases this
    have hp := layNew_perm t es ((strKind prog w).hash k) (.str k tk)
    have hfi := layNew_fits t es ((strKind prog w).hash k) (.str k tk)
    have hl1 := lay_led t es ((strKind prog w).hash k) (.str k tk)
    have hl2 := lay_plain t es ((strKind prog w).hash k) (.str k tk)
    generalize layNew t es ((strKind prog w).hash k) (.str k tk) = L at hp hfi hl1 hl2 ⊢
    obtain ⟨es1, t1, wd, gv⟩ := L
    dsimp only at hp hfi hl1 hl2 ⊢
    rw [Array.toList_push] at hp
    have he1 : ElemsOf (strKind prog w) es1.toList := (he.push hkey rfl).perm hp
    have hsz : es1.size = es.size + 1 := by rw [← Array.length_toList, hp.length_eq, List.length_append, Array.length_toList]; rfl
    have hzp : (txs es1.toList).Perm (zs ++ [k]) := by
      have := hp.filterMap (fun e : Int × Value => txv e.2)
      rw [List.filterMap_append] at this
      rw [hz]
      exact this
    have hn1 : (txs es1.toList).Nodup := by
      refine hzp.nodup_iff.mpr (List.nodup_append.mpr ⟨hn, by simp, fun a ha b hb => ?_⟩)
      rw [List.mem_singleton] at hb
      rintro rfl
      exact hk (hb ▸ ha)
    have hm1 : ∀ z, z ∈ txs es1.toList ↔ z ∈ zs ∨ z = k := fun z => by rw [hzp.mem_iff, List.mem_append, List.mem_singleton]
    have hle1 : (txs es1.toList).length ≤ zs.length + 1 := by rw [hzp.length_eq, List.length_append]; exact Nat.le_refl _
    have hb1 : es1.size < scanBound := by omega
    have hgw : ∀ (b : Bool) {s₁ : Shared} {Q' : Unit → Shared → Prop}, Q' () s₁ → wpAny (model prog w) A (match b with | true => rule "set.scan.the-table-gave-way" | false => pure ()) Q' E s₁ :=
      fun b s₁ Q' hq => by cases b <;> first | exact wpAny_pure hq | exact wpAny_rule hq
    refine wpAny_bind (hgw _ ?_)
    have fin : ∀ h' zs', Heap.SameBut a s.heap h' → TxSet prog w h' a zs' → zs'.Perm (txs es1.toList) → ∀ b, Q b { s with heap := h' } := fun h' zs' sb hS hp2 =>
      h h' zs' sb hS (by rw [hp2.length_eq]; exact hle1) fun z => by rw [hp2.mem_iff]; exact hm1 z
    have hq : ∀ (b : Bool) (s₁ : Shared) (Q' : Unit → Shared → Prop), Q' () s₁ → wpAny (model prog w) A (match b with | true => rule "set.scan.the-table-gave-way" | false => pure ()) Q' E s₁ := fun b s₁ Q' hq => hgw b hq
    split
    · refine wpAny_bind ?_
      rw [hashByValue_scannable 8 (x := Value.str k tk) rfl]
      refine wpAny_pure ?_
      refine tx_tail hq ho hx hd he1 hn1 hb1 (SetTable.fits_plain_off hfi) ?_ fun h' zs' sb hS hp2 => wpAny_pure (fin h' zs' sb hS hp2 _)
      exact hfl.imp id fun y => ⟨hl1.trans y.1, rfl⟩
    · rename_i hpl
      refine wpAny_bind (wpAny_pure ?_)
      simp only [↓reduceIte]
      refine tx_tail hq ho hx hd he1 hn1 hb1 hfi ?_ fun h' zs' sb hS hp2 => wpAny_pure (fin h' zs' sb hS hp2 _)
      exact hfl.imp id fun y => ⟨hl1.trans y.1, by simpa using hpl⟩
end
end L2
set_option Elab.async false
set_option linter.all false
set_option maxRecDepth 100000
namespace L2
open PySem PyProof.Rows
theorem slot_setit : Slot "set_iterator" "__next__" "set_iterator.__next__" :=
  .of (owner := "set_iterator") (n := "__next__") (by rw [typeLookup_type, builtinLookup_eq_fast]; kernel_rfl) (by decide +kernel) (by decide +kernel) (by decide +kernel)
    (by first | exact .inl (by decide +kernel) | exact .inr (by decide +kernel)) (by rw [isSubtype_type]; kernel_rfl)
theorem slot_setit2 : Slot "set_iterator" "__iter__" "set_iterator.__iter__" :=
  .of (owner := "set_iterator") (n := "__iter__") (by rw [typeLookup_type, builtinLookup_eq_fast]; kernel_rfl) (by decide +kernel) (by decide +kernel) (by decide +kernel)
    (by first | exact .inl (by decide +kernel) | exact .inr (by decide +kernel)) (by rw [isSubtype_type]; kernel_rfl)
theorem entry_setit : entryFor table "set_iterator.__next__" = some Builtin.«set_iterator.__next__» := entryFor_of_tree (by kernel_rfl)
theorem entry_setit2 : entryFor table "set_iterator.__iter__" = some Builtin.«dict_keyiterator.__iter__» :=
  entryFor_alias (id' := "dict_keyiterator.__iter__") (by kernel_rfl) rfl (by decide +kernel) (by kernel_rfl)
theorem entry_setiter : entryFor table "set.__iter__" = some Builtin.«frozenset.__iter__» :=
  entryFor_alias (id' := "frozenset.__iter__") (by kernel_rfl) rfl (by decide +kernel) (by kernel_rfl)
theorem owner_setit : Manifest.owners.lookup (String.ofList ['r', 'o', 't', 'a', 'r', 'e', 't', 'i', '_', 't', 'e', 's'].reverse) = some Manifest.sig_set_iterator := by kernel_rfl
theorem args_setit (a : Value) : argsOk "set_iterator.__next__" ⟨[a], []⟩ := by
  unfold argsOk; rw [signature?_of (id := "set_iterator.__next__") (n := ['_', '_', 't', 'x', 'e', 'n', '_', '_']) (o := ['r', 'o', 't', 'a', 'r', 'e', 't', 'i', '_', 't', 'e', 's']) (by kernel_rfl) owner_setit]; kernel_rfl
theorem args_setit2 (a : Value) : argsOk "set_iterator.__iter__" ⟨[a], []⟩ := by
  unfold argsOk; rw [signature?_of (id := "set_iterator.__iter__") (n := ['_', '_', 'r', 'e', 't', 'i', '_', '_']) (o := ['r', 'o', 't', 'a', 'r', 'e', 't', 'i', '_', 't', 'e', 's']) (by kernel_rfl) owner_setit]; kernel_rfl
theorem erase_perm {α : Type} : ∀ (l : List α) (i : Nat) (h : i < l.length), (l[i] :: l.eraseIdx i).Perm l
  | [], i, h => by simp at h
  | x :: l, 0, h => List.Perm.refl _
  | x :: l, i + 1, h => by
    have := erase_perm l i (by simpa using h)
    simp only [List.getElem_cons_succ, List.eraseIdx_cons_succ]
    exact (List.Perm.swap _ _ _).trans (List.Perm.cons _ this)
theorem pick_perm {α : Type} (f : Nat → Nat) (xs : Array α) : (pickOrder f xs).toList.Perm xs.toList := by
  have key : ∀ (n k : Nat) (left : List α) (out : Array α), left.length = n → (pickOrder.go f n k left out).toList.Perm (out.toList ++ left) := by
    intro n
    induction n with
    | zero =>
      intro k left out hl
      have : left = [] := List.length_eq_zero_iff.mp hl
      subst this
      unfold pickOrder.go
      simp
    | succ n ih =>
      intro k left out hl
      unfold pickOrder.go
      have hlt : f k % left.length < left.length := Nat.mod_lt _ (by omega)
      rw [List.getElem?_eq_getElem hlt]
      dsimp only
      refine (ih (k + 1) _ _ (by rw [List.length_eraseIdx_of_lt hlt]; omega)).trans ?_
      rw [Array.toList_push, List.append_assoc]
      refine List.Perm.append_left _ ?_
      exact erase_perm _ _ hlt
  unfold pickOrder
  have := key xs.size 0 xs.toList #[] (by simp)
  simpa using this
section
variable {prog : Program} {w : World} {A : Around} {E : Value → Shared → Prop} {s : Shared}
theorem wp_choose {M : Model} {src : Source} {n : Nat} {Q : Nat → Shared → Prop} (hn : n ≠ 0) (h : ∀ i d, i < n → Q i { s with drawn := d }) : wpAny M A (choose src n) Q E s :=
  fun Γ p _ => ⟨hn, h _ _ (Nat.mod_lt _ (Nat.pos_of_ne_zero hn))⟩
theorem draw_perm {M : Model} {α : Type} : ∀ (n : Nat) (xs : List α) {Q : List α → Shared → Prop} {s : Shared}, xs.length = n → (∀ ys d, ys.Perm xs → Q ys { s with drawn := d }) → wpAny M A (drawOrder n xs) Q E s
  | 0, xs, Q, s, hl, h => by
    have : xs = [] := List.length_eq_zero_iff.mp hl
    subst this
    unfold drawOrder
    have := h [] s.drawn (List.Perm.refl _)
    cases s
    exact wpAny_pure this
  | n + 1, [], Q, s, hl, h => by simp at hl
  | n + 1, x :: xs, Q, s, hl, h => by
    unfold drawOrder
    refine wpAny_bind (wp_choose (by simp) fun i d hi => ?_)
    rw [List.getElem?_eq_getElem hi]
    dsimp only
    refine wpAny_bind (draw_perm n _ (by rw [List.length_eraseIdx_of_lt hi]; simp at hl ⊢; omega) fun ys d2 hp => ?_)
    refine wpAny_pure (h _ d2 ?_)
    exact (List.Perm.cons _ hp).trans (erase_perm _ _ hi)
/-- a walk over a set: what stands first in its record at the i-th turn -/
def Mode (w : World) (a T : Addr) (es : Array (Int × Value)) (ep : Nat) (t : SetTable) (ord : List Str) (h : Heap) (i : Nat) (fst : Value) : Prop :=
  (byTx w = true ∧ fst = .int 0 0 ∧ ord = txs (pickOrder (w.params.setOrder a ep) es).toList) ∨
  (byTx w = false ∧ es.size ≤ 1 ∧ t.led = true ∧ ord = txs es.toList ∧ fst = .int ((if i = 0 then 0 else t.place.getD 0 0 + 1 : Nat) : Int) 0) ∨
  (byTx w = false ∧ ∃ pl : List Nat, h.get? T = some { cls := .type "tuple", data := .seq (pl.map fun i : Nat => rawInt i).toArray } ∧ pl.Perm (List.range es.size) ∧ fst = .ref T ∧
    ord.map some = pl.map fun j => (txs es.toList)[j]?)
def SetIt (h : Heap) (I a : Addr) (fst : Value) (i n ep : Nat) : Prop := h.get? I = some { cls := .type "set_iterator", data := .fields #[fst, .int i 0, .ref a, .int n 0, .int ep 0] }
theorem fits_size {t : SetTable} {n : Nat} (h : t.fits n = true) : t.place.size = n := by
  simp only [SetTable.fits, Bool.and_eq_true, beq_iff_eq] at h
  exact h.1
theorem wp_setDrawn {a : Addr} {o : Obj} {es : Array (Int × Value)} {ep : Nat} {t : SetTable} {Q : Bool → Shared → Prop} (ho : s.heap.get? a = some o) (hd : o.data = .set es ep t) (hf : t.fits es.size = true)
    (h : Q (!byTx w && (!t.plain && decide (es.size > 1))) s) : wpAny (model prog w) A (setDrawn a) Q E s := by
  unfold setDrawn
  refine wpAny_bind (wpAny_setState_of ho hd hf ?_)
  dsimp only
  unfold setsByText
  refine wpAny_bind (wpAny_bind (wpAny_askSetting (wpAny_pure ?_)))
  exact wpAny_pure h
theorem wp_sizeOf {a : Addr} {o : Obj} {es : Array (Int × Value)} {ep : Nat} {t : SetTable} {Q : Nat → Shared → Prop} (ho : s.heap.get? a = some o) (hd : o.data = .set es ep t) (hf : t.fits es.size = true)
    (h : Q es.size s) : wpAny (model prog w) A (Builtin.Frozenset.sizeOf a) Q E s := by
  unfold Builtin.Frozenset.sizeOf setEntries
  refine wpAny_bind (wpAny_bind (wpAny_setState_of ho hd hf (wpAny_pure ?_)))
  exact wpAny_pure h
theorem iter_tx {a : Addr} {zs : List Str} {Q : Value → Shared → Prop} (hS : TxSet prog w s.heap a zs)
    (h : ∀ (h' : Heap) d o es ep t I T fst ord, (∀ b o, s.heap.get? b = some o → h'.get? b = some o) → s.heap.objs.size ≤ I → (T = a ∨ s.heap.objs.size ≤ T ∧ T ≠ I) → I ≠ a → h'.get? a = some o → o.data = .set es ep t → t.fits es.size = true → ElemsOf (strKind prog w) es.toList → es.size = zs.length → SetIt h' I a fst 0 es.size ep → Mode w a T es ep t ord h' 0 fst → ord.Perm zs →
      Q (.ref I) { s with heap := h', drawn := d }) :
    wpAny (model prog w) A (pyIter (.ref a)) Q E s := by
  obtain ⟨o, es, ep, t, ho, hx, hd, he, hz, hn, hb, hf, hfl⟩ := hS
  have hlen : zs.length = es.size := by rw [hz, txs_length he, Array.length_toList]
  have hT : s.TypeIs (.ref a) "set" := ⟨o, ho, hx.1⟩
  have halt : a < s.heap.objs.size := Heap.lt_size ho
  refine wpAny_pyIter_slot hT F.slot_set_iter (wpAny_call_entry F.slot_set_iter hT entry_setiter ?_ (F.args_set_iter_1 _))
  unfold Builtin.«frozenset.__iter__»
  refine wpAny_bind (m := Builtin.Frozenset.slot0 _ _) (wpAny_pure ?_)
  refine wpAny_bind (wp_sizeOf ho hd hf ?_)
  refine wpAny_bind (wp_setDrawn ho hd hf ?_)
  have fin : ∀ (h1 : Heap) d (T : Addr) (fst : Value) (ord : List Str), (∀ b o, s.heap.get? b = some o → h1.get? b = some o) → (T = a ∨ s.heap.objs.size ≤ T ∧ T < h1.objs.size) →
      s.heap.objs.size ≤ h1.objs.size → Mode w a T es ep t ord (h1.push { cls := .type "set_iterator", data := .fields #[fst, .int 0 0, .ref a, .int es.size 0, .int ep 0] }) 0 fst → ord.Perm zs →
      Q (.ref h1.objs.size) { s with heap := h1.push { cls := .type "set_iterator", data := .fields #[fst, .int 0 0, .ref a, .int es.size 0, .int ep 0] }, drawn := d } := by
    intro h1 d T fst ord k1 hT1 hle hm hp
    refine h _ d o es ep t _ T fst ord (fun b o q => Heap.get?_push_of_some _ (k1 b o q)) hle ?_ (Nat.ne_of_gt (Nat.lt_of_lt_of_le halt hle)) (Heap.get?_push_of_some _ (k1 _ _ ho)) hd hf he hlen.symm (Heap.get?_push_size _ rfl) hm hp
    rcases hT1 with e | ⟨e1, e2⟩
    · exact .inl e
    · exact .inr ⟨e1, Nat.ne_of_lt e2⟩
  cases hB : byTx w with
  | true =>
    simp only [Bool.not_true, Bool.false_and, Bool.false_eq_true, if_false]
    refine wpAny_bind (wpAny_pure ?_)
    refine wpAny_bind (wpAny_setEpoch_of ho hd hf ?_)
    refine wpAny_bind (m := newFields _ _) (wpAny_newObj_type ?_)
    refine wpAny_pure ⟨_, rfl, "set_iterator", _, ⟨_, Heap.get?_push_size _ rfl, rfl⟩, slot_setit.lookup, ?_⟩
    have q := fin s.heap s.drawn a (.int 0 0) _ (fun _ _ q => q) (.inl rfl) (Nat.le_refl _) (.inl ⟨hB, rfl, rfl⟩) (by rw [hz]; exact (pick_perm _ _).filterMap _)
    cases s
    exact q
  | false =>
    have hfl : t.led = true ∧ (es.size = 0 ∨ t.plain = false) := hfl.resolve_left (by rw [hB]; exact Bool.false_ne_true)
    by_cases h1 : es.size > 1
    · have hp : t.plain = false := hfl.2.resolve_left (by omega)
      rw [hp]
      simp only [Bool.not_false, Bool.true_and, decide_eq_true h1, if_true]
      refine wpAny_bind (draw_perm es.size (List.range es.size) List.length_range fun ys d hpy => ?_)
      have hyl : ys.length = es.size := by rw [hpy.length_eq, List.length_range]
      refine wpAny_bind (wpAny_newTuple ?_ (by rw [List.length_map, hyl]; exact fits_of_scanBound hb))
      have hoT : (s.heap.push { cls := .type "tuple", data := .seq (ys.map fun i : Nat => rawInt i).toArray }).get? a = some o := Heap.get?_push_of_some _ ho
      refine wpAny_bind (wpAny_setEpoch_of (s := { s with heap := s.heap.push { cls := .type "tuple", data := .seq (ys.map fun i : Nat => rawInt i).toArray }, drawn := d }) hoT hd hf ?_)
      refine wpAny_bind (m := newFields _ _) (wpAny_newObj_type ?_)
      refine wpAny_pure ⟨_, rfl, "set_iterator", _, ⟨_, Heap.get?_push_size _ rfl, rfl⟩, slot_setit.lookup, ?_⟩
      have hord : ∃ ord : List Str, (ord.map some = ys.map fun j => (txs es.toList)[j]?) ∧ ord.Perm zs := by
        refine ⟨ys.filterMap fun j => (txs es.toList)[j]?, ?_, ?_⟩
        · have : ∀ (l : List Nat), (∀ j ∈ l, j < es.size) → (l.filterMap fun j => (txs es.toList)[j]?).map some = l.map fun j => (txs es.toList)[j]? := by
            intro l
            induction l with
            | nil => intro _; rfl
            | cons j l ih =>
              intro hl
              have hj : j < (txs es.toList).length := by rw [← hz, hlen]; exact hl j List.mem_cons_self
              rw [List.filterMap_cons_some (b := (txs es.toList)[j]) (List.getElem?_eq_getElem hj), List.map_cons, List.map_cons, ih fun i hi => hl i (List.mem_cons_of_mem _ hi), List.getElem?_eq_getElem hj]
          exact this ys fun j hj => by simpa using hpy.mem_iff.mp hj
        · refine (hpy.filterMap _).trans ?_
          rw [← hlen, hz, List.filterMap_getElem?_range_length]
      obtain ⟨ord, ho1, ho2⟩ := hord
      exact fin (s.heap.push { cls := .type "tuple", data := .seq (ys.map fun i : Nat => rawInt i).toArray }) d s.heap.objs.size (.ref s.heap.objs.size) ord (fun b o q => Heap.get?_push_of_some _ q) (.inr ⟨Nat.le_refl _, by rw [Heap.size_push]; exact Nat.lt_succ_self _⟩) (by rw [Heap.size_push]; exact Nat.le_succ _)
        (.inr (.inr ⟨hB, ys, Heap.get?_push_of_some _ (Heap.get?_push_size _ rfl), hpy, rfl, ho1⟩)) ho2
    · have e1 : decide (es.size > 1) = false := decide_eq_false h1
      rw [e1]
      simp only [Bool.and_false, Bool.false_eq_true, if_false]
      refine wpAny_bind (wpAny_pure ?_)
      refine wpAny_bind (wpAny_setEpoch_of ho hd hf ?_)
      refine wpAny_bind (m := newFields _ _) (wpAny_newObj_type ?_)
      refine wpAny_pure ⟨_, rfl, "set_iterator", _, ⟨_, Heap.get?_push_size _ rfl, rfl⟩, slot_setit.lookup, ?_⟩
      have q := fin s.heap s.drawn a (.int 0 0) zs (fun _ _ q => q) (.inl rfl) (Nat.le_refl _) (.inr (.inl ⟨hB, by omega, hfl.1, hz, rfl⟩)) (List.Perm.refl _)
      cases s
      exact q
end
end L2
set_option Elab.async false
set_option linter.all false
set_option maxRecDepth 100000
namespace L2
open PySem PyProof.Rows
section
variable {prog : Program} {w : World} {A : Around} {E : Value → Shared → Prop} {s : Shared}
theorem below_one (p : Array Nat) (h : p.size = 1) : SetTable.below p 0 = 0 ∧ SetTable.below p (p.getD 0 0 + 1) = 1 := by
  obtain ⟨l⟩ := p
  match l, h with
  | [x], _ =>
    refine ⟨rfl, ?_⟩
    show SetTable.below.go #[x] (x + 1) 1 0 1 = 1
    unfold SetTable.below.go
    simp [SetTable.below.go]
theorem below_none (p : Array Nat) (h : p.size = 0) (j : Nat) : SetTable.below p j = 0 := by
  obtain ⟨l⟩ := p
  match l, h with
  | [], _ => rfl
theorem ord_len {a T : Addr} {es : Array (Int × Value)} {ep : Nat} {t : SetTable} {ord : List Str} {h : Heap} {i : Nat} {fst : Value} (he : ElemsOf (strKind prog w) es.toList) (hm : Mode w a T es ep t ord h i fst) : ord.length = es.size := by
  rcases hm with ⟨_, _, e⟩ | ⟨_, _, _, e, _⟩ | ⟨_, pl, _, hp, _, e⟩
  · rw [e, txs_length (he.perm (pick_perm _ _)), (pick_perm _ _).length_eq, Array.length_toList]
  · rw [e, txs_length he, Array.length_toList]
  · have := congrArg List.length e
    rw [List.length_map, List.length_map, hp.length_eq, List.length_range] at this
    exact this
theorem next_by {a : Addr} {o : Obj} {es : Array (Int × Value)} {ep slot g : Nat} {t : SetTable} {Q : Option (Value × Nat) → Shared → Prop} (ho : s.heap.get? a = some o) (hd : o.data = .set es ep t) (hf : t.fits es.size = true) (hB : byTx w = true)
    (h : Q (((pickOrder (w.params.setOrder a ep) es)[g]?).map fun e => (e.2, slot)) s) : wpAny (model prog w) A (setNext a slot g ep) Q E s := by
  have hB' : w.params.followText "set-order" = true := hB
  unfold setNext
  refine wpAny_bind (wpAny_setState_of ho hd hf ?_)
  dsimp only
  unfold setsByText
  refine wpAny_bind (wpAny_bind (wpAny_askSetting (wpAny_pure ?_)))
  show wpAny _ _ (if w.params.followText "set-order" = true then _ else _) _ _ _
  rw [if_pos hB', if_neg (by simp)]
  unfold setWalk
  refine wpAny_bind (wpAny_bind (wpAny_setState_of ho hd hf ?_))
  dsimp only
  unfold setsByText
  refine wpAny_bind (wpAny_bind (wpAny_askSetting (wpAny_pure ?_)))
  show wpAny _ _ (if w.params.followText "set-order" = true then _ else _) _ _ _
  rw [if_pos hB']
  refine wpAny_bind (wpAny_askSetting (wpAny_pure ?_))
  exact wpAny_pure h
theorem next_pl {a : Addr} {o : Obj} {es : Array (Int × Value)} {ep slot g : Nat} {t : SetTable} {Q : Option (Value × Nat) → Shared → Prop} (ho : s.heap.get? a = some o) (hd : o.data = .set es ep t) (hf : t.fits es.size = true) (hB : byTx w = false)
    (hs : es.size ≤ 1) (hl : t.led = true)
    (h : Q (match es[SetTable.below t.place slot]?, t.place[SetTable.below t.place slot]? with | some (_, x), some j => some (x, j + 1) | _, _ => none) s) : wpAny (model prog w) A (setNext a slot g ep) Q E s := by
  have hB' : w.params.followText "set-order" = false := hB
  unfold setNext
  refine wpAny_bind (wpAny_setState_of ho hd hf ?_)
  dsimp only
  unfold setsByText
  refine wpAny_bind (wpAny_bind (wpAny_askSetting (wpAny_pure ?_)))
  show wpAny _ _ (if w.params.followText "set-order" = true then _ else _) _ _ _
  rw [hB', if_neg Bool.false_ne_true]
  show wpAny _ _ (if (!t.plain && decide (es.size > 1)) = true then _ else _) _ _ _
  rw [if_neg (by simp; intro _; omega)]
  refine wpAny_bind (show wpAny _ _ (if (!t.led && !es.isEmpty) = true then _ else _) _ _ _ from ?_)
  rw [hl, if_neg (by simp)]
  exact wpAny_pure (wpAny_pure h)
/-- what the set's record does at one turn -/
theorem next_tx {a I T : Addr} {o : Obj} {es : Array (Int × Value)} {ep : Nat} {t : SetTable} {ord : List Str} {fst : Value} {i : Nat} {z : Str} {Q : Option Value → Shared → Prop}
    (ho : s.heap.get? a = some o) (hd : o.data = .set es ep t) (hf : t.fits es.size = true) (he : ElemsOf (strKind prog w) es.toList) (hit : SetIt s.heap I a fst i es.size ep) (hm : Mode w a T es ep t ord s.heap i fst)
    (hz : ord[i]? = some z) (hTI : T ≠ I) (haI : a ≠ I)
    (h : ∀ h' fst' tk, (∀ b o, b ≠ I → s.heap.get? b = some o → h'.get? b = some o) → SetIt h' I a fst' (i + 1) es.size ep → Mode w a T es ep t ord h' (i + 1) fst' → Q (some (.str z tk)) { s with heap := h' }) :
    wpAny (model prog w) A (pyNext (.ref I)) Q E s := by
  have hol := ord_len he hm
  have hi : i < es.size := by rw [← hol]; exact (List.getElem?_eq_some_iff.mp hz).1
  have hT : s.TypeIs (.ref I) "set_iterator" := ⟨_, hit, rfl⟩
  unfold pyNext
  refine wpAny_bind (wpAny_attempt (wpAny_callSpecial?_slot (name := Str.ofString "__next__") hT slot_setit (wpAny_call_entry slot_setit hT entry_setit ?_ (args_setit _))))
  unfold Builtin.«set_iterator.__next__»
  refine wpAny_bind (m := slotArgs _ _ _) (wpAny_pure ?_)
  refine wpAny_bind (wpAny_fieldsOf hit rfl ?_)
  dsimp only
  unfold setEntries
  refine wpAny_bind (wpAny_bind (wpAny_setState_of ho hd hf (wpAny_pure ?_)))
  rw [if_neg (by simp)]
  refine wpAny_bind (wpAny_pure ?_)
  have two : ∀ (E' : Value → Shared → Prop) (nx : Nat) (v : Value) (hm' : ∀ h' : Heap, (∀ b o, b ≠ I → s.heap.get? b = some o → h'.get? b = some o) → Mode w a T es ep t ord h' (i + 1) (.int nx 0)), (∃ tk, v = .str z tk) →
      wpAny (model prog w) A.in1 (do setField (.ref I) 0 (rawInt nx); setField (.ref I) 1 (rawInt ((i : Int) + 1)); ret v)
        (fun fin s' => ∃ v, fin = Fin.done (Flow.ret v) ∧ wpAny (model prog w) A (pure (some v)) Q E s') E' s := by
    rintro E' nx v hm' ⟨tk, rfl⟩
    refine wpAny_bind (wpAny_setField_rec hit (by simp) fun h1 e1 sb1 => ?_)
    refine wpAny_bind (wpAny_setField_rec (s := { s with heap := h1 }) e1 (by simp) fun h2 e2 sb2 => ?_)
    have k : ∀ b o, b ≠ I → s.heap.get? b = some o → h2.get? b = some o := fun b o hb q => sb2.extBut b o hb (sb1.extBut b o hb q)
    exact wpAny_pure ⟨_, rfl, wpAny_pure (h h2 (.int nx 0) tk k (by simpa [SetIt, rawInt] using e2) (hm' h2 k))⟩
  rcases hm with ⟨hB, rfl, rfl⟩ | ⟨hB, h1, hl, rfl, rfl⟩ | ⟨hB, pl, hoT, hp, rfl, hor⟩
  · dsimp only
    refine wpAny_bind (next_by ho hd hf hB ?_)
    simp only [Int.toNat_natCast]
    have hsz : (pickOrder (w.params.setOrder a ep) es).size = es.size := by rw [← Array.length_toList, (pick_perm _ _).length_eq, Array.length_toList]
    have hel := Array.getElem?_eq_getElem (xs := pickOrder (w.params.setOrder a ep) es) (i := i) (by omega)
    obtain ⟨z', tk, e1, e2⟩ := txs_get (he.perm (pick_perm (w.params.setOrder a ep) es)) (by rw [Array.getElem?_toList]; exact hel)
    rw [hz] at e2
    cases e2
    rw [hel]
    dsimp only [Option.map]
    exact two _ 0 _ (fun h' _ => .inl ⟨hB, rfl, rfl⟩) ⟨tk, e1⟩
  · dsimp only
    refine wpAny_bind (next_pl ho hd hf hB h1 hl ?_)
    have hi0 : i = 0 := by omega
    subst hi0
    have hs1 : es.size = 1 := by omega
    have hp1 : t.place.size = 1 := (fits_size hf).trans hs1
    simp only [if_true, Int.toNat_natCast, (below_one t.place hp1).1]
    have hel := Array.getElem?_eq_getElem (xs := es) (i := 0) (by omega)
    have hpe := Array.getElem?_eq_getElem (xs := t.place) (i := 0) (by omega)
    obtain ⟨z', tk, e1, e2⟩ := txs_get he (by rw [Array.getElem?_toList]; exact hel)
    rw [hz] at e2
    cases e2
    rw [hel, hpe]
    dsimp only
    refine two _ (t.place[0] + 1) _ (fun h' _ => .inr (.inl ⟨hB, h1, hl, rfl, ?_⟩)) ⟨tk, e1⟩
    simp [Array.getD, hp1]
  · dsimp only
    have hpl : i < pl.length := by rw [hp.length_eq, List.length_range]; exact hi
    have hpi : pl[i] < es.size := by simpa using hp.mem_iff.mp (List.getElem_mem hpl)
    refine wpAny_bind (wpAny_seqItems hoT rfl ?_)
    dsimp only
    have hget : ((pl.map fun i : Nat => rawInt i).toArray)[(i : Int).toNat]? = some (.int (pl[i] : Nat) 0) := by
      rw [Int.toNat_natCast, List.getElem?_toArray, List.getElem?_map, List.getElem?_eq_getElem hpl]
      rfl
    rw [hget]
    dsimp only
    unfold setNextDrawn
    refine wpAny_bind (wpAny_bind (wpAny_setState_of ho hd hf ?_))
    dsimp only
    rw [if_neg (by simp)]
    have hel := Array.getElem?_eq_getElem (xs := es) (i := pl[i]) hpi
    obtain ⟨z', tk, e1, e2⟩ := txs_get he (by rw [Array.getElem?_toList]; exact hel)
    have hzz : z' = z := by
      have : (ord.map some)[i]? = (pl.map fun j => (txs es.toList)[j]?)[i]? := by rw [hor]
      rw [List.getElem?_map, List.getElem?_map, hz, List.getElem?_eq_getElem hpl, Option.map_some, Option.map_some, e2] at this
      cases this
      rfl
    subst hzz
    rw [Int.toNat_natCast, hel]
    dsimp only
    refine wpAny_pure ?_
    refine wpAny_bind (wpAny_setField_rec hit (by simp) fun h1 ee sb1 => ?_)
    have k : ∀ b o, b ≠ I → s.heap.get? b = some o → h1.get? b = some o := fun b o hb q => sb1.extBut b o hb q
    rw [e1]
    exact wpAny_pure ⟨_, rfl, wpAny_pure (h h1 (.ref T) tk k (by simpa [SetIt, rawInt] using ee) (.inr (.inr ⟨hB, pl, k _ _ hTI hoT, hp, rfl, hor⟩)))⟩
theorem end_tx {a I T : Addr} {o : Obj} {es : Array (Int × Value)} {ep : Nat} {t : SetTable} {ord : List Str} {fst : Value} {Q : Option Value → Shared → Prop} (hh : A.handled = none)
    (ho : s.heap.get? a = some o) (hd : o.data = .set es ep t) (hf : t.fits es.size = true) (he : ElemsOf (strKind prog w) es.toList) (hit : SetIt s.heap I a fst es.size es.size ep) (hm : Mode w a T es ep t ord s.heap es.size fst)
    (h : ∀ h', (∀ b o, b ≠ I → s.heap.get? b = some o → h'.get? b = some o) → Q none { s with heap := h' }) :
    wpAny (model prog w) A (pyNext (.ref I)) Q E s := by
  have hT : s.TypeIs (.ref I) "set_iterator" := ⟨_, hit, rfl⟩
  unfold pyNext
  refine wpAny_bind (wpAny_attempt (wpAny_callSpecial?_slot (name := Str.ofString "__next__") hT slot_setit (wpAny_call_entry slot_setit hT entry_setit ?_ (args_setit _))))
  unfold Builtin.«set_iterator.__next__»
  refine wpAny_bind (m := slotArgs _ _ _) (wpAny_pure ?_)
  refine wpAny_bind (wpAny_fieldsOf hit rfl ?_)
  dsimp only
  unfold setEntries
  refine wpAny_bind (wpAny_bind (wpAny_setState_of ho hd hf (wpAny_pure ?_)))
  rw [if_neg (by simp)]
  refine wpAny_bind (wpAny_pure ?_)
  have stop : ∀ (h1 : Heap), (∀ b o, b ≠ I → s.heap.get? b = some o → h1.get? b = some o) →
      wpAny (model prog w) A.in1 (newExc (.type "StopIteration") [] >>= fun e => (raiseNew e : Sem Fin)) (fun fin s' => ∃ v, fin = Fin.done (Flow.ret v) ∧ wpAny (model prog w) A (pure (some v)) Q E s')
        (fun e s' => wpAny (model prog w) A (do if ← isInstance e (Value.type "StopIteration") then pure none else throw e) Q E s') { s with heap := h1 } := by
    intro h1 k1
    refine wpAny_bind ?_
    simp only [newExc, newTuple]
    refine wpAny_bind (wpAny_newObj_type ?_ (by size_fits))
    refine wpAny_bind (m := firstArgMember _ _) (wpAny_of_eq (a := Value.none) (by first | rfl | (simp only [firstArgMember]; rfl)) ?_)
    refine wpAny_newObj_type ?_ (by size_fits)
    refine wpAny_raiseNew_none (A := A.in1) hh ?_
    refine wpAny_bind (wpAny_isInstance (T := "StopIteration") (b := true) ⟨_, Heap.get?_push_size _ rfl, rfl⟩ isSubtype_stop ?_)
    exact wpAny_pure (h _ fun b o hb q => Heap.get?_push_of_some _ (Heap.get?_push_of_some _ (k1 b o hb q)))
  rcases hm with ⟨hB, rfl, rfl⟩ | ⟨hB, h1, hl, rfl, rfl⟩ | ⟨hB, pl, hoT, hp, rfl, hor⟩
  · dsimp only
    refine wpAny_bind (next_by ho hd hf hB ?_)
    have hsz : (pickOrder (w.params.setOrder a ep) es).size = es.size := by rw [← Array.length_toList, (pick_perm _ _).length_eq, Array.length_toList]
    simp only [Int.toNat_natCast]
    rw [Array.getElem?_eq_none (by omega)]
    dsimp only [Option.map]
    refine wpAny_bind (wpAny_setField_rec hit (by simp) fun h1 e1 sb1 => ?_)
    exact stop h1 fun b o hb q => sb1.extBut b o hb q
  · dsimp only
    refine wpAny_bind (next_pl ho hd hf hB h1 hl ?_)
    have hps := fits_size hf
    have hbl : SetTable.below t.place ((if es.size = 0 then 0 else t.place.getD 0 0 + 1 : Nat) : Int).toNat = es.size := by
      rw [Int.toNat_natCast]
      by_cases h0 : es.size = 0
      · rw [if_pos h0, below_none t.place (by omega), h0]
      · have h2 : es.size = 1 := by omega
        rw [if_neg h0, (below_one t.place (by omega)).2, h2]
    rw [hbl, Array.getElem?_eq_none (Nat.le_refl _)]
    dsimp only
    refine wpAny_bind (wpAny_setField_rec hit (by simp) fun h1 e1 sb1 => ?_)
    exact stop h1 fun b o hb q => sb1.extBut b o hb q
  · dsimp only
    refine wpAny_bind (wpAny_seqItems hoT rfl ?_)
    dsimp only
    have hget : ((pl.map fun i : Nat => rawInt i).toArray)[(es.size : Int).toNat]? = none := by
      rw [Int.toNat_natCast, List.getElem?_toArray, List.getElem?_eq_none (by rw [List.length_map, hp.length_eq, List.length_range]; exact Nat.le_refl _)]
    rw [hget]
    dsimp only
    refine wpAny_bind (wpAny_setField_rec hit (by simp) fun h1 e1 sb1 => ?_)
    refine wpAny_bind (wpAny_setField_rec (s := { s with heap := h1 }) e1 (by simp) fun h2 e2 sb2 => ?_)
    exact stop h2 fun b o hb q => sb2.extBut b o hb (sb1.extBut b o hb q)
/-- the walk -/
theorem walk_tx (hh : A.handled = none) {a I T : Addr} {o : Obj} {es : Array (Int × Value)} {ep : Nat} {t : SetTable} {ord : List Str} (hTI : T ≠ I) (haI : a ≠ I) (hd : o.data = .set es ep t) (hf : t.fits es.size = true) (he : ElemsOf (strKind prog w) es.toList) :
    Walks prog w A I [I, a, T] [I] es.size (fun i v => ∃ z tk, ord[i]? = some z ∧ v = .str z tk) (fun i h => h.get? a = some o ∧ ∃ fst, SetIt h I a fst i es.size ep ∧ Mode w a T es ep t ord h i fst) where
  sub := fun b hb => by simp at hb; simp [hb]
  frame := fun i h h' st k => by
    obtain ⟨e1, fst, e2, e3⟩ := st
    refine ⟨k a (by simp) _ e1, fst, k I (by simp) _ e2, ?_⟩
    rcases e3 with m | m | ⟨hB, pl, hoT, r⟩
    · exact .inl m
    · exact .inr (.inl m)
    · exact .inr (.inr ⟨hB, pl, k T (by simp) _ hoT, r⟩)
  item := fun i s Q E hi st hQ => by
    obtain ⟨e1, fst, e2, e3⟩ := st
    have hl := ord_len he e3
    have hz := List.getElem?_eq_getElem (l := ord) (i := i) (by omega)
    refine next_tx e1 hd hf he e2 e3 hz hTI haI fun h' fst' tk k i2 m2 => ?_
    have := hQ (.str ord[i] tk) h' s.toks ⟨_, tk, hz, rfl⟩ ⟨k a o haI e1, fst', i2, m2⟩ fun b o hb q => k b o (by simpa using hb) q
    exact this
  done := fun s Q E st hQ => by
    obtain ⟨e1, fst, e2, e3⟩ := st
    exact end_tx hh e1 hd hf he e2 e3 fun h' k => hQ h' s.toks fun b o hb q => k b o (by simpa using hb) q
  self := fun i s Q E st hQ => by
    obtain ⟨e1, fst, e2, e3⟩ := st
    have hT : s.TypeIs (.ref I) "set_iterator" := ⟨_, e2, rfl⟩
    refine wpAny_pyIter_slot hT slot_setit2 (wpAny_call_entry slot_setit2 hT entry_setit2 ?_ (args_setit2 _))
    show wpAny _ _ (ret (.ref I)) _ _ s
    exact wpAny_pure ⟨_, rfl, "set_iterator", _, hT, slot_setit.lookup, hQ⟩
end
end L2
set_option Elab.async false
set_option linter.all false
set_option maxRecDepth 100000
namespace L2
open PySem PyProof.Rows
section
variable {prog : Program} {w : World} {A : Around} {R : Result → Shared → Prop} {I : Addr} {fp wr : List Addr} {G : Array GenState → Array GenState → Prop} {n : Nat} {P : Nat → Value → Prop} {St : Nat → Shared → Prop}
theorem tx_loop (W : WalksS prog w A.in1 I fp wr G n P St) (S : Addr) (hSf : S ∉ fp) (val : Nat → Str) (hval : ∀ i v, P i v → ∃ t, v = .str (val i) t) (hb : n + 1 < scanBound) :
    ∀ (k i : Nat) (s : Shared) (zs : List Str), n - i = k → i ≤ n → St i s → TxSet prog w s.heap S zs → zs.length ≤ i → (∀ z, z ∈ zs ↔ ∃ j, j < i ∧ val j = z) →
      (∀ s' zs', Moved (S :: wr) G s s' → TxSet prog w s'.heap S zs' → zs'.length ≤ n → (∀ z, z ∈ zs' ↔ ∃ j, j < n ∧ val j = z) → R (.ok (.ret .none)) s') →
      codeAny (model prog w) A (.builtin "set.update.loop" ⟨[.ref S, .ref I], []⟩) R s := by
  have hSw : S ∉ wr := fun q => hSf (W.sub _ q)
  have hsub : ∀ b ∈ wr, b ∈ S :: wr := fun b q => List.mem_cons_of_mem _ q
  intro k
  induction k with
  | zero =>
    intro i s zs hk hi hst hS hl hz hR
    have hin : i = n := by omega
    subst hin
    refine codeAny_builtin PyProof.Rows.F.entry_set_update_loop ?_
    rw [Around.under_plainId PyProof.Rows.F.plain_set_update_loop _]
    show wpAny _ A.in1 (pyNext (.ref I) >>= _) _ _ s
    refine wpAny_bind (W.done s _ _ hst fun s' hm => ?_)
    show wpAny _ A.in1 (ret Value.none) _ _ s'
    exact wpAny_pure (hR s' zs (hm.mono hsub) (hS.kept fun o q => hm.heap S _ hSw q) hl hz)
  | succ k ih =>
    intro i s zs hk hi hst hS hl hz hR
    have hlt : i < n := by omega
    refine codeAny_builtin PyProof.Rows.F.entry_set_update_loop ?_
    rw [Around.under_plainId PyProof.Rows.F.plain_set_update_loop _]
    show wpAny _ A.in1 (pyNext (.ref I) >>= _) _ _ s
    refine wpAny_bind (W.item i s _ _ hlt hst fun v s' hP hst' hm => ?_)
    obtain ⟨t, rfl⟩ := hval i v hP
    have hS' : TxSet prog w s'.heap S zs := hS.kept fun o q => hm.heap S _ hSw q
    show wpAny _ A.in1 (holding [Value.str (val i) t] (setAdd S (.str (val i) t)) >>= _) _ _ s'
    refine wpAny_bind (wpAny_holding ?_)
    unfold setAdd
    refine wpAny_holding ?_
    refine wpAny_bind ((strKind prog w).pyHash (k := val i) (is_str _ _) ?_)
    refine tx_add (s := { s' with toks := s'.toks + 1 }) hS' (by omega) fun h' zs' sb hS2 hl2 hz2 b => ?_
    refine wpAny_pure ⟨plainId_quiet PyProof.Rows.F.plain_set_update_loop _, ih (i + 1) _ zs' (by omega) hlt (W.frame _ s' _ _ hst' (Nat.le_succ _) fun b hb o q => ?_) hS2 (by omega) (fun z => ?_) fun s'' zs'' hm'' hS'' => ?_⟩
    · rw [sb.2 b (fun y : b = S => hSf (y ▸ hb))]
      exact q
    · rw [hz2, hz]
      constructor
      · rintro (⟨j, h1, h2⟩ | h2)
        · exact ⟨j, by omega, h2⟩
        · exact ⟨i, Nat.lt_succ_self _, h2.symm⟩
      · rintro ⟨j, h1, h2⟩
        by_cases hj : j = i
        · subst hj
          exact .inr h2.symm
        · exact .inl ⟨j, by omega, h2⟩
    · refine hR s'' zs'' (Moved.trans W.gtrans ((hm.mono hsub).then_heap (Nat.le_succ _) fun b o hb q => ?_) hm'') hS''
      rw [sb.2 b (fun y : b = S => hb (by rw [y]; exact List.mem_cons_self))]
      exact q
end
section
variable {prog : Program} {w : World} {A : Around} {E : Value → Shared → Prop} {s : Shared}
theorem tx_new (a : Value) {Q₁ : Value → Shared → Prop}
    (h : ∀ led : Bool, (byTx w = true ∨ led = true) → Q₁ (.ref s.heap.objs.size) { s with heap := s.heap.push { cls := .type "set", dict := none, data := .set #[] 0 (.fresh 0 0 led) } }) :
    codeAny (model prog w) A (.call (.builtin "set.__new__") ⟨[.type "set", a], []⟩) (wants Q₁ E) s := by
  refine codeAny_of_tree ?_
  show wpAny _ A.in1 (do checkBuiltinCall "set.__new__" ⟨[.type "set", a], []⟩; again (.builtin "set.__new__" ⟨[.type "set", a], []⟩)) _ _ s
  refine wpAny_bind (wpAny_of_eq (PySem.F.newCall_set_1 a) (wpAny_pure ⟨plainId_quiet PySem.F.plain_set_new _, codeAny_builtin PySem.F.entry_set_new ?_⟩))
  rw [Around.under_plainId PySem.F.plain_set_new _]
  unfold Builtin.«set.__new__» Builtin.Frozenset.newClass
  have hsub := sub_set_self
  obtain ⟨hp, g, d, tk, os⟩ := s
  dsimp only
  wp_walk
  refine wpAny_askSetting (wpAny_pure ?_)
  dsimp only
  simp only [newObj]
  refine wpAny_bind (wpAny_alloc (wpAny_pure ?_))
  refine wpAny_pure (h _ ?_)
  show w.params.followText "set-order" = true ∨ (!w.params.followText "set-order") = true
  cases w.params.followText "set-order"
  · exact .inr rfl
  · exact .inl rfl
set_option maxHeartbeats 3200000 in
/-- set(l), l a list of texts -/
theorem tx_call {l : Addr} {items : Array Value} {val : Nat → Str} {Q : Value → Shared → Prop} (hh : A.handled = none) (hl : s.heap.IsList l items) (hi : ∀ (i : Nat) (v : Value), items[i]? = some v → ∃ t, v = .str (val i) t) (hb : items.size + 1 < scanBound)
    (h : ∀ (h' : Heap) (tk : Nat) (zs : List Str), TxSet prog w h' s.heap.objs.size zs → zs.length ≤ items.size → (∀ z, z ∈ zs ↔ ∃ j, j < items.size ∧ val j = z) →
      (∀ b o, s.heap.get? b = some o → h'.get? b = some o) → Q (.ref s.heap.objs.size) { s with heap := h', toks := tk }) :
    wpAny (model prog w) A (call (.type "set") [.ref l]) Q E s := by
  obtain ⟨c, tl, hmro⟩ := PySem.F.called_set.mro
  have hmade := PySem.F.called_set.made
  have hsub := PySem.F.called_set.sub
  refine wpAny_call (codeAny_of_tree ?_)
  show wpAny _ _ (callAny (.type "set") _) _ _ _
  refine wpAny_pure ⟨Code.quiet_builtin _ (by decide +kernel), codeAny_builtin PySem.F.entry_type_call ?_⟩
  rw [Around.under_plain (weight_type_call_type "set" [.ref l] []) rfl]
  have h1 := PySem.F.called_set.notType
  have h2 := PySem.F.called_set.canCreate
  have hct := PySem.F.typeCall_set_1 (.ref l)
  repeat (any_goals (first | assumption | wp_step))
  refine codeAny_mono (tx_new (w := w) (.ref l) (E := E) (Q₁ := fun obj s₁ => ∃ led : Bool, (byTx w = true ∨ led = true) ∧ obj = .ref s.heap.objs.size ∧ s₁ = { s with heap := s.heap.push { cls := .type "set", dict := none, data := .set #[] 0 (.fresh 0 0 led) } }) fun led hl => ⟨led, hl, rfl, rfl⟩) fun r s₁ hr => ?_
  cases r with
  | error e => exact hr
  | ok fl =>
    cases fl with
    | ret obj =>
      obtain ⟨led, hled, rfl, rfl⟩ := hr
      have hS : (s.heap.push { cls := .type "set", dict := none, data := .set #[] 0 (.fresh 0 0 led) }).get? s.heap.objs.size = some { cls := .type "set", dict := none, data := .set #[] 0 (.fresh 0 0 led) } := Heap.get?_push_size _ rfl
      have hT : Shared.TypeIs { s with heap := s.heap.push { cls := .type "set", dict := none, data := .set #[] 0 (.fresh 0 0 led) } } (.ref s.heap.objs.size) "set" := ⟨_, hS, rfl⟩
      have hli := PySem.F.called_set.init.lookup
      have hbi := PySem.F.called_set.init.bind (.ref s.heap.objs.size)
      repeat (any_goals (first | assumption | wp_step))
      refine codeAny_mono (codeAny_call_builtin (R := wants (fun r s₂ => r = .none ∧ ∃ h' tk zs, s₂ = { s with heap := h', toks := tk } ∧ TxSet prog w h' s.heap.objs.size zs ∧ zs.length ≤ items.size ∧ (∀ z, z ∈ zs ↔ ∃ j, j < items.size ∧ val j = z) ∧
          (∀ b o, s.heap.get? b = some o → h'.get? b = some o)) E) PySem.F.called_set.init.plain PySem.F.entry_set_init (check_set_init_1 hT ?_)) fun r₂ s₂ hr₂ => ?_
      · obtain ⟨ol, hol, hcl, nl, hdl⟩ := hl
        obtain ⟨ocls, odict, odata, oslots⟩ := ol
        simp only at hcl hdl
        subst hcl; subst hdl
        have hol' := Heap.get?_push_of_some { cls := .type "set", dict := none, data := .set #[] 0 (.fresh 0 0 led) } hol
        have hsls := PySem.F.sub_list_set
        have hslf := PySem.F.sub_list_frozenset
        have hne : (Value.type "list" == Value.type "dict") = false := by decide
        have hl1 : (s.heap.push { cls := .type "set", dict := none, data := .set #[] 0 (.fresh 0 0 led) }).IsList l items := ⟨_, hol', rfl, nl, rfl⟩
        unfold Builtin.«set.__init__» noKeywords Builtin.Frozenset.updateFrom
        generalize hPI : pyIter = PI
        wp_walk
        subst hPI
        refine wpAny_pyIter_list hl1 ?_
        refine wpAny_bind (wpAny_runValue ?_)
        have hlS : l < s.heap.objs.size := Heap.lt_size hol
        have hh3 : A.in1.in1.in1.handled = none := by simp [hh]
        have hneI : l ≠ (s.heap.push { cls := .type "set", dict := none, data := .set #[] 0 (.fresh 0 0 led) }).objs.size := by
          rw [Heap.size_push]
          exact Nat.ne_of_lt (Nat.lt_succ_of_lt hlS)
        have hSf : s.heap.objs.size ∉ [(s.heap.push { cls := .type "set", dict := none, data := .set #[] 0 (.fresh 0 0 led) }).objs.size, l] := by
          rw [Heap.size_push]
          simp only [List.mem_cons, List.not_mem_nil, or_false, not_or]
          exact ⟨Nat.ne_of_lt (Nat.lt_succ_self _), Nat.ne_of_gt hlS⟩
        refine tx_loop ((Walks.list hh3 _ l hneI items).toS) s.heap.objs.size hSf val hi hb (items.size - 0) 0 _ [] (by omega) (Nat.zero_le _) ⟨⟨_, Heap.get?_push_size _ rfl, rfl, rfl⟩, (hl1.push _)⟩ ?_ (Nat.zero_le _) (fun z => Iff.intro (fun q => by cases q) fun ⟨j, q, _⟩ => absurd q (Nat.not_lt_zero _)) ?_
        · exact tx_fresh led hled (Heap.get?_push_of_some _ hS)
        · intro s' zs hm hS' hlz hz
          obtain ⟨h', g', d', tk', os'⟩ := s'
          have eg : g' = s.gens := hm.gens
          have ed : d' = s.drawn := hm.drawn
          have eo : os' = s.os := hm.os
          subst eg; subst ed; subst eo
          show wpAny _ _ _ _ _ _
          refine wpAny_pure ?_
          show wpAny _ _ (ret Value.none) _ _ _
          refine wpAny_pure ⟨rfl, h', tk', zs, rfl, hS', hlz, hz, fun b o e => ?_⟩
          have hbl := Heap.lt_size e
          refine hm.heap b o ?_ (Heap.get?_push_of_some _ (Heap.get?_push_of_some _ e))
          rw [Heap.size_push]
          simp only [List.mem_cons, List.not_mem_nil, or_false, not_or]
          exact ⟨Nat.ne_of_lt hbl, Nat.ne_of_lt (Nat.lt_succ_of_lt hbl)⟩
      · cases r₂ with
        | error e => exact hr₂
        | ok fl₂ =>
          cases fl₂ with
          | ret r =>
            obtain ⟨rfl, h', tk, zs, rfl, hS', hlz, hz, hk'⟩ := hr₂
            repeat (any_goals (first | assumption | wp_step))
            exact h _ _ _ hS' hlz hz hk'
          | _ => exact hr₂.elim
    | _ => exact hr.elim
end
end L2
set_option Elab.async false
set_option linter.all false
set_option maxRecDepth 100000
namespace L2
open PySem PyProof.Rows
section
variable {prog : Program} {w : World} {A : Around} {E : Value → Shared → Prop} {s : Shared}
theorem strs_ofT : ∀ {vs : List Value} {ss : List Str}, vs.length = ss.length → (∀ (i : Nat) (v : Value) (x : Str), vs[i]? = some v → ss[i]? = some x → ∃ t, v = .str x t) → StrsAre vs ss
  | [], [], _, _ => .nil
  | [], _ :: _, h, _ => by simp at h
  | _ :: _, [], h, _ => by simp at h
  | v :: vs, x :: ss, h, hh => by
    obtain ⟨t, rfl⟩ := hh 0 v x rfl rfl
    exact .cons x t (strs_ofT (by simpa using h) fun i v' x' h1 h2 => hh (i + 1) v' x' (by simpa using h1) (by simpa using h2))
theorem strs_len : ∀ {vs : List Value} {ss : List Str}, StrsAre vs ss → vs.length = ss.length
  | _, _, .nil => rfl
  | _, _, .cons y t h => by rw [List.length_cons, List.length_cons, strs_len h]
theorem hint_tx {r : Addr} {Q : Bool → Shared → Prop} (hT : s.TypeIs (.ref r) "set") (h : Q false s) : wpAny (model prog w) A (Builtin.List.listLengthHint (.ref r)) Q E s := by
  unfold Builtin.List.listLengthHint
  refine wpAny_bind (wpAny_specialOf hT PySem.F.slot_set_len.lookup ?_)
  generalize hid : ("set.__len__" : String) = id0
  wp_delta
  rw [show splitId id0 = some ("set", "__len__") from by subst hid; decide +kernel]
  subst hid
  refine wpAny_bind (wpAny_isInstance (T := "set") (b := true) hT (by rw [isSubtype_type]; kernel_rfl) ?_)
  refine wpAny_ite_split (fun hab => absurd hab (by decide)) (fun _ => ?_)
  refine wpAny_ite_split (fun _ => ?_) (fun hab => absurd (by decide +kernel) hab)
  refine wpAny_bind (wpAny_typeOf hT ?_)
  exact wpAny_pure h
/-- how the gathering ends -/
def Rq (s : Shared) (zs : List Str) (L : Addr) (q : Result) (s' : Shared) : Prop := ∃ (h' : Heap) (tk : Nat) (d : _) (vs : Array Value) (c' : Nat) (ord : List Str), q = .ok (.ret (.ref L)) ∧ s' = { s with heap := h', toks := tk, drawn := d } ∧
  (∀ b o, s.heap.get? b = some o → h'.get? b = some o) ∧ h'.get? L = some { cls := .type "list", dict := none, data := .seq vs c', slots := #[] } ∧ ord.Perm zs ∧ StrsAre vs.toList ord
/-- what is gathered of a set of texts -/
theorem collect_tx {r : Addr} {zs : List Str} {R : List Value → Shared → Prop} (hh : A.handled = none) (hS : TxSet prog w s.heap r zs)
    (h : ∀ (h' : Heap) (tk : Nat) d (vs : List Value) (ord : List Str), (∀ b o, s.heap.get? b = some o → h'.get? b = some o) → StrsAre vs ord → ord.Perm zs → R vs { s with heap := h', toks := tk, drawn := d }) :
    wpAny (model prog w) A (collect (.ref r)) R E s := by
  have hrT : s.TypeIs (.ref r) "set" := by obtain ⟨o, es, ep, t, ho, hx, _⟩ := hS; exact ⟨o, ho, hx.1⟩
  have hrl : r < s.heap.objs.size := by obtain ⟨o, es, ep, t, ho, hx, _⟩ := hS; exact Heap.lt_size ho
  unfold collect
  refine wpAny_bind (wpAny_runValue (codeAny_builtin entry_proto_collect' ?_))
  rw [Around.under_plainId PySem.F.plain_proto_collect _]
  show wpAny _ A.in1 (newList [] >>= fun l => again (.builtin "list.__iadd__" ⟨[l, .ref r], []⟩)) _ _ s
  refine wpAny_bind (wpAny_newObj_type ?_)
  refine wpAny_pure ⟨plainId_quiet PySem.F.plain_list_iadd _, codeAny_builtin entry_list_iadd' ?_⟩
  rw [Around.under_plainId PySem.F.plain_list_iadd _]
  generalize hh1 : s.heap.push { cls := .type "list", data := .seq ([] : List Value).toArray } = h1
  have hS1 : h1.get? s.heap.objs.size = some { cls := .type "list", data := .seq #[] } := by rw [← hh1]; exact Heap.get?_push_size _ rfl
  have k1 : ∀ b o, s.heap.get? b = some o → h1.get? b = some o := fun b o q => by rw [← hh1]; exact Heap.get?_push_of_some _ q
  have hz1 : h1.objs.size = s.heap.objs.size + 1 := by rw [← hh1, Heap.size_push]
  generalize hL : s.heap.objs.size = L at hS1 hz1 hrl ⊢
  have key : wpAny (model prog w) A.in1 (Builtin.List.listExtendWith (.ref L) (.ref r) (.ref L)) (fun fin s' => match fin with | .done f => Rq s zs L (.ok f) s' | .again c' => c'.quiet = true ∧ codeAny (model prog w) A c' (Rq s zs L) s') (fun e s' => Rq s zs L (.error e) s') { s with heap := h1 } := by
    unfold Builtin.List.listExtendWith
    have hr1 : TxSet prog w h1 r zs := hS.kept fun o q => k1 _ _ q
    have hT1 : Shared.TypeIs { s with heap := h1 } (.ref r) "set" := by obtain ⟨o, es, ep, t, ho, hx, _⟩ := hr1; exact ⟨o, ho, hx.1⟩
    refine wpAny_bind (wpAny_typeOf (T := "set") hT1 ?_)
    have hLr : Builtin.List.listSameRef (.ref L) (.ref r) = false := by
      have : L ≠ r := Nat.ne_of_gt hrl
      simp [Builtin.List.listSameRef, this]
    have e1 : (Value.type "set" == Value.type "list") = false := by decide
    have e2 : (Value.type "set" == Value.type "tuple") = false := by decide
    simp only [hLr, e1, e2, Bool.or_false, Bool.false_eq_true, if_false]
    refine wpAny_bind (iter_tx (s := { s with heap := h1 }) hr1 fun h2 d o es ep t I T fst ord k2 hI hTT hIr ho hd hf he hsz hit hm hp => ?_)
    have hT2 : Shared.TypeIs { s with heap := h2, drawn := d } (.ref r) "set" := by
      obtain ⟨o', es', ep', t', ho', hx', _⟩ := hr1
      exact ⟨o', k2 _ _ ho', hx'.1⟩
    refine wpAny_bind (wpAny_holding (hint_tx (s := { s with heap := h2, drawn := d }) hT2 ?_))
    have hI1 : L + 1 ≤ I := by rw [← hz1]; exact hI
    have hTI : T ≠ I := by
      rcases hTT with e | ⟨_, e⟩
      · rw [e]; exact Nat.ne_of_lt (Nat.lt_of_lt_of_le (Nat.lt_succ_of_lt hrl) hI1)
      · exact e
    have hTL : T ≠ L := by
      rcases hTT with e | ⟨e, _⟩
      · rw [e]; exact Nat.ne_of_lt hrl
      · exact Nat.ne_of_gt (Nat.lt_of_lt_of_le (by rw [show h1.objs.size = L + 1 from hz1]; exact Nat.lt_succ_self _) e)
    have hS2 : h2.get? L = some { cls := .type "list", data := .seq #[] } := k2 _ _ hS1
    have hLf : L ∉ [I, r, T] := by
      simp only [List.mem_cons, List.not_mem_nil, or_false, not_or]
      exact ⟨Nat.ne_of_lt (Nat.lt_of_succ_le hI1), Nat.ne_of_gt hrl, hTL.symm⟩
    have hlen := ord_len he hm
    have hn : es.size ≤ sizeLine := by
      obtain ⟨o', es', ep', t', ho', hx', hd', _, hz', _, hb', _⟩ := hr1
      have := k2 _ _ ho'
      rw [ho] at this
      cases this
      rw [hd] at hd'
      cases hd'
      exact fits_of_scanBound hb'
    have go : ∀ (h3 : Heap) (c : Nat), (∀ b o, b ≠ L → h2.get? b = some o → h3.get? b = some o) → h3.get? L = some { cls := .type "list", data := .seq #[] c } →
        codeAny (model prog w) A (.builtin "list.extend.loop" ⟨[.ref L, .ref I, .ref L], []⟩) (Rq s zs L) { s with heap := h3, drawn := d } := by
      intro h3 c k3 hS3
      have W := walk_tx (prog := prog) (w := w) (A := A.in1) hh (ord := ord) hTI hIr.symm hd hf he
      refine codeAny_extend_loopS W.toS hn L hLf (.ref L) es.size 0 _ #[] c rfl (Nat.zero_le _) ?_ hS3 (ItemsOf.nil _) fun s' acc' c' hm' hS' hacc => ?_
      · exact W.frame 0 h2 h3 ⟨ho, fst, hit, hm⟩ fun b hb o q => k3 b o (fun e => hLf (e ▸ hb)) q
      · obtain ⟨h', g', d', tk', os'⟩ := s'
        have eg : g' = s.gens := hm'.gens
        have ed : d' = d := hm'.drawn
        have eo : os' = s.os := hm'.os
        subst eg; subst ed; subst eo
        refine ⟨h', tk', _, acc', c', ord, rfl, rfl, fun b o q => ?_, hS', hp, strs_ofT (by rw [Array.length_toList, hacc.1, hlen]) fun i v x h1 h2 => ?_⟩
        rotate_left
        · obtain ⟨z, t, e1, e2⟩ := hacc.2 i v (by rw [← Array.getElem?_toList]; exact h1)
          rw [h2] at e1
          cases e1
          exact ⟨t, e2⟩
        have hbl : b < L := by rw [← hL]; exact Heap.lt_size q
        refine hm'.heap b o ?_ (k3 b o (Nat.ne_of_lt hbl) (k2 b o (k1 b o q)))
        simp only [List.mem_cons, List.not_mem_nil, or_false, not_or]
        exact ⟨Nat.ne_of_lt hbl, Nat.ne_of_lt (Nat.lt_trans hbl (Nat.lt_of_succ_le hI1))⟩

    refine wpAny_ite_split (fun _ => ?_) (fun _ => wpAny_pure ⟨plainId_quiet PySem.F.plain_extend_loop _, go h2 0 (fun b o _ q => q) hS2⟩)
    refine wpAny_bind (wpAny_rule ?_)
    refine wpAny_bind ?_
    show wpAny _ _ (updateSeq L (·.push .none) >>= fun _ => updateSeq L (·.pop)) _ _ _
    refine wpAny_bind (wpAny_updateSeq hS2 rfl ?_)
    have hS3 := Heap.get?_update_self (Obj.mapSeq (·.push Value.none)) hS2 rfl
    refine wpAny_updateSeq (hz := by seq_fits) hS3 rfl ?_
    have hS4 := Heap.get?_update_self (Obj.mapSeq (·.pop)) hS3 rfl
    refine wpAny_pure ⟨plainId_quiet PySem.F.plain_extend_loop _, go _ _ (fun b o hb q => ?_) hS4⟩
    exact (Heap.get?_update_other _ _ (Ne.symm hb)).trans ((Heap.get?_update_other _ _ (Ne.symm hb)).trans q)
  refine wpAny_mono key (fun fin s' x => ?_) fun e s' x => ?_
  · cases fin with
    | done f =>
      obtain ⟨h', tk, d, vs, c', ord, e, rfl, k', hL', hp, hst⟩ := x
      cases e
      show wpAny _ A (load L >>= _) _ _ _
      exact wpAny_bind (wpAny_load hL' (wpAny_pure (h h' tk d vs.toList ord k' hst hp)))
    | again c1 =>
      refine ⟨x.1, codeAny_mono x.2 fun q s2 y => ?_⟩
      obtain ⟨h', tk, d, vs, c', ord, rfl, rfl, k', hL', hp, hst⟩ := y
      show wpAny _ A (load L >>= _) _ _ _
      exact wpAny_bind (wpAny_load hL' (wpAny_pure (h h' tk d vs.toList ord k' hst hp)))
  · obtain ⟨_, _, _, _, _, _, e, _⟩ := x
    cases e
/-- sorted(..) of a set of texts -/
theorem sorted_tx {r : Addr} {zs : List Str} {Q : Value → Shared → Prop} (hh : A.handled = none) (hS : TxSet prog w s.heap r zs) (hn : zs.length < 64)
    (h : ∀ (h1 h' : Heap) (tk : Nat) d (vs' : List Value) (ss' : List Str) (e : Nat), (∀ b o, s.heap.get? b = some o → h1.get? b = some o) → (∀ b o, h1.get? b = some o → h'.get? b = some o) → h'.get? h1.objs.size = some { cls := .type "list", data := .seq vs'.toArray e } → StrsAre vs' ss' → ss'.Perm zs → sortedS ss' = true → Q (.ref h1.objs.size) { s with heap := h', toks := tk, drawn := d }) :
    wpAny (model prog w) A (call (.builtin "sorted") [.ref r]) Q E s := by
  refine Calls.call_function_entry kind_sorted plain_sorted entry_sorted (args_sorted1 _) ?_
  unfold Builtin.«sorted»
  refine wpAny_bind (m := checkCount "sorted" 1 1 _) (wpAny_pure ?_)
  refine wpAny_bind (collect_tx (A := A.in1) hh hS fun h' tk d vs ord hk hA hp => ?_)
  have hl2 : vs.length = zs.length := by rw [strs_len hA, hp.length_eq]
  have hsl : sizeLine = 16777216 := sizeLine_eq
  refine wpAny_bind (wpAny_newList ?_ (by omega))
  have hoL : (h'.push (seqObj "list" vs.toArray 0)).get? h'.objs.size = some (seqObj "list" vs.toArray 0) := Heap.get?_push_size _ rfl
  show wpAny _ _ _ _ _ { s with heap := h'.push (seqObj "list" vs.toArray 0), toks := tk, drawn := d }
  refine wpAny_bind (wpAny_holding (wpAny_call_entry slot_list_sort ⟨_, hoL, rfl⟩ entry_list_sort (list_sort_treeK (A := A.in1.in1) strKind_oneLt hoL hA.keysOf (fun v₁ v₂ rest e => keyKind_strs (by rw [← e]; exact hA)) (by omega) fun st' a1 a2 => ⟨_, rfl, ?_⟩) (args_list_sort _)))
  obtain ⟨ss', h1, h2, h3⟩ := sorted_out_str hA a1 a2
  obtain ⟨e, he⟩ := sortedHeap_at (out := (arrOf st').map (·.2)) hoL
  refine wpAny_pure ⟨_, rfl, h h' _ tk d _ ss' e hk (fun b o hb' => ?_) (by rw [Array.toArray_toList]; exact he) h1 (h2.trans hp) h3⟩
  have hlt := Heap.lt_size hb'
  rw [sortedHeap_old (Nat.ne_of_lt hlt) (by rw [size_push']; exact Nat.lt_succ_of_lt hlt)]
  exact Heap.get?_push_of_some _ hb'
end
end L2
set_option Elab.async false
set_option linter.all false
set_option maxRecDepth 100000
namespace L2
open PySem PySem.Spec PyProof.Rows PySem.SeqAt
/-! ### equal data -/
mutual
def deq : Dt → Dt → Bool
  | .non, .non => true
  | .bl a, .bl b => a == b
  | .int a, .int b => a == b
  | .bl a, .int b => (if a then 1 else 0) == b
  | .int a, .bl b => a == (if b then 1 else 0)
  | .str a, .str b => a == b
  | .tup xs, .tup ys => deqs xs ys
  | .lst xs, .lst ys => deqs xs ys
  | _, _ => false
def deqs : List Dt → List Dt → Bool
  | [], [] => true
  | x :: xs, y :: ys => deq x y && deqs xs ys
  | _, _ => false
end
mutual
theorem deq_refl : ∀ d : Dt, deq d d = true
  | .non => rfl
  | .bl a => by simp [deq]
  | .int a => by simp [deq]
  | .str a => by simp [deq]
  | .tup ds => by rw [deq]; exact deqs_refl ds
  | .lst ds => by rw [deq]; exact deqs_refl ds
theorem deqs_refl : ∀ ds : List Dt, deqs ds ds = true
  | [] => rfl
  | d :: ds => by rw [deqs, deq_refl d, deqs_refl ds]; rfl
end
/-- place by place -/
def eat (xs ys : List Dt) (j : Nat) : Bool :=
  match xs[j]?, ys[j]? with
  | some x, some y => deq x y
  | _, _ => false
theorem deqs_all : ∀ xs ys : List Dt, ((List.range (min xs.length ys.length)).all (eat xs ys) && xs.length == ys.length) = deqs xs ys
  | [], [] => rfl
  | [], y :: ys => by simp [deqs]
  | x :: xs, [] => by simp [deqs]
  | x :: xs, y :: ys => by
    rw [deqs, ← deqs_all xs ys, List.length_cons, List.length_cons, Nat.succ_min_succ, List.range_succ_eq_map, List.all_cons, List.all_map]
    have e1 : eat (x :: xs) (y :: ys) 0 = deq x y := rfl
    have e2 : eat (x :: xs) (y :: ys) ∘ Nat.succ = eat xs ys := by funext j; simp [eat]
    rw [e1, e2, Bool.and_assoc]
    congr 2
    rw [Bool.eq_iff_iff]
    simp
mutual
theorem DAt.one_of {H : Hp} : ∀ {d d' : Dt} {v : V}, DAt H d v → DAt H d' v → d = d'
  | d, .non, v, h, h' => by have h' : v = .non := h'; subst h'; cases d <;> simp_all [DAt]
  | d, .bl b, v, h, h' => by have h' : v = .bl b := h'; subst h'; cases d <;> simp_all [DAt]
  | d, .int b, v, h, h' => by have h' : v = .int b := h'; subst h'; cases d <;> simp_all [DAt]
  | d, .str b, v, h, h' => by have h' : v = .str b := h'; subst h'; cases d <;> simp_all [DAt]
  | d, .tup ds', v, h, h' => by
    obtain ⟨a, vs, rfl, e2, e3⟩ := h'
    cases d with
    | tup ds =>
      obtain ⟨a', vs', e1', e2', e3'⟩ := h
      cases e1'
      rw [e2] at e2'
      cases e2'
      rw [DAts.one_of e3' e3]
    | lst ds =>
      obtain ⟨a', vs', e1', e2', e3'⟩ := h
      cases e1'
      rw [e2] at e2'
      cases e2'
    | _ => cases h
  | d, .lst ds', v, h, h' => by
    obtain ⟨a, vs, rfl, e2, e3⟩ := h'
    cases d with
    | lst ds =>
      obtain ⟨a', vs', e1', e2', e3'⟩ := h
      cases e1'
      rw [e2] at e2'
      cases e2'
      rw [DAts.one_of e3' e3]
    | tup ds =>
      obtain ⟨a', vs', e1', e2', e3'⟩ := h
      cases e1'
      rw [e2] at e2'
      cases e2'
    | _ => cases h
theorem DAts.one_of {H : Hp} : ∀ {ds ds' : List Dt} {vs : List V}, DAts H ds vs → DAts H ds' vs → ds = ds'
  | ds, [], vs, h, h' => by
    have h' : vs = [] := h'
    subst h'
    cases ds with
    | nil => rfl
    | cons d ds => obtain ⟨v, r, e, _⟩ := h; cases e
  | ds, d' :: ds', vs, h, h' => by
    obtain ⟨v, r, rfl, e2, e3⟩ := h'
    cases ds with
    | nil => cases h
    | cons d ds =>
      obtain ⟨v', r', e, e2', e3'⟩ := h
      cases e
      rw [DAt.one_of e2' e2, DAts.one_of e3' e3]
end
section
variable {P : Program} {w : World} {H : Hp} {s : Shared}
theorem DAts.tup_of (ok : HOk P w H s.heap) {a : Addr} {vs : List V} (h : H a = some (.tup vs)) : ∃ its : List Value, Vals vs its ∧ s.heap.IsTuple a its.toArray := by
  obtain ⟨z, its, r, p⟩ := ok a _ h
  exact ⟨its, r, p⟩
theorem DAts.lst_of (ok : HOk P w H s.heap) {a : Addr} {vs : List V} (h : H a = some (.lst vs)) : ∃ its : List Value, Vals vs its ∧ s.heap.IsList a its.toArray := by
  obtain ⟨z, its, n, r, p⟩ := ok a _ h
  exact ⟨its, r, _, p, rfl, n, rfl⟩
theorem vals_at : ∀ {xs : List V} {us : List Value} {i : Nat} {x : V} {u : Value}, Vals xs us → xs[i]? = some x → us[i]? = some u → RelV x u
  | _, _, _, _, _, .nil, h, _ => by simp at h
  | _, _, 0, _, _, .cons r q, h, h' => by
    simp at h h'
    subst h
    subst h'
    exact r
  | _, _, i + 1, _, _, .cons r q, h, h' => vals_at q (by simpa using h) (by simpa using h')
theorem rc_lists (ok : HOk P w H s.heap) {n : Nat} {A : Around} (ih : ∀ {A : Around} {d d' : Dt} {v v' : V} {u u' : Value}, DAt H d v → DAt H d' v' → RelV v u → RelV v' u' → DFit n d → A.units + n < cLine → EqAt A s u u' (deq d d'))
    {l l' : Addr} {ds ds' : List Dt} {vs vs' : List V} {its its' : List Value} (hs : DAts H ds vs) (hs' : DAts H ds' vs') (rv : Vals vs its) (rv' : Vals vs' its') (hl : s.heap.IsList l its.toArray) (hl' : s.heap.IsList l' its'.toArray)
    (f : ∀ d ∈ ds, DFit n d) (hu : A.units + (n + 1) < cLine) : RcAt A s (.ref l) (.ref l') (deqs ds ds') := by
  have k1 := hs.length
  have k2 := hs'.length
  have k3 := rv.length
  have k4 := rv'.length
  by_cases hz : ds.length = ds'.length
  · have key := RcAt.lists (A := A) (e := eat ds ds') hl hl' (by rw [List.size_toArray, List.size_toArray]; omega) (by omega) fun j h1 h2 => ?_
    · rw [← deqs_all, hz, Nat.min_self, beq_self_eq_true, Bool.and_true]
      rw [List.size_toArray] at key
      rw [show ds'.length = its.length by omega]
      exact key
    · rw [List.size_toArray] at h1 h2
      have hj : j < ds.length := by omega
      have hj' : j < ds'.length := by omega
      obtain ⟨x, x1, x2⟩ := hs.get (List.getElem?_eq_getElem hj)
      obtain ⟨y, y1, y2⟩ := hs'.get (List.getElem?_eq_getElem hj')
      have e1 : eat ds ds' j = deq ds[j] ds'[j] := by unfold eat; rw [List.getElem?_eq_getElem hj, List.getElem?_eq_getElem hj']
      rw [e1]
      refine ih x2 y2 ?_ ?_ (f _ (List.getElem_mem hj)) (by show A.units + 1 + n < cLine; omega)
      · exact vals_at rv x1 (by rw [List.getElem_toArray]; exact List.getElem?_eq_getElem h1)
      · exact vals_at rv' y1 (by rw [List.getElem_toArray]; exact List.getElem?_eq_getElem h2)
  · have hf : deqs ds ds' = false := by rw [← deqs_all, show (ds.length == ds'.length) = false by simpa using hz, Bool.and_false]
    rw [hf]
    exact RcAt.lists_lengths hl hl' (by rw [List.size_toArray, List.size_toArray]; simp; omega) (by omega)
/-- one and the same thing -/
theorem deq_same (ok : HOk P w H s.heap) {A : Around} {d : Dt} {v : V} {u u' : Value} (h : DAt H d v) (r : RelV v u) (r' : RelV v u') : EqAt A s u u' true := by
  cases d with
  | non => have h : v = .non := h; subst h; cases r; cases r'; exact EqAt.same _
  | bl a => have h : v = .bl a := h; subst h; cases r; cases r'; exact EqAt.same _
  | int a =>
    have h : v = .int a := h
    subst h
    obtain ⟨t, rfl⟩ := r
    obtain ⟨t', rfl⟩ := r'
    have := EqAt.int_int (A := A) (s := s) a t a t'
    rwa [beq_self_eq_true] at this
  | str a =>
    have h : v = .str a := h
    subst h
    obtain ⟨t, rfl⟩ := r
    obtain ⟨t', rfl⟩ := r'
    have := EqAt.str_str (A := A) (s := s) a t a t'
    rwa [beq_self_eq_true] at this
  | tup ds => obtain ⟨l, vs, rfl, _⟩ := h; cases r; cases r'; exact EqAt.same _
  | lst ds => obtain ⟨l, vs, rfl, _⟩ := h; cases r; cases r'; exact EqAt.same _
theorem deq_sc (ok : HOk P w H s.heap) {A : Around} {d d' : Dt} {v v' : V} {u u' : Value} (h : DAt H d v) (h' : DAt H d' v') (r : RelV v u) (r' : RelV v' u') (hu : A.units < cLine) (hk : ∀ ds ds', ¬ (d = .tup ds ∧ d' = .tup ds') ∧ ¬ (d = .lst ds ∧ d' = .lst ds')) : EqAt A s u u' (deq d d') := by
  cases d with
  | non =>
    have h : v = .non := h
    subst h
    cases r
    cases d' with
    | non =>
      have h' : v' = .non := h'
      subst h'
      cases r'
      simp only [deq]
      exact EqAt.same _
    | bl b =>
      have h' : v' = .bl b := h'
      subst h'
      cases r'
      simp only [deq]
      exact EqAt.none_bool _
    | int b =>
      have h' : v' = .int b := h'
      subst h'
      obtain ⟨t', rfl⟩ := r'
      simp only [deq]
      exact EqAt.none_int _ _
    | str b =>
      have h' : v' = .str b := h'
      subst h'
      obtain ⟨t', rfl⟩ := r'
      simp only [deq]
      exact EqAt.none_str _ _
    | tup ds' =>
      obtain ⟨l', vs', rfl, e', hs'⟩ := h'
      cases r'
      obtain ⟨its', rv', hl'⟩ := DAts.tup_of ok e'
      simp only [deq]
      exact EqAt.none_tuple hl' hu
    | lst ds' =>
      obtain ⟨l', vs', rfl, e', hs'⟩ := h'
      cases r'
      obtain ⟨its', rv', hl'⟩ := DAts.lst_of ok e'
      simp only [deq]
      exact EqAt.none_list hl' hu
  | bl a =>
    have h : v = .bl a := h
    subst h
    cases r
    cases d' with
    | non =>
      have h' : v' = .non := h'
      subst h'
      cases r'
      simp only [deq]
      exact EqAt.bool_none _
    | bl b =>
      have h' : v' = .bl b := h'
      subst h'
      cases r'
      simp only [deq]
      exact EqAt.bool_bool _ _
    | int b =>
      have h' : v' = .int b := h'
      subst h'
      obtain ⟨t', rfl⟩ := r'
      simp only [deq]
      exact EqAt.bool_int _ _ _
    | str b =>
      have h' : v' = .str b := h'
      subst h'
      obtain ⟨t', rfl⟩ := r'
      simp only [deq]
      exact EqAt.bool_str _ _ _
    | tup ds' =>
      obtain ⟨l', vs', rfl, e', hs'⟩ := h'
      cases r'
      obtain ⟨its', rv', hl'⟩ := DAts.tup_of ok e'
      simp only [deq]
      exact EqAt.bool_tuple _ hl' hu
    | lst ds' =>
      obtain ⟨l', vs', rfl, e', hs'⟩ := h'
      cases r'
      obtain ⟨its', rv', hl'⟩ := DAts.lst_of ok e'
      simp only [deq]
      exact EqAt.bool_list _ hl' hu
  | int a =>
    have h : v = .int a := h
    subst h
    obtain ⟨t, rfl⟩ := r
    cases d' with
    | non =>
      have h' : v' = .non := h'
      subst h'
      cases r'
      simp only [deq]
      exact EqAt.int_none _ _
    | bl b =>
      have h' : v' = .bl b := h'
      subst h'
      cases r'
      simp only [deq]
      exact EqAt.int_bool _ _ _
    | int b =>
      have h' : v' = .int b := h'
      subst h'
      obtain ⟨t', rfl⟩ := r'
      simp only [deq]
      exact EqAt.int_int _ _ _ _
    | str b =>
      have h' : v' = .str b := h'
      subst h'
      obtain ⟨t', rfl⟩ := r'
      simp only [deq]
      exact EqAt.int_str _ _ _ _
    | tup ds' =>
      obtain ⟨l', vs', rfl, e', hs'⟩ := h'
      cases r'
      obtain ⟨its', rv', hl'⟩ := DAts.tup_of ok e'
      simp only [deq]
      exact EqAt.int_tuple _ _ hl' hu
    | lst ds' =>
      obtain ⟨l', vs', rfl, e', hs'⟩ := h'
      cases r'
      obtain ⟨its', rv', hl'⟩ := DAts.lst_of ok e'
      simp only [deq]
      exact EqAt.int_list _ _ hl' hu
  | str a =>
    have h : v = .str a := h
    subst h
    obtain ⟨t, rfl⟩ := r
    cases d' with
    | non =>
      have h' : v' = .non := h'
      subst h'
      cases r'
      simp only [deq]
      exact EqAt.str_none _ _
    | bl b =>
      have h' : v' = .bl b := h'
      subst h'
      cases r'
      simp only [deq]
      exact EqAt.str_bool _ _ _
    | int b =>
      have h' : v' = .int b := h'
      subst h'
      obtain ⟨t', rfl⟩ := r'
      simp only [deq]
      exact EqAt.str_int _ _ _ _
    | str b =>
      have h' : v' = .str b := h'
      subst h'
      obtain ⟨t', rfl⟩ := r'
      simp only [deq]
      exact EqAt.str_str _ _ _ _
    | tup ds' =>
      obtain ⟨l', vs', rfl, e', hs'⟩ := h'
      cases r'
      obtain ⟨its', rv', hl'⟩ := DAts.tup_of ok e'
      simp only [deq]
      exact EqAt.str_tuple _ _ hl' hu
    | lst ds' =>
      obtain ⟨l', vs', rfl, e', hs'⟩ := h'
      cases r'
      obtain ⟨its', rv', hl'⟩ := DAts.lst_of ok e'
      simp only [deq]
      exact EqAt.str_list _ _ hl' hu
  | tup ds =>
    obtain ⟨l, vs, rfl, e, hs⟩ := h
    cases r
    obtain ⟨its, rv, hl⟩ := DAts.tup_of ok e
    cases d' with
    | non =>
      have h' : v' = .non := h'
      subst h'
      cases r'
      simp only [deq]
      exact EqAt.tuple_none hl hu
    | bl b =>
      have h' : v' = .bl b := h'
      subst h'
      cases r'
      simp only [deq]
      exact EqAt.tuple_bool _ hl hu
    | int b =>
      have h' : v' = .int b := h'
      subst h'
      obtain ⟨t', rfl⟩ := r'
      simp only [deq]
      exact EqAt.tuple_int _ _ hl hu
    | str b =>
      have h' : v' = .str b := h'
      subst h'
      obtain ⟨t', rfl⟩ := r'
      simp only [deq]
      exact EqAt.tuple_str _ _ hl hu
    | tup ds' => exact absurd ⟨rfl, rfl⟩ (hk _ _).1
    | lst ds' =>
      obtain ⟨l', vs', rfl, e', hs'⟩ := h'
      cases r'
      obtain ⟨its', rv', hl'⟩ := DAts.lst_of ok e'
      simp only [deq]
      exact EqAt.tuple_list hl hl' hu
  | lst ds =>
    obtain ⟨l, vs, rfl, e, hs⟩ := h
    cases r
    obtain ⟨its, rv, hl⟩ := DAts.lst_of ok e
    cases d' with
    | non =>
      have h' : v' = .non := h'
      subst h'
      cases r'
      simp only [deq]
      exact EqAt.list_none hl hu
    | bl b =>
      have h' : v' = .bl b := h'
      subst h'
      cases r'
      simp only [deq]
      exact EqAt.list_bool _ hl hu
    | int b =>
      have h' : v' = .int b := h'
      subst h'
      obtain ⟨t', rfl⟩ := r'
      simp only [deq]
      exact EqAt.list_int _ _ hl hu
    | str b =>
      have h' : v' = .str b := h'
      subst h'
      obtain ⟨t', rfl⟩ := r'
      simp only [deq]
      exact EqAt.list_str _ _ hl hu
    | tup ds' =>
      obtain ⟨l', vs', rfl, e', hs'⟩ := h'
      cases r'
      obtain ⟨its', rv', hl'⟩ := DAts.tup_of ok e'
      simp only [deq]
      exact EqAt.list_tuple hl hl' hu
    | lst ds' => exact absurd ⟨rfl, rfl⟩ (hk _ _).2
theorem deq_at (ok : HOk P w H s.heap) : ∀ (n : Nat) {A : Around} {d d' : Dt} {v v' : V} {u u' : Value}, DAt H d v → DAt H d' v' → RelV v u → RelV v' u' → DFit n d → A.units + n < cLine → EqAt A s u u' (deq d d') := by
  intro n
  induction n with
  | zero =>
    intro A d d' v v' u u' h h' r r' f hu
    exact deq_sc ok h h' r r' hu fun ds ds' => ⟨fun e => by rw [e.1] at f; exact f, fun e => by rw [e.1] at f; exact f⟩
  | succ n ih =>
    intro A d d' v v' u u' h h' r r' f hu
    by_cases hvv : v = v'
    · subst hvv
      rw [DAt.one_of h h', deq_refl]
      have hd : d = d' := DAt.one_of h h'
      subst hd
      have hx := deq_same ok (A := A) h r r'
      exact hx
    cases d with
    | tup ds =>
      cases d' with
      | tup ds' =>
        obtain ⟨l, vs, rfl, e, hs⟩ := h
        obtain ⟨l', vs', rfl, e', hs'⟩ := h'
        cases r
        cases r'
        obtain ⟨its, rv, hl⟩ := DAts.tup_of ok e
        obtain ⟨its', rv', hl'⟩ := DAts.tup_of ok e'
        have k1 := hs.length
        have k2 := hs'.length
        have k3 := rv.length
        have k4 := rv'.length
        have key := RcAt.tuples (A := A) (e := eat ds ds') hl hl' (by omega) fun j h1 h2 => ?_
        · simp only [deq]
          rw [← deqs_all]
          refine EqAt.of_refs (fun z => hvv (by rw [z])) ?_
          rw [List.size_toArray, List.size_toArray] at key
          rw [← k1, ← k2, k3, k4]
          exact key
        · rw [List.size_toArray] at h1 h2
          have hj : j < ds.length := by omega
          have hj' : j < ds'.length := by omega
          obtain ⟨x, x1, x2⟩ := hs.get (List.getElem?_eq_getElem hj)
          obtain ⟨y, y1, y2⟩ := hs'.get (List.getElem?_eq_getElem hj')
          have e1 : eat ds ds' j = deq ds[j] ds'[j] := by unfold eat; rw [List.getElem?_eq_getElem hj, List.getElem?_eq_getElem hj']
          rw [e1]
          refine ih x2 y2 ?_ ?_ (f.2 _ (List.getElem_mem hj)) (by show A.units + 1 + n < cLine; omega)
          · exact vals_at rv x1 (by rw [List.getElem_toArray]; exact List.getElem?_eq_getElem h1)
          · exact vals_at rv' y1 (by rw [List.getElem_toArray]; exact List.getElem?_eq_getElem h2)
      | _ => exact deq_sc ok h h' r r' (by omega) fun ds ds' => ⟨fun e => (by cases e.2), fun e => (by cases e.1)⟩
    | lst ds =>
      cases d' with
      | lst ds' =>
        obtain ⟨l, vs, rfl, e, hs⟩ := h
        obtain ⟨l', vs', rfl, e', hs'⟩ := h'
        cases r
        cases r'
        obtain ⟨its, rv, hl⟩ := DAts.lst_of ok e
        obtain ⟨its', rv', hl'⟩ := DAts.lst_of ok e'
        simp only [deq]
        exact EqAt.of_refs (fun z => hvv (by rw [z])) (rc_lists ok ih hs hs' rv rv' hl hl' f.2 hu)
      | _ => exact deq_sc ok h h' r r' (by omega) fun ds ds' => ⟨fun e => (by cases e.1), fun e => (by cases e.2)⟩
    | _ => exact deq_sc ok h h' r r' (by omega) fun ds ds' => ⟨fun e => (by cases e.1), fun e => (by cases e.1)⟩
end
section
variable {X : Cx}
/-- l == l', lists of data -/
def rEqD : R2 := fun x y H Q => ∃ n ds ds', DAt H (.lst ds) x ∧ DAt H (.lst ds') y ∧ (∀ d ∈ ds, DFit n d) ∧ n ≤ 60 ∧ Q (.bl (deqs ds ds')) H
theorem op_eqD (hu : X.A.units + 64 < cLine) : OpR X (compareOp .Eq) rEqD := by
  intro pins s σ H x y v u Q I rx ry h
  obtain ⟨n, ds, ds', ⟨l, vs, rfl, e, hs⟩, ⟨l', vs', rfl, e', hs'⟩, f, hn, q⟩ := h
  cases rx
  cases ry
  obtain ⟨its, rv, hl⟩ := DAts.lst_of I.hok e
  obtain ⟨its', rv', hl'⟩ := DAts.lst_of I.hok e'
  exact rc_lists I.hok (fun a b c d f g => deq_at I.hok n a b c d f g) hs hs' rv rv' hl hl' f (by omega) X.prog X.w _ _ (fin_bl I q rfl)
end
end L2
set_option Elab.async false
set_option linter.all false
set_option maxRecDepth 100000
namespace L2
open PySem PySem.Spec PyProof.Rows PySem.SeqAt
section
variable {X : Cx}
theorem Inv.drawn {pins : List (Addr × Obj)} {σ : St} {H : Hp} {s : Shared} (I : Inv X pins σ H s) (d : _) : Inv X pins σ H { s with drawn := d } := ⟨I.ok, I.os, I.bare, I.base, I.loc, I.cell, I.free, I.freeC, I.pin, I.hok, I.len⟩
/-- a set of texts as the abstract heap bears it -/
def TxO (P : Program) (w : World) (p : Addr) (zs : List Str) : HO := .ext fun h => TxSet P w h p zs
theorem vals_str : ∀ {zs : List Str} {its : List Value}, Vals (zs.map V.str) its → ∀ (i : Nat) (v : Value), its[i]? = some v → ∃ z t, zs[i]? = some z ∧ v = .str z t
  | [], _, .nil, i, v, h => by simp at h
  | z :: zs, _, .cons r q, 0, v, h => by
    obtain ⟨t, rfl⟩ := r
    simp at h
    exact ⟨z, t, rfl, h.symm⟩
  | z :: zs, _, .cons r q, i + 1, v, h => by
    obtain ⟨z', t, e1, e2⟩ := vals_str q i v (by simpa using h)
    exact ⟨z', t, by simpa using e1, e2⟩
/-- set(l), l a list of texts -/
theorem call_setT : CallR X (.type "set") (fun xs H Q => X.calm = true ∧ ∃ (p : Addr) (zs : List Str), xs = [.ref p] ∧ SqL X.K H p (zs.map V.str) ∧ zs.length < 4000 ∧
    ∀ l ys, H l = none → ys.Nodup → (∀ z, z ∈ ys ↔ z ∈ zs) → Q (.ref l) (upd H l (TxO X.prog X.w l ys))) := by
  intro pins s σ H xs us Q I r h
  obtain ⟨hc, p, zs, rfl, hp, h4, q⟩ := h
  obtain ⟨u, rfl, ru⟩ := vals1 r
  cases ru
  obtain ⟨its, rv, ⟨o, n, e1, e2, e3, e4⟩, z⟩ := I.list hp
  have hil : its.length = zs.length := by have := rv.length; rw [List.length_map] at this; omega
  have hsb : scanBound = 4096 := rfl
  refine tx_call (items := its.toArray) (val := fun i => zs.getD i "") (I.ok.hd hc) ⟨o, e1, e2, n, by simpa using e4⟩ (fun i v hv => ?_) (by rw [List.size_toArray]; omega) fun h' tk ys hS hly hz k => ?_
  · obtain ⟨z, t, a1, a2⟩ := vals_str rv i v (by rw [← List.getElem?_toArray]; exact hv)
    exact ⟨t, by rw [a2, List.getD_eq_getElem?_getD, a1]; rfl⟩
  · have hnd : ys.Nodup := by obtain ⟨_, _, _, _, _, _, _, _, _, x, _⟩ := hS; exact x
    have hth : ∃ o, h'.get? s.heap.objs.size = some o := by obtain ⟨o, _, _, _, x, _⟩ := hS; exact ⟨o, x⟩
    refine ⟨.ref _, _, I.laid (a := s.heap.objs.size) (o := TxO X.prog X.w s.heap.objs.size ys) (t' := tk) k (Nat.le_refl _) ⟨hS, hth, fun h1 h2 x y => x.kept y⟩, rfl, q _ _ (I.hok.fresh (Nat.le_refl _)) hnd fun z => ?_⟩
    rw [hz, List.size_toArray, hil]
    constructor
    · rintro ⟨j, hj, rfl⟩
      rw [List.getD_eq_getElem?_getD, List.getElem?_eq_getElem hj]
      exact List.getElem_mem hj
    · intro hm
      obtain ⟨j, hj, e⟩ := List.getElem_of_mem hm
      exact ⟨j, hj, by rw [List.getD_eq_getElem?_getD, List.getElem?_eq_getElem hj]; exact e⟩
/-- sorted(s), s a set of texts -/
theorem call_sortedX : CallR X (.builtin "sorted") (fun xs H Q => X.calm = true ∧ ∃ (p : Addr) (ys : List Str), xs = [.ref p] ∧ H p = some (TxO X.prog X.w p ys) ∧ ys.length < 64 ∧
    ∀ l zs', H l = none → zs'.Perm ys → sortedS zs' = true → Q (.ref l) (upd H l (.lst (zs'.map V.str)))) := by
  intro pins s σ H xs us Q I r h
  obtain ⟨hc, p, ys, rfl, hp, h64, q⟩ := h
  obtain ⟨u, rfl, ru⟩ := vals1 r
  cases ru
  have hS : TxSet X.prog X.w s.heap p ys := (I.hok p _ hp).1
  refine sorted_tx (I.ok.hd hc) hS h64 fun h1 h' tk d vs' ss' e k1 k2 hB hA hp2 hs2 => ?_
  have I1 : Inv X pins σ H { s with heap := h1, toks := tk, drawn := d } := (I.kept k1).drawn d
  have hlen : ss'.length = ys.length := hp2.length_eq
  exact ⟨.ref h1.objs.size, _, I1.laid (a := h1.objs.size) (o := .lst (ss'.map V.str)) (t' := tk) k2 (Nat.le_refl _) ⟨by rw [List.length_map, sizeLine_eq]; omega, vs', e, strs_vals hA, hB⟩, rfl, q _ _ (I1.hok.fresh (Nat.le_refl _)) hp2 hs2⟩
end
theorem str_extL {a b : Str} (h : a.cps.toList = b.cps.toList) : a = b := by
  cases a; cases b
  congr 1
  exact Array.toList_inj.mp h
def leS (a b : Str) : Prop := ltCps b.cps.toList a.cps.toList = false
theorem leS_iff (a b : Str) : leS a b ↔ a.cps.toList ≤ b.cps.toList := by
  unfold leS
  rw [ltCps_eq, decide_eq_false_iff_not, List.not_lt]
theorem rising_pw : ∀ (p : Str) (l : List Str), risingS p l = true → (p :: l).Pairwise leS
  | p, [], _ => by simp
  | p, x :: r, h => by
    have h : (!ltCps x.cps.toList p.cps.toList && risingS x r) = true := h
    rw [Bool.and_eq_true, Bool.not_eq_true'] at h
    have ih := rising_pw x r h.2
    refine List.pairwise_cons.mpr ⟨fun y hy => ?_, ih⟩
    rcases List.mem_cons.mp hy with rfl | hy
    · exact h.1
    · rw [leS_iff]
      exact List.le_trans ((leS_iff _ _).mp h.1) ((leS_iff _ _).mp (List.rel_of_pairwise_cons ih hy))
theorem sorted_pw : ∀ {l : List Str}, sortedS l = true → l.Pairwise leS
  | [], _ => by simp
  | p :: r, h => rising_pw p r h
theorem sorted_one {l l' : List Str} (h : sortedS l = true) (h' : sortedS l' = true) (p : l.Perm l') : l = l' := by
  refine List.Perm.eq_of_pairwise (le := leS) (fun a b _ _ h1 h2 => ?_) (sorted_pw h) (sorted_pw h') p
  exact str_extL (List.le_antisymm ((leS_iff _ _).mp h1) ((leS_iff _ _).mp h2))
theorem nodup_sub : ∀ {l m : List Str}, l.Nodup → (∀ x ∈ l, x ∈ m) → l.length ≤ m.length
  | [], m, _, _ => Nat.zero_le _
  | x :: l, m, hn, hs => by
    have hx : x ∈ m := hs x List.mem_cons_self
    have hn' := List.nodup_cons.mp hn
    have := nodup_sub (l := l) (m := m.erase x) hn'.2 fun y hy => by
      have hy' := hs y (List.mem_cons_of_mem _ hy)
      have hne : y ≠ x := fun e => hn'.1 (by rw [← e]; exact hy)
      exact (List.mem_erase_of_ne hne).mpr hy'
    rw [List.length_erase_of_mem hx] at this
    have := List.length_pos_of_mem hx
    rw [List.length_cons]
    omega
theorem nodup_perm {l m : List Str} (h : l.Nodup) (h' : m.Nodup) (e : ∀ x, x ∈ l ↔ x ∈ m) : l.Perm m := (List.perm_ext_iff_of_nodup h h').mpr e
end L2
set_option Elab.async false
set_option linter.all false
set_option maxRecDepth 100000
set_option maxHeartbeats 8000000
namespace C
open PySem L2
seal PE PT PW PA PS PSs PG PGs PI PPs PO PSet PIf
def top (i : Nat) : Stmt := PySem.Challenge.pw_clashbook_k02_names_leaves_depth.main.body.getD i (.Pass ⟨0, 0, 0, 0⟩)
abbrev s_law_cell_at : Stmt := top 10
theorem sc_law_cell_at : FnScope ["script", "k"] ["script", "k"] (defScope s_law_cell_at) := ⟨rfl, rfl, rfl, by decide +kernel, rfl, by decide +kernel, by decide +kernel⟩
abbrev s_law_name_by : Stmt := top 11
theorem sc_law_name_by : FnScope ["cell", "size", "letters", "made", "rest", "k"] ["cell", "size"] (defScope s_law_name_by) := ⟨rfl, rfl, rfl, by decide +kernel, rfl, by decide +kernel, by decide +kernel⟩
abbrev s_law_pool : Stmt := top 12
theorem sc_law_pool : FnScope ["script", "one", "two", "three", "pool"] ["script"] (defScope s_law_pool) := ⟨rfl, rfl, rfl, by decide +kernel, rfl, by decide +kernel, by decide +kernel⟩
abbrev s_law_leaf : Stmt := top 13
theorem sc_law_leaf : FnScope ["cell", "pool", "which"] ["cell", "pool"] (defScope s_law_leaf) := ⟨rfl, rfl, rfl, by decide +kernel, rfl, by decide +kernel, by decide +kernel⟩
abbrev s_law_stack : Stmt := top 14
theorem sc_law_stack : FnScope ["cells", "pool", "stack", "deep", "cell", "way", "parts", "low"] ["cells", "pool"] (defScope s_law_stack) := ⟨rfl, rfl, rfl, by decide +kernel, rfl, by decide +kernel, by decide +kernel⟩
abbrev s_law_whole_term : Stmt := top 15
theorem sc_law_whole_term : FnScope ["stack"] ["stack"] (defScope s_law_whole_term) := ⟨rfl, rfl, rfl, by decide +kernel, rfl, by decide +kernel, by decide +kernel⟩
def spCell (K : PySem.W.Frag) : Sp := fun vs H Q _ => ∃ (a : Addr) (ns : List Int) (k : Nat), vs = [.ref a, .int k] ∧ SqL K H a (ns.map V.int) ∧ Q (.int (ns.getD k 0)) H
def spName : Sp := fun vs H Q _ => ∃ c n : Int, vs = [.int c, .int n] ∧ ∀ x : Str, Nm x → Q (.str x) H
mutual
def nms : Tm → List Str
  | .name x => [x]
  | .node _ ts => nmss ts
def nmss : List Tm → List Str
  | [] => []
  | t :: ts => nms t ++ nmss ts
end
theorem nmss_app : ∀ ts us : List Tm, nmss (ts ++ us) = nmss ts ++ nmss us
  | [], us => by simp [nmss]
  | t :: ts, us => by rw [List.cons_append, nmss, nmss, nmss_app ts us, List.append_assoc]
theorem nmss_take {ts : List Tm} {i : Nat} {t : Tm} (h : ts[i]? = some t) : nmss (ts.take (i + 1)) = nmss (ts.take i) ++ nms t := by
  obtain ⟨il, ie⟩ := List.getElem?_eq_some_iff.mp h
  rw [List.take_succ_eq_append_getElem il, ie, nmss_app]
  show _ ++ (nms t ++ nmss []) = _
  rw [nmss, List.append_nil]
mutual
theorem nms_len : ∀ t : Tm, (nms t).length ≤ wt t
  | .name _ => by rw [nms, wt]; exact Nat.le_refl _
  | .node _ ts => by
    rw [nms, wt]
    have := nmss_len ts
    omega
theorem nmss_len : ∀ ts : List Tm, (nmss ts).length ≤ wts ts
  | [] => by rw [nmss, wts]; exact Nat.le_refl _
  | t :: ts => by
    rw [nmss, wts, List.length_append]
    have := nms_len t
    have := nmss_len ts
    omega
end
/-- the names of the pool -/
def Pool (K : PySem.W.Frag) (H : Hp) (p : Addr) (pl : List Str) : Prop := pl.length = 3 ∧ (∀ n ∈ pl, Nm n) ∧ H p = some (.lst (pl.map V.str))
def spPool (K : PySem.W.Frag) : Sp := fun vs H Q _ => ∃ (a : Addr) (ns : List Int), vs = [.ref a] ∧ SqL K H a (ns.map V.int) ∧ ∀ p pl H', Same H H' → Pool K H' p pl → Q (.ref p) H'
def spLeaf (K : PySem.W.Frag) : Sp := fun vs H Q _ => ∃ (c : Int) (p : Addr) (pl : List Str), vs = [.int c, .ref p] ∧ Pool K H p pl ∧ ∀ v t H', Same H H' → TAt H' t v → Fit 0 t → wt t = 1 → (∀ x ∈ nms t, x ∈ pl) → Q v H'
def spStack (K : PySem.W.Frag) : Sp := fun vs H Q _ => ∃ (c p : Addr) (ns : List Int) (pl : List Str), vs = [.ref c, .ref p] ∧ SqL K H c (ns.map V.int) ∧ ns.length ≤ 63 ∧ Pool K H p pl ∧
  ∀ a vs ts H', Same H H' → H' a = some (.lst vs) → TAts H' ts vs → ts ≠ [] → (∀ t ∈ ts, Fit 17 t) → wts ts ≤ ns.length + 1 → (∀ x ∈ nmss ts, x ∈ pl) → Q (.ref a) H'
def whole : List Tm → Tm
  | [t] => t
  | ts => .node "both" ts
def spWhole : Sp := fun vs H Q _ => ∃ (a : Addr) (vs' : List V) (ts : List Tm) (m : Nat), vs = [.ref a] ∧ H a = some (.lst vs') ∧ TAts H ts vs' ∧ ts ≠ [] ∧ (∀ t ∈ ts, Fit 17 t) ∧ wts ts ≤ m ∧ m ≤ 100 ∧ ∀ v H', Same H H' → TAt H' (whole ts) v → Fit 18 (whole ts) → wt (whole ts) ≤ m + 1 → Q v H'
theorem Pool.same {K : PySem.W.Frag} {H H' : Hp} {p : Addr} {pl : List Str} (e : Same H H') (h : Pool K H p pl) : Pool K H' p pl := ⟨h.1, h.2.1, e _ _ h.2.2⟩
section
variable {P : Program} {w : World} {K : PySem.W.Frag} {mg : Str → Option Value} {base : Heap} {f : Addr} {fd : FuncData}
theorem ok_cell (bi : Bi mg) (F : Fun K "_law_cell_at" "_law_cell_at" s_law_cell_at f fd) : FnOk P w K mg base CX0 1 f fd ["script", "k"] (spCell K) := by
  refine F.ok sc_law_cell_at (fun vs H Q E h => ?_) (fun cdv A outer s H vs Q E hr h => ?_)
  · obtain ⟨a, ns, k, rfl, _⟩ := h
    rfl
  obtain ⟨a, ns, k, rfl, hS, q⟩ := h
  refine ⟨_, (pss_cons (ps_if (pt_cmpR op_lt (pv 1) (pe_callB call_len rfl bi.len bt_len (pa_cons (pv 0) pa_nil)) (nomark _)) (pss_one (ps_ret (pe_ix ix_list (pv 0) (pv 1) (fun _ _ => rfl)))) pss_nil) (pss_one (ps_ret pe_int))), ?_⟩
  simp only [tSeq, tFor_eq, tLC_eq, iRng1, iRng2, iList, iTup, iStr, tIfS, tRet, tRetN, tNext, tAsg, gName, tVar, tC, tOp, rI0, rI, tTest, tB, rEq, rNe, tCall, tCons, tNil, tCB, tLst, tTup, tAnd, tOr, tNot, tAndV, tOrV, tNotV, tIf, tDrop, tSl, tPart, tNoPart, tChain, tUn, rU, L2.start, cx_K, bk_K, cx_calm, bk_calm, lenV_str, and_assoc, Option.join, List.length_map, List.length_append, decide_eq_true_eq, Bool.false_eq_true, if_false, if_true, Bool.not_true, Bool.not_false, Bool.not_eq_true', decide_eq_false_iff_not, Bool.true_eq_false, List.length_cons, List.length_nil, List.map_cons, List.map_nil, List.replicate, List.cons_append, List.nil_append, List.append_nil, List.getElem?_cons_zero, List.getElem?_cons_succ, List.set_cons_zero, List.set_cons_succ, Nat.reduceSub, Nat.reduceAdd, Option.some.injEq, V.int.injEq, V.str.injEq, V.bl.injEq, V.ref.injEq, List.cons.injEq, and_true, true_and, exists_eq_left', exists_eq_left, exists_and_left, exists_eq_right, exists_const]
  refine ⟨_, .inl ⟨_, hS, rfl⟩, ?_⟩
  split
  · rename_i hk
    rw [List.length_map] at hk
    exact ⟨a, _, k, _, rfl, rfl, hS, ix_nat hk, q⟩
  · rename_i hk
    rw [List.length_map] at hk
    rw [List.getD_eq_getElem?_getD, List.getElem?_eq_none (by omega)] at q
    exact q
/-- a letter at a place -/
theorem letter_at (c : Int) : ∃ d : Nat, atI ("abcdefghijklmnopqrstuvwxyz" : Str).cps.toList (c % 26) = some d ∧ 97 ≤ d ∧ d ≤ 122 := by
  have h : ∀ k : Fin 26, ∃ d : Nat, ("abcdefghijklmnopqrstuvwxyz" : Str).cps.toList[k.val]? = some d ∧ 97 ≤ d ∧ d ≤ 122 := by decide +kernel
  have h1 : 0 ≤ c % 26 := Int.emod_nonneg _ (by omega)
  have h2 : c % 26 < 26 := Int.emod_lt_of_pos _ (by omega)
  have e : c % 26 = ((c % 26).toNat : Nat) := by omega
  obtain ⟨d, h3, h4⟩ := h ⟨(c % 26).toNat, by omega⟩
  refine ⟨d, ?_, h4⟩
  rw [e]
  exact atI_nat h3
theorem ok_name (bi : Bi mg) (F : Fun K "_law_name_by" "_law_name_by" s_law_name_by f fd) : FnOk P w K mg base CX0 1 f fd ["cell", "size"] spName := by
  refine F.ok sc_law_name_by (fun vs H Q E h => ?_) (fun cdv A outer s H vs Q E hr h => ?_)
  · obtain ⟨c, n, rfl, _⟩ := h
    rfl
  obtain ⟨c, n, rfl, q⟩ := h
  refine ⟨_, (pss_cons (ps_set (i := 2) sc_law_name_by.nd rfl (Or.inl rfl) pe_str) (pss_cons (ps_set (i := 3) sc_law_name_by.nd rfl (Or.inl rfl) pe_str) (pss_cons (ps_set (i := 4) sc_law_name_by.nd rfl (Or.inl rfl) (pe_op op_mod (pv 0) (pe_op op_pow pe_int pe_int))) (pss_cons (ps_for PassesOwn.never rfl (pi_range1 rfl bi.range (pa_cons (pe_op op_add pe_int (pe_op op_mod (pv 1) pe_int)) pa_nil)) (pg_name (i := 5) sc_law_name_by.nd rfl (Or.inl rfl)) (pss_cons (ps_set (i := 3) sc_law_name_by.nd rfl (Or.inl rfl) (pe_op op_add_str (pv 3) (pe_ix ix_str (pv 2) (pe_op op_mod (pv 4) pe_int) (fun _ _ => rfl)))) (pss_one (ps_set (i := 4) sc_law_name_by.nd rfl (Or.inl rfl) (pe_op op_fdiv (pv 4) pe_int))))) (pss_cons (ps_if (PW.pt (pw_or (pt_cmpR op_eq (pv 3) pe_str (nomark _)) (pw_or1 (pt_cmpR op_eq (pv 3) pe_str (nomark _))))) (pss_one (ps_set (i := 3) sc_law_name_by.nd rfl (Or.inl rfl) (pe_op op_add_str (pv 3) pe_str))) pss_nil) (pss_one (ps_ret (pv 3)))))))), ?_⟩
  refine seq_abs fun N hN => ?_
  simp only [tSeq, tFor_eq, tLC_eq, iRng1, iRng2, iList, iTup, iStr, tIfS, tRet, tRetN, tNext, tAsg, gName, tVar, tC, tOp, rI0, rI, tTest, tB, rEq, rNe, tCall, tCons, tNil, tCB, tLst, tTup, tAnd, tOr, tNot, tAndV, tOrV, tNotV, tIf, tDrop, tSl, tPart, tNoPart, tChain, tUn, rU, L2.start, cx_K, bk_K, cx_calm, bk_calm, lenV_str, and_assoc, Option.join, List.length_map, List.length_append, decide_eq_true_eq, Bool.false_eq_true, if_false, if_true, Bool.not_true, Bool.not_false, Bool.not_eq_true', decide_eq_false_iff_not, Bool.true_eq_false, List.length_cons, List.length_nil, List.map_cons, List.map_nil, List.replicate, List.cons_append, List.nil_append, List.append_nil, List.getElem?_cons_zero, List.getElem?_cons_succ, List.set_cons_zero, List.set_cons_succ, Nat.reduceSub, Nat.reduceAdd, Option.some.injEq, V.int.injEq, V.str.injEq, V.bl.injEq, V.ref.injEq, List.cons.injEq, and_true, true_and, exists_eq_left', exists_eq_left, exists_and_left, exists_eq_right, exists_const]
  refine hN _ _ ?_
  refine seq_abs fun N hN => ?_
  simp only [tSeq, tFor_eq, tLC_eq, iRng1, iRng2, iList, iTup, iStr, tIfS, tRet, tRetN, tNext, tAsg, gName, tVar, tC, tOp, rI0, rI, tTest, tB, rEq, rNe, tCall, tCons, tNil, tCB, tLst, tTup, tAnd, tOr, tNot, tAndV, tOrV, tNotV, tIf, tDrop, tSl, tPart, tNoPart, tChain, tUn, rU, L2.start, cx_K, bk_K, cx_calm, bk_calm, lenV_str, and_assoc, Option.join, List.length_map, List.length_append, decide_eq_true_eq, Bool.false_eq_true, if_false, if_true, Bool.not_true, Bool.not_false, Bool.not_eq_true', decide_eq_false_iff_not, Bool.true_eq_false, List.length_cons, List.length_nil, List.map_cons, List.map_nil, List.replicate, List.cons_append, List.nil_append, List.append_nil, List.getElem?_cons_zero, List.getElem?_cons_succ, List.set_cons_zero, List.set_cons_succ, Nat.reduceSub, Nat.reduceAdd, Option.some.injEq, V.int.injEq, V.str.injEq, V.bl.injEq, V.ref.injEq, List.cons.injEq, and_true, true_and, exists_eq_left', exists_eq_left, exists_and_left, exists_eq_right, exists_const]
  refine hN _ _ ?_
  refine seq_abs fun N hN => ?_
  simp only [tSeq, tFor_eq, tLC_eq, iRng1, iRng2, iList, iTup, iStr, tIfS, tRet, tRetN, tNext, tAsg, gName, tVar, tC, tOp, rI0, rI, tTest, tB, rEq, rNe, tCall, tCons, tNil, tCB, tLst, tTup, tAnd, tOr, tNot, tAndV, tOrV, tNotV, tIf, tDrop, tSl, tPart, tNoPart, tChain, tUn, rU, L2.start, cx_K, bk_K, cx_calm, bk_calm, lenV_str, and_assoc, Option.join, List.length_map, List.length_append, decide_eq_true_eq, Bool.false_eq_true, if_false, if_true, Bool.not_true, Bool.not_false, Bool.not_eq_true', decide_eq_false_iff_not, Bool.true_eq_false, List.length_cons, List.length_nil, List.map_cons, List.map_nil, List.replicate, List.cons_append, List.nil_append, List.append_nil, List.getElem?_cons_zero, List.getElem?_cons_succ, List.set_cons_zero, List.set_cons_succ, Nat.reduceSub, Nat.reduceAdd, Option.some.injEq, V.int.injEq, V.str.injEq, V.bl.injEq, V.ref.injEq, List.cons.injEq, and_true, true_and, exists_eq_left', exists_eq_left, exists_and_left, exists_eq_right, exists_const]
  refine ⟨⟨by decide, by decide, by decide⟩, by decide, hN _ _ ?_⟩
  generalize c % 26 ^ Int.toNat 8 = r0
  have hm : 0 ≤ n % 8 ∧ n % 8 < 8 := by omega
  have e0 : ("" : Str).cps.toList = [] := by decide +kernel
  refine seq_join (fun σ H' => H' = H ∧ ∃ (z : Str) (a b : Option V), z.length = 1 + (n % 8).toNat ∧ (∀ d ∈ z.cps.toList, 97 ≤ d ∧ d ≤ 122) ∧ σ = [some (V.int c), some (V.int n), some (V.str "abcdefghijklmnopqrstuvwxyz"), some (V.str z), a, b]) (fun N hN => ?_) (fun σ H' h => ?_)
  · simp only [tSeq, tFor_eq, tLC_eq, iRng1, iRng2, iList, iTup, iStr, tIfS, tRet, tRetN, tNext, tAsg, gName, tVar, tC, tOp, rI0, rI, tTest, tB, rEq, rNe, tCall, tCons, tNil, tCB, tLst, tTup, tAnd, tOr, tNot, tAndV, tOrV, tNotV, tIf, tDrop, tSl, tPart, tNoPart, tChain, tUn, rU, L2.start, cx_K, bk_K, cx_calm, bk_calm, lenV_str, and_assoc, Option.join, List.length_map, List.length_append, decide_eq_true_eq, Bool.false_eq_true, if_false, if_true, Bool.not_true, Bool.not_false, Bool.not_eq_true', decide_eq_false_iff_not, Bool.true_eq_false, List.length_cons, List.length_nil, List.map_cons, List.map_nil, List.replicate, List.cons_append, List.nil_append, List.append_nil, List.getElem?_cons_zero, List.getElem?_cons_succ, List.set_cons_zero, List.set_cons_succ, Nat.reduceSub, Nat.reduceAdd, Option.some.injEq, V.int.injEq, V.str.injEq, V.bl.injEq, V.ref.injEq, List.cons.injEq, and_true, true_and, exists_eq_left', exists_eq_left, exists_and_left, exists_eq_right, exists_const]
    refine ⟨by decide, by omega, by omega, fw_range (n := (1 + n % 8).toNat) (fun i σ H' => H' = H ∧ ∃ (z : Str) (r : Int) (o : Option V), z.length = i ∧ (∀ d ∈ z.cps.toList, 97 ≤ d ∧ d ≤ 122) ∧ σ = [some (V.int c), some (V.int n), some (V.str "abcdefghijklmnopqrstuvwxyz"), some (V.str z), some (V.int r), o])
      ⟨rfl, _, _, _, rfl, (fun d hd => by rw [e0] at hd; cases hd), rfl⟩ (fun i σ H' hi e => ?_) (fun σ H' e => ?_)⟩
    · obtain ⟨rfl, z, r, o, hz, hl, rfl⟩ := e
      obtain ⟨d, hd, hd2⟩ := letter_at r
      simp only [tSeq, tFor_eq, tLC_eq, iRng1, iRng2, iList, iTup, iStr, tIfS, tRet, tRetN, tNext, tAsg, gName, tVar, tC, tOp, rI0, rI, tTest, tB, rEq, rNe, tCall, tCons, tNil, tCB, tLst, tTup, tAnd, tOr, tNot, tAndV, tOrV, tNotV, tIf, tDrop, tSl, tPart, tNoPart, tChain, tUn, rU, L2.start, cx_K, bk_K, cx_calm, bk_calm, lenV_str, and_assoc, Option.join, List.length_map, List.length_append, decide_eq_true_eq, Bool.false_eq_true, if_false, if_true, Bool.not_true, Bool.not_false, Bool.not_eq_true', decide_eq_false_iff_not, Bool.true_eq_false, List.length_cons, List.length_nil, List.map_cons, List.map_nil, List.replicate, List.cons_append, List.nil_append, List.append_nil, List.getElem?_cons_zero, List.getElem?_cons_succ, List.set_cons_zero, List.set_cons_succ, Nat.reduceSub, Nat.reduceAdd, Option.some.injEq, V.int.injEq, V.str.injEq, V.bl.injEq, V.ref.injEq, List.cons.injEq, and_true, true_and, exists_eq_left', exists_eq_left, exists_and_left, exists_eq_right, exists_const]
      refine ⟨by decide, _, _, d, rfl, rfl, small (by decide +kernel), hd, ?_⟩
      have e1 : (⟨#[d]⟩ : Str).length = 1 := rfl
      refine ⟨_, rfl, small (by omega), ⟨by decide, by decide⟩, rfl, _, ?_, ?_, rfl, _, rfl⟩
      · rw [len_app, hz, e1]
      · intro d' hd'
        rw [cps_app] at hd'
        rcases List.mem_append.mp hd' with h | h
        · exact hl d' h
        · have h : d' ∈ [d] := h
          rw [List.mem_singleton.mp h]
          exact hd2
    · obtain ⟨rfl, z, r, o, hz, hl, rfl⟩ := e
      exact hN _ _ ⟨rfl, z, _, _, by omega, hl, rfl⟩
  · obtain ⟨rfl, z, a, b, hz, hl, rfl⟩ := h
    refine seq_join (fun σ H'' => H'' = H' ∧ ∃ (z : Str) (a b : Option V), Nm z ∧ σ = [some (V.int c), some (V.int n), some (V.str "abcdefghijklmnopqrstuvwxyz"), some (V.str z), a, b]) (fun N hN => ?_) (fun σ H'' h => ?_)
    · simp only [tSeq, tFor_eq, tLC_eq, iRng1, iRng2, iList, iTup, iStr, tIfS, tRet, tRetN, tNext, tAsg, gName, tVar, tC, tOp, rI0, rI, tTest, tB, rEq, rNe, tCall, tCons, tNil, tCB, tLst, tTup, tAnd, tOr, tNot, tAndV, tOrV, tNotV, tIf, tDrop, tSl, tPart, tNoPart, tChain, tUn, rU, L2.start, cx_K, bk_K, cx_calm, bk_calm, lenV_str, and_assoc, Option.join, List.length_map, List.length_append, decide_eq_true_eq, Bool.false_eq_true, if_false, if_true, Bool.not_true, Bool.not_false, Bool.not_eq_true', decide_eq_false_iff_not, Bool.true_eq_false, List.length_cons, List.length_nil, List.map_cons, List.map_nil, List.replicate, List.cons_append, List.nil_append, List.append_nil, List.getElem?_cons_zero, List.getElem?_cons_succ, List.set_cons_zero, List.set_cons_succ, Nat.reduceSub, Nat.reduceAdd, Option.some.injEq, V.int.injEq, V.str.injEq, V.bl.injEq, V.ref.injEq, List.cons.injEq, and_true, true_and, exists_eq_left', exists_eq_left, exists_and_left, exists_eq_right, exists_const]
      refine ⟨rfl, ?_⟩
      have fin : ∀ z : Str, Nm z → N [some (V.int c), some (V.int n), some (V.str "abcdefghijklmnopqrstuvwxyz"), some (V.str z), a, b] H' := fun z h => hN _ _ ⟨rfl, z, _, _, h, rfl⟩
      split
      · rename_i e
        subst e
        refine ⟨small (by decide +kernel), fin _ ?_⟩
        exact ⟨by decide +kernel, by decide +kernel, by decide +kernel, by decide +kernel, by decide +kernel⟩
      · rename_i e
        refine ⟨rfl, ?_⟩
        split
        · rename_i e
          subst e
          refine ⟨small (by decide +kernel), fin _ ?_⟩
          exact ⟨by decide +kernel, by decide +kernel, by decide +kernel, by decide +kernel, by decide +kernel⟩
        · rename_i e2
          exact fin z ⟨by omega, by omega, hl, e, e2⟩
    · obtain ⟨rfl, z, a, b, hz, rfl⟩ := h
      simp only [tSeq, tFor_eq, tLC_eq, iRng1, iRng2, iList, iTup, iStr, tIfS, tRet, tRetN, tNext, tAsg, gName, tVar, tC, tOp, rI0, rI, tTest, tB, rEq, rNe, tCall, tCons, tNil, tCB, tLst, tTup, tAnd, tOr, tNot, tAndV, tOrV, tNotV, tIf, tDrop, tSl, tPart, tNoPart, tChain, tUn, rU, L2.start, cx_K, bk_K, cx_calm, bk_calm, lenV_str, and_assoc, Option.join, List.length_map, List.length_append, decide_eq_true_eq, Bool.false_eq_true, if_false, if_true, Bool.not_true, Bool.not_false, Bool.not_eq_true', decide_eq_false_iff_not, Bool.true_eq_false, List.length_cons, List.length_nil, List.map_cons, List.map_nil, List.replicate, List.cons_append, List.nil_append, List.append_nil, List.getElem?_cons_zero, List.getElem?_cons_succ, List.set_cons_zero, List.set_cons_succ, Nat.reduceSub, Nat.reduceAdd, Option.some.injEq, V.int.injEq, V.str.injEq, V.bl.injEq, V.ref.injEq, List.cons.injEq, and_true, true_and, exists_eq_left', exists_eq_left, exists_and_left, exists_eq_right, exists_const]
      exact q z hz
theorem ok_pool (bi : Bi mg) (h_law_cell_at : Has P w K mg base 1 "_law_cell_at" ["script", "k"] (spCell K)) (h_law_name_by : Has P w K mg base 1 "_law_name_by" ["cell", "size"] spName)
    (F : Fun K "_law_pool" "_law_pool" s_law_pool f fd) : FnOk P w K mg base CX0 2 f fd ["script"] (spPool K) := by
  refine F.ok sc_law_pool (fun vs H Q E h => ?_) (fun cdv A outer s H vs Q E hr h => ?_)
  · obtain ⟨a, ns, rfl, _⟩ := h
    rfl
  obtain ⟨a, ns, rfl, hS, q⟩ := h
  refine ⟨_, (pss_cons (ps_set (i := 1) sc_law_pool.nd rfl (Or.inl rfl) (pe_callH h_law_cell_at (hr.mono (by omega)) rfl (pa_cons (pv 0) (pa_cons pe_int pa_nil)))) (pss_cons (ps_set (i := 2) sc_law_pool.nd rfl (Or.inl rfl) (pe_callH h_law_cell_at (hr.mono (by omega)) rfl (pa_cons (pv 0) (pa_cons pe_int pa_nil)))) (pss_cons (ps_set (i := 3) sc_law_pool.nd rfl (Or.inl rfl) (pe_callH h_law_cell_at (hr.mono (by omega)) rfl (pa_cons (pv 0) (pa_cons pe_int pa_nil)))) (pss_cons (ps_set (i := 4) sc_law_pool.nd rfl (Or.inl rfl) (pe_lst (pa_cons (pe_callH h_law_name_by (hr.mono (by omega)) rfl (pa_cons (pv 1) (pa_cons (pe_op op_mod (pe_op op_fdiv (pv 1) pe_int) pe_int) pa_nil))) (pa_cons (pe_callH h_law_name_by (hr.mono (by omega)) rfl (pa_cons (pv 2) (pa_cons (pe_op op_mod (pe_op op_fdiv (pv 2) pe_int) pe_int) pa_nil))) pa_nil)))) (pss_cons (ps_if (pt_cmpR op_eq (pe_op op_mod (pv 3) pe_int) pe_int (nomark _)) (pss_one (ps_expr (pe_bm PySem.F.plainAttrs_list PySem.F.slot_list_append PySem.F.type_list_append mt_append (pv 4) (pa_cons (pe_callH h_law_name_by (hr.mono (by omega)) rfl (pa_cons (pv 1) (pa_cons (pe_op op_add (pe_op op_mod (pe_op op_fdiv (pv 1) pe_int) pe_int) pe_int) pa_nil))) pa_nil)))) (pss_one (ps_expr (pe_bm PySem.F.plainAttrs_list PySem.F.slot_list_append PySem.F.type_list_append mt_append (pv 4) (pa_cons (pe_callH h_law_name_by (hr.mono (by omega)) rfl (pa_cons (pe_op op_fdiv (pv 3) pe_int) (pa_cons (pe_op op_mod (pe_op op_fdiv (pv 3) pe_int) pe_int) pa_nil))) pa_nil))))) (pss_one (ps_ret (pv 4)))))))), ?_⟩
  refine seq_abs fun N hN => ?_
  simp only [tSeq, tFor_eq, tLC_eq, iRng1, iRng2, iList, iTup, iStr, tIfS, tRet, tRetN, tNext, tAsg, gName, tVar, tC, tOp, rI0, rI, tTest, tB, rEq, rNe, tCall, tCons, tNil, tCB, tLst, tTup, tAnd, tOr, tNot, tAndV, tOrV, tNotV, tIf, tDrop, tSl, tPart, tNoPart, tChain, tUn, rU, L2.start, cx_K, bk_K, cx_calm, bk_calm, lenV_str, and_assoc, Option.join, List.length_map, List.length_append, decide_eq_true_eq, Bool.false_eq_true, if_false, if_true, Bool.not_true, Bool.not_false, Bool.not_eq_true', decide_eq_false_iff_not, Bool.true_eq_false, List.length_cons, List.length_nil, List.map_cons, List.map_nil, List.replicate, List.cons_append, List.nil_append, List.append_nil, List.getElem?_cons_zero, List.getElem?_cons_succ, List.set_cons_zero, List.set_cons_succ, Nat.reduceSub, Nat.reduceAdd, Option.some.injEq, V.int.injEq, V.str.injEq, V.bl.injEq, V.ref.injEq, List.cons.injEq, and_true, true_and, exists_eq_left', exists_eq_left, exists_and_left, exists_eq_right, exists_const, spCell]
  refine ⟨ns, 0, rfl, hS, hN _ _ ?_⟩
  refine seq_abs fun N hN => ?_
  simp only [tSeq, tFor_eq, tLC_eq, iRng1, iRng2, iList, iTup, iStr, tIfS, tRet, tRetN, tNext, tAsg, gName, tVar, tC, tOp, rI0, rI, tTest, tB, rEq, rNe, tCall, tCons, tNil, tCB, tLst, tTup, tAnd, tOr, tNot, tAndV, tOrV, tNotV, tIf, tDrop, tSl, tPart, tNoPart, tChain, tUn, rU, L2.start, cx_K, bk_K, cx_calm, bk_calm, lenV_str, and_assoc, Option.join, List.length_map, List.length_append, decide_eq_true_eq, Bool.false_eq_true, if_false, if_true, Bool.not_true, Bool.not_false, Bool.not_eq_true', decide_eq_false_iff_not, Bool.true_eq_false, List.length_cons, List.length_nil, List.map_cons, List.map_nil, List.replicate, List.cons_append, List.nil_append, List.append_nil, List.getElem?_cons_zero, List.getElem?_cons_succ, List.set_cons_zero, List.set_cons_succ, Nat.reduceSub, Nat.reduceAdd, Option.some.injEq, V.int.injEq, V.str.injEq, V.bl.injEq, V.ref.injEq, List.cons.injEq, and_true, true_and, exists_eq_left', exists_eq_left, exists_and_left, exists_eq_right, exists_const, spCell]
  refine ⟨ns, 1, rfl, hS, hN _ _ ?_⟩
  refine seq_abs fun N hN => ?_
  simp only [tSeq, tFor_eq, tLC_eq, iRng1, iRng2, iList, iTup, iStr, tIfS, tRet, tRetN, tNext, tAsg, gName, tVar, tC, tOp, rI0, rI, tTest, tB, rEq, rNe, tCall, tCons, tNil, tCB, tLst, tTup, tAnd, tOr, tNot, tAndV, tOrV, tNotV, tIf, tDrop, tSl, tPart, tNoPart, tChain, tUn, rU, L2.start, cx_K, bk_K, cx_calm, bk_calm, lenV_str, and_assoc, Option.join, List.length_map, List.length_append, decide_eq_true_eq, Bool.false_eq_true, if_false, if_true, Bool.not_true, Bool.not_false, Bool.not_eq_true', decide_eq_false_iff_not, Bool.true_eq_false, List.length_cons, List.length_nil, List.map_cons, List.map_nil, List.replicate, List.cons_append, List.nil_append, List.append_nil, List.getElem?_cons_zero, List.getElem?_cons_succ, List.set_cons_zero, List.set_cons_succ, Nat.reduceSub, Nat.reduceAdd, Option.some.injEq, V.int.injEq, V.str.injEq, V.bl.injEq, V.ref.injEq, List.cons.injEq, and_true, true_and, exists_eq_left', exists_eq_left, exists_and_left, exists_eq_right, exists_const, spCell]
  refine ⟨ns, 2, rfl, hS, hN _ _ ?_⟩
  generalize ns.getD 0 0 = x0
  generalize ns.getD 1 0 = x1
  generalize ns.getD 2 0 = x2
  refine seq_abs fun N hN => ?_
  simp only [tSeq, tFor_eq, tLC_eq, iRng1, iRng2, iList, iTup, iStr, tIfS, tRet, tRetN, tNext, tAsg, gName, tVar, tC, tOp, rI0, rI, tTest, tB, rEq, rNe, tCall, tCons, tNil, tCB, tLst, tTup, tAnd, tOr, tNot, tAndV, tOrV, tNotV, tIf, tDrop, tSl, tPart, tNoPart, tChain, tUn, rU, L2.start, cx_K, bk_K, cx_calm, bk_calm, lenV_str, and_assoc, Option.join, List.length_map, List.length_append, decide_eq_true_eq, Bool.false_eq_true, if_false, if_true, Bool.not_true, Bool.not_false, Bool.not_eq_true', decide_eq_false_iff_not, Bool.true_eq_false, List.length_cons, List.length_nil, List.map_cons, List.map_nil, List.replicate, List.cons_append, List.nil_append, List.append_nil, List.getElem?_cons_zero, List.getElem?_cons_succ, List.set_cons_zero, List.set_cons_succ, Nat.reduceSub, Nat.reduceAdd, Option.some.injEq, V.int.injEq, V.str.injEq, V.bl.injEq, V.ref.injEq, List.cons.injEq, and_true, true_and, exists_eq_left', exists_eq_left, exists_and_left, exists_eq_right, exists_const, spName]
  refine ⟨⟨by decide, by decide⟩, by decide, fun n1 g1 => ⟨⟨by decide, by decide⟩, by decide, fun n2 g2 => ⟨small (by decide), fun p hp => hN _ _ ?_⟩⟩⟩
  refine seq_join (fun σ H' => Same H H' ∧ (∃ pl, Pool K H' p pl) ∧ ∃ a b c d : Option V, σ = [a, b, c, d, some (V.ref p)]) (fun N hN => ?_) (fun σ H' h => ?_)
  · simp only [tSeq, tFor_eq, tLC_eq, iRng1, iRng2, iList, iTup, iStr, tIfS, tRet, tRetN, tNext, tAsg, gName, tVar, tC, tOp, rI0, rI, tTest, tB, rEq, rNe, tCall, tCons, tNil, tCB, tLst, tTup, tAnd, tOr, tNot, tAndV, tOrV, tNotV, tIf, tDrop, tSl, tPart, tNoPart, tChain, tUn, rU, L2.start, cx_K, bk_K, cx_calm, bk_calm, lenV_str, and_assoc, Option.join, List.length_map, List.length_append, decide_eq_true_eq, Bool.false_eq_true, if_false, if_true, Bool.not_true, Bool.not_false, Bool.not_eq_true', decide_eq_false_iff_not, Bool.true_eq_false, List.length_cons, List.length_nil, List.map_cons, List.map_nil, List.replicate, List.cons_append, List.nil_append, List.append_nil, List.getElem?_cons_zero, List.getElem?_cons_succ, List.set_cons_zero, List.set_cons_succ, Nat.reduceSub, Nat.reduceAdd, Option.some.injEq, V.int.injEq, V.str.injEq, V.bl.injEq, V.ref.injEq, List.cons.injEq, and_true, true_and, exists_eq_left', exists_eq_left, exists_and_left, exists_eq_right, exists_const, spName]
    have fin : ∀ n3 : Str, Nm n3 → Same H (upd (upd H p (HO.lst [V.str n1, V.str n2])) p (HO.lst ([V.str n1, V.str n2] ++ [V.str n3]))) ∧ ∃ pl, Pool K (upd (upd H p (HO.lst [V.str n1, V.str n2])) p (HO.lst ([V.str n1, V.str n2] ++ [V.str n3]))) p pl := fun n3 g3 => by
      rw [upd_upd]
      exact ⟨same_new hp _, [n1, n2, n3], rfl, fun n hn => by simp at hn; rcases hn with rfl | rfl | rfl <;> assumption, upd_same⟩
    have ty : tyV K "list" (V.ref p) (upd H p (HO.lst [V.str n1, V.str n2])) := .inl ⟨rfl, _, SqL.of upd_same⟩
    refine ⟨by decide, rfl, ?_⟩
    split
    · refine ⟨_, rfl, ty, ?_⟩
      simp only [tSeq, tFor_eq, tLC_eq, iRng1, iRng2, iList, iTup, iStr, tIfS, tRet, tRetN, tNext, tAsg, gName, tVar, tC, tOp, rI0, rI, tTest, tB, rEq, rNe, tCall, tCons, tNil, tCB, tLst, tTup, tAnd, tOr, tNot, tAndV, tOrV, tNotV, tIf, tDrop, tSl, tPart, tNoPart, tChain, tUn, rU, L2.start, cx_K, bk_K, cx_calm, bk_calm, lenV_str, and_assoc, Option.join, List.length_map, List.length_append, decide_eq_true_eq, Bool.false_eq_true, if_false, if_true, Bool.not_true, Bool.not_false, Bool.not_eq_true', decide_eq_false_iff_not, Bool.true_eq_false, List.length_cons, List.length_nil, List.map_cons, List.map_nil, List.replicate, List.cons_append, List.nil_append, List.append_nil, List.getElem?_cons_zero, List.getElem?_cons_succ, List.set_cons_zero, List.set_cons_succ, Nat.reduceSub, Nat.reduceAdd, Option.some.injEq, V.int.injEq, V.str.injEq, V.bl.injEq, V.ref.injEq, List.cons.injEq, and_true, true_and, exists_eq_left', exists_eq_left, exists_and_left, exists_eq_right, exists_const, spName]
      refine ⟨⟨by decide, by decide⟩, by decide, fun n3 g3 => ?_⟩
      exact ⟨p, _, _, rfl, rfl, upd_same, (by show 2 < sizeLine; decide), hN _ _ ⟨(fin n3 g3).1, (fin n3 g3).2, _, _, _, _, rfl⟩⟩
    · refine ⟨_, rfl, ty, ?_⟩
      simp only [tSeq, tFor_eq, tLC_eq, iRng1, iRng2, iList, iTup, iStr, tIfS, tRet, tRetN, tNext, tAsg, gName, tVar, tC, tOp, rI0, rI, tTest, tB, rEq, rNe, tCall, tCons, tNil, tCB, tLst, tTup, tAnd, tOr, tNot, tAndV, tOrV, tNotV, tIf, tDrop, tSl, tPart, tNoPart, tChain, tUn, rU, L2.start, cx_K, bk_K, cx_calm, bk_calm, lenV_str, and_assoc, Option.join, List.length_map, List.length_append, decide_eq_true_eq, Bool.false_eq_true, if_false, if_true, Bool.not_true, Bool.not_false, Bool.not_eq_true', decide_eq_false_iff_not, Bool.true_eq_false, List.length_cons, List.length_nil, List.map_cons, List.map_nil, List.replicate, List.cons_append, List.nil_append, List.append_nil, List.getElem?_cons_zero, List.getElem?_cons_succ, List.set_cons_zero, List.set_cons_succ, Nat.reduceSub, Nat.reduceAdd, Option.some.injEq, V.int.injEq, V.str.injEq, V.bl.injEq, V.ref.injEq, List.cons.injEq, and_true, true_and, exists_eq_left', exists_eq_left, exists_and_left, exists_eq_right, exists_const, spName]
      refine ⟨⟨by decide, by decide⟩, ⟨by decide, by decide⟩, by decide, fun n3 g3 => ?_⟩
      exact ⟨p, _, _, rfl, rfl, upd_same, (by show 2 < sizeLine; decide), hN _ _ ⟨(fin n3 g3).1, (fin n3 g3).2, _, _, _, _, rfl⟩⟩
  · obtain ⟨e, ⟨pl, hp2⟩, a', b, c, d, rfl⟩ := h
    simp only [tSeq, tFor_eq, tLC_eq, iRng1, iRng2, iList, iTup, iStr, tIfS, tRet, tRetN, tNext, tAsg, gName, tVar, tC, tOp, rI0, rI, tTest, tB, rEq, rNe, tCall, tCons, tNil, tCB, tLst, tTup, tAnd, tOr, tNot, tAndV, tOrV, tNotV, tIf, tDrop, tSl, tPart, tNoPart, tChain, tUn, rU, L2.start, cx_K, bk_K, cx_calm, bk_calm, lenV_str, and_assoc, Option.join, List.length_map, List.length_append, decide_eq_true_eq, Bool.false_eq_true, if_false, if_true, Bool.not_true, Bool.not_false, Bool.not_eq_true', decide_eq_false_iff_not, Bool.true_eq_false, List.length_cons, List.length_nil, List.map_cons, List.map_nil, List.replicate, List.cons_append, List.nil_append, List.append_nil, List.getElem?_cons_zero, List.getElem?_cons_succ, List.set_cons_zero, List.set_cons_succ, Nat.reduceSub, Nat.reduceAdd, Option.some.injEq, V.int.injEq, V.str.injEq, V.bl.injEq, V.ref.injEq, List.cons.injEq, and_true, true_and, exists_eq_left', exists_eq_left, exists_and_left, exists_eq_right, exists_const]
    exact q p pl H' e hp2
theorem ok_leaf (bi : Bi mg) (F : Fun K "_law_leaf" "_law_leaf" s_law_leaf f fd) : FnOk P w K mg base CX0 1 f fd ["cell", "pool"] (spLeaf K) := by
  refine F.ok sc_law_leaf (fun vs H Q E h => ?_) (fun cdv A outer s H vs Q E hr h => ?_)
  · obtain ⟨c, p, pl, rfl, _⟩ := h
    rfl
  obtain ⟨c, p, pl, rfl, ⟨h3, gp, hp⟩, q⟩ := h
  refine ⟨_, (pss_cons (ps_set (i := 2) sc_law_leaf.nd rfl (Or.inl rfl) (pe_op op_mod (pv 0) pe_int)) (pss_cons (ps_if (pt_cmpR op_eq (pv 2) pe_int (nomark _)) (pss_one (ps_ret (pe_tup (pa_cons pe_str pa_nil)))) pss_nil) (pss_cons (ps_if (pt_cmpR op_eq (pv 2) pe_int (nomark _)) (pss_one (ps_ret (pe_tup (pa_cons pe_str pa_nil)))) pss_nil) (pss_one (ps_ret (pe_tup (pa_cons pe_str (pa_cons (pe_ix ix_list (pv 1) (pe_op op_mod (pe_op op_fdiv (pv 0) pe_int) (pe_callB call_len rfl bi.len bt_len (pa_cons (pv 1) pa_nil))) (fun _ _ => rfl)) pa_nil)))))))), ?_⟩
  have leaf : ∀ (w : Str), Sh w 0 → ∀ a, H a = none → Q (.ref a) (upd H a (.tup [.str w])) := fun w hw a ha =>
    q (.ref a) (.node w []) _ (same_new ha _) (TAt.mkNode upd_same rfl) ⟨hw, rfl⟩ rfl (fun x hx => by simp [nms, nmss] at hx)
  refine seq_abs fun N hN => ?_
  simp only [tSeq, tFor_eq, tLC_eq, iRng1, iRng2, iList, iTup, iStr, tIfS, tRet, tRetN, tNext, tAsg, gName, tVar, tC, tOp, rI0, rI, tTest, tB, rEq, rNe, tCall, tCons, tNil, tCB, tLst, tTup, tAnd, tOr, tNot, tAndV, tOrV, tNotV, tIf, tDrop, tSl, tPart, tNoPart, tChain, tUn, rU, L2.start, cx_K, bk_K, cx_calm, bk_calm, lenV_str, and_assoc, Option.join, List.length_map, List.length_append, decide_eq_true_eq, Bool.false_eq_true, if_false, if_true, Bool.not_true, Bool.not_false, Bool.not_eq_true', decide_eq_false_iff_not, Bool.true_eq_false, List.length_cons, List.length_nil, List.map_cons, List.map_nil, List.replicate, List.cons_append, List.nil_append, List.append_nil, List.getElem?_cons_zero, List.getElem?_cons_succ, List.set_cons_zero, List.set_cons_succ, Nat.reduceSub, Nat.reduceAdd, Option.some.injEq, V.int.injEq, V.str.injEq, V.bl.injEq, V.ref.injEq, List.cons.injEq, and_true, true_and, exists_eq_left', exists_eq_left, exists_and_left, exists_eq_right, exists_const]
  refine ⟨by decide, hN _ _ ?_⟩
  simp only [tSeq, tFor_eq, tLC_eq, iRng1, iRng2, iList, iTup, iStr, tIfS, tRet, tRetN, tNext, tAsg, gName, tVar, tC, tOp, rI0, rI, tTest, tB, rEq, rNe, tCall, tCons, tNil, tCB, tLst, tTup, tAnd, tOr, tNot, tAndV, tOrV, tNotV, tIf, tDrop, tSl, tPart, tNoPart, tChain, tUn, rU, L2.start, cx_K, bk_K, cx_calm, bk_calm, lenV_str, and_assoc, Option.join, List.length_map, List.length_append, decide_eq_true_eq, Bool.false_eq_true, if_false, if_true, Bool.not_true, Bool.not_false, Bool.not_eq_true', decide_eq_false_iff_not, Bool.true_eq_false, List.length_cons, List.length_nil, List.map_cons, List.map_nil, List.replicate, List.cons_append, List.nil_append, List.append_nil, List.getElem?_cons_zero, List.getElem?_cons_succ, List.set_cons_zero, List.set_cons_succ, Nat.reduceSub, Nat.reduceAdd, Option.some.injEq, V.int.injEq, V.str.injEq, V.bl.injEq, V.ref.injEq, List.cons.injEq, and_true, true_and, exists_eq_left', exists_eq_left, exists_and_left, exists_eq_right, exists_const]
  refine ⟨rfl, ?_⟩
  split
  · exact ⟨small (by decide), fun a ha => leaf _ (.inl ⟨rfl, rfl⟩) a ha⟩
  refine ⟨rfl, ?_⟩
  split
  · exact ⟨small (by decide), fun a ha => leaf _ (.inr (.inl ⟨rfl, rfl⟩)) a ha⟩
  refine ⟨⟨by decide, by decide⟩, 3, .inl ⟨_, SqL.of hp, by rw [List.length_map, h3]⟩, by decide, ?_⟩
  obtain ⟨n, gn, hn⟩ : ∃ n : Str, n ∈ pl ∧ atI (pl.map V.str) (c / 8 % 3) = some (.str n) := by
    have h4 : 0 ≤ c / 8 % 3 ∧ c / 8 % 3 < 3 := by omega
    generalize c / 8 % 3 = k at h4
    obtain ⟨k, rfl⟩ : ∃ k' : Nat, k = (k' : Int) := ⟨k.toNat, by omega⟩
    have hk : k < pl.length := by omega
    exact ⟨pl[k], List.getElem_mem hk, atI_nat (by rw [List.getElem?_map, List.getElem?_eq_getElem hk]; rfl)⟩
  refine ⟨p, _, _, _, rfl, rfl, SqL.of hp, hn, small (by decide), fun a ha => ?_⟩
  exact q (.ref a) (.name n) _ (same_new ha _) (TAt.mkName upd_same) (gp n gn) rfl (fun x hx => by
    rw [nms, List.mem_singleton] at hx
    rw [hx]
    exact gn)
theorem whole_fit {ts : List Tm} {m : Nat} (hne : ts ≠ []) (hf : ∀ t ∈ ts, Fit 17 t) (hw : wts ts ≤ m) : Fit 18 (whole ts) ∧ wt (whole ts) ≤ m + 1 := by
  match ts, hne with
  | [t], _ =>
    refine ⟨(hf t (by simp)).up, ?_⟩
    rw [wts, wts] at hw
    show wt t ≤ m + 1
    omega
  | t :: u :: r, _ =>
    exact ⟨⟨.inr (.inr (.inr (.inl ⟨rfl, by simp⟩))), hf⟩, by show wt (.node "both" (t :: u :: r)) ≤ m + 1; rw [wt]; omega⟩
theorem ok_whole (bi : Bi mg) (F : Fun K "_law_whole_term" "_law_whole_term" s_law_whole_term f fd) : FnOk P w K mg base CX0 1 f fd ["stack"] spWhole := by
  refine F.ok sc_law_whole_term (fun vs H Q E h => ?_) (fun cdv A outer s H vs Q E hr h => ?_)
  · obtain ⟨a, vs', ts, m, rfl, _⟩ := h
    rfl
  obtain ⟨a, vs', ts, m, rfl, hl, ht, hne, hf, hw, hm, q⟩ := h
  have wf := whole_fit hne hf hw
  have hlen := ht.length
  have hle := wts_len ts
  refine ⟨_, (pss_cons (ps_if (pt_cmpR op_eq (pe_callB call_len rfl bi.len bt_len (pa_cons (pv 0) pa_nil)) pe_int (nomark _)) (pss_one (ps_ret (pe_ix ix_list (pv 0) pe_int (fun _ _ => rfl)))) pss_nil) (pss_one (ps_ret (pe_op op_catT (pe_tup (pa_cons pe_str pa_nil)) (pe_callTy call_tuple_of rfl bi.tuple bt_tuple (pa_cons (pv 0) pa_nil)))))), ?_⟩
  simp only [tSeq, tFor_eq, tLC_eq, iRng1, iRng2, iList, iTup, iStr, tIfS, tRet, tRetN, tNext, tAsg, gName, tVar, tC, tOp, rI0, rI, tTest, tB, rEq, rNe, tCall, tCons, tNil, tCB, tLst, tTup, tAnd, tOr, tNot, tAndV, tOrV, tNotV, tIf, tDrop, tSl, tPart, tNoPart, tChain, tUn, rU, L2.start, cx_K, bk_K, cx_calm, bk_calm, lenV_str, and_assoc, Option.join, List.length_map, List.length_append, decide_eq_true_eq, Bool.false_eq_true, if_false, if_true, Bool.not_true, Bool.not_false, Bool.not_eq_true', decide_eq_false_iff_not, Bool.true_eq_false, List.length_cons, List.length_nil, List.map_cons, List.map_nil, List.replicate, List.cons_append, List.nil_append, List.append_nil, List.getElem?_cons_zero, List.getElem?_cons_succ, List.set_cons_zero, List.set_cons_succ, Nat.reduceSub, Nat.reduceAdd, Option.some.injEq, V.int.injEq, V.str.injEq, V.bl.injEq, V.ref.injEq, List.cons.injEq, and_true, true_and, exists_eq_left', exists_eq_left, exists_and_left, exists_eq_right, exists_const]
  refine ⟨_, .inl ⟨_, SqL.of hl, rfl⟩, rfl, ?_⟩
  split
  · rename_i h1
    have h1 : ts.length = 1 := by omega
    match ts, h1 with
    | [t], _ =>
      obtain ⟨v, r, e1, e2, e3⟩ := ht
      have e3 : r = [] := e3
      subst e3; subst e1
      exact ⟨a, _, 0, v, rfl, rfl, SqL.of hl, rfl, q v H (Same.refl H) e2 wf.1 wf.2⟩
  · rename_i h1
    refine ⟨small (by decide), fun p hp => ⟨vs', .inl ⟨SqL.of (same_new hp _ _ _ hl), fun b hb => ?_⟩⟩⟩
    have hpb : p ≠ b := ne_of_none upd_same hb
    have e1 : upd (upd H p (.tup [.str "both"])) b (.tup vs') p = some (.tup [.str "both"]) := by rw [upd_ne hpb]; exact upd_same
    refine ⟨p, b, [.str "both"], vs', rfl, rfl, SqT.of e1, SqT.of upd_same, by simp, small (by simp; omega), fun e => ?_, fun _ d hd => ?_⟩
    · exact absurd (by rw [← hlen, e]; rfl) (fun z : ts.length = 0 => hne (List.eq_nil_of_length_eq_zero z))
    · have sm : Same H (upd (upd (upd H p (.tup [.str "both"])) b (.tup vs')) d (.tup ([.str "both"] ++ vs'))) := ((same_new hp _).trans (same_new hb _)).trans (same_new hd _)
      have ew : whole ts = .node "both" ts := by
        match ts, hne, h1, hlen with
        | [t], _, h1, hlen => exact absurd (by rw [hlen]; rfl) h1
        | t :: u :: r, _, _, _ => rfl
      refine q _ _ sm ?_ wf.1 wf.2
      rw [ew]
      exact TAt.mkNode (vs := vs') upd_same (DAts.same sm ht)
end

end C
set_option Elab.async false
set_option linter.all false
set_option maxRecDepth 100000
set_option maxHeartbeats 8000000
namespace C
open PySem L2
seal PE PT PW PA PS PSs PG PGs PI PPs PO PSet PIf
/-- each term with how deep it is told to be -/
def FD : List Tm → List Int → Prop
  | [], ds => ds = []
  | t :: ts, ds => ∃ d r, ds = d :: r ∧ 0 ≤ d ∧ d ≤ 17 ∧ Fit d.toNat t ∧ FD ts r
theorem FD.length : ∀ {ts : List Tm} {ds : List Int}, FD ts ds → ds.length = ts.length
  | [], ds, h => by
    have h : ds = [] := h
    rw [h]
    rfl
  | t :: ts, ds, h => by
    obtain ⟨d, r, e, _, _, _, h⟩ := h
    rw [e, List.length_cons, List.length_cons, FD.length h]
theorem FD.append : ∀ {ts us : List Tm} {ds es : List Int}, FD ts ds → FD us es → FD (ts ++ us) (ds ++ es)
  | [], us, ds, es, h, h' => by
    have h : ds = [] := h
    subst h
    exact h'
  | t :: ts, us, ds, es, h, h' => by
    obtain ⟨d, r, e, a, b, c, h⟩ := h
    subst e
    exact ⟨d, r ++ es, rfl, a, b, c, FD.append h h'⟩
theorem FD.take : ∀ {ts : List Tm} {ds : List Int} (n : Nat), FD ts ds → FD (ts.take n) (ds.take n)
  | ts, ds, 0, _ => rfl
  | [], ds, n + 1, h => by
    have h : ds = [] := h
    subst h
    rfl
  | t :: ts, ds, n + 1, h => by
    obtain ⟨d, r, e, a, b, c, h⟩ := h
    subst e
    exact ⟨d, r.take n, rfl, a, b, c, FD.take n h⟩
theorem FD.drop : ∀ {ts : List Tm} {ds : List Int} (n : Nat), FD ts ds → FD (ts.drop n) (ds.drop n)
  | ts, ds, 0, h => by simpa using h
  | [], ds, n + 1, h => by
    have h : ds = [] := h
    subst h
    rfl
  | t :: ts, ds, n + 1, h => by
    obtain ⟨d, r, e, a, b, c, h⟩ := h
    subst e
    simpa using FD.drop n h
theorem FD.one {t : Tm} {d : Int} (h0 : 0 ≤ d) (h1 : d ≤ 17) (h : Fit d.toNat t) : FD [t] [d] := ⟨d, [], rfl, h0, h1, h, rfl⟩
theorem FD.fit : ∀ {ts : List Tm} {ds : List Int} {t : Tm}, FD ts ds → t ∈ ts → ∃ d ∈ ds, 0 ≤ d ∧ d ≤ 17 ∧ Fit d.toNat t
  | u :: ts, ds, t, h, ht => by
    obtain ⟨d, r, e, a, b, c, h⟩ := h
    subst e
    rcases List.mem_cons.mp ht with rfl | ht
    · exact ⟨d, by simp, a, b, c⟩
    · obtain ⟨d', h1, h2⟩ := FD.fit h ht
      exact ⟨d', by simp [h1], h2⟩
/-- the terms of a stack, the depths beside -/
structure StkAt (H : Hp) (sa da : Addr) (ts : List Tm) (ds : List Int) : Prop where
  ne : sa ≠ da
  st : ∃ vs, H sa = some (.lst vs) ∧ TAts H ts vs
  dp : H da = some (.lst (ds.map V.int))
  fd : FD ts ds
/-- between two turns -/
def StkInv (pl : List Str) (H : Hp) (c p : Addr) (m : Nat) (σ : St) (H' : Hp) : Prop := Same H H' ∧ ∃ (sa da : Addr) (ts : List Tm) (ds : List Int) (o1 o2 o3 o4 : Option V), H sa = none ∧ H da = none ∧ StkAt H' sa da ts ds ∧ wts ts ≤ m ∧ (∀ x ∈ nmss ts, x ∈ pl) ∧ σ = [some (V.ref c), some (V.ref p), some (V.ref sa), some (V.ref da), o1, o2, o3, o4]
theorem StkAt.same {H H' : Hp} {sa da : Addr} {ts : List Tm} {ds : List Int} (e : Same H H') (h : StkAt H sa da ts ds) : StkAt H' sa da ts ds := by
  obtain ⟨vs, h1, h2⟩ := h.st
  exact ⟨h.ne, ⟨vs, e _ _ h1, TAts.tups e.tups h2⟩, e _ _ h.dp, h.fd⟩
theorem snoc_of {α : Type} {l : List α} (h : l ≠ []) : ∃ r x, l = r ++ [x] := ⟨l.dropLast, l.getLast h, (List.dropLast_concat_getLast h).symm⟩
theorem snoc_last {α : Type} (r : List α) (x : α) : (r ++ [x])[(r ++ [x]).length - 1]? = some x := by
  rw [List.length_append, List.length_singleton, Nat.add_sub_cancel, List.getElem?_append_right (Nat.le_refl _), Nat.sub_self]
  rfl
/-- the top of a stack -/
theorem StkAt.top {H : Hp} {sa da : Addr} {ts : List Tm} {ds : List Int} (h : StkAt H sa da ts ds) (hne : ts ≠ []) :
    ∃ ts' t ds' d vs' v, ts = ts' ++ [t] ∧ ds = ds' ++ [d] ∧ H sa = some (.lst (vs' ++ [v])) ∧ TAts H ts' vs' ∧ TAt H t v ∧ FD ts' ds' ∧ 0 ≤ d ∧ d ≤ 17 ∧ Fit d.toNat t := by
  obtain ⟨ts', t, rfl⟩ := snoc_of hne
  obtain ⟨vs, h1, h2⟩ := h.st
  have hl := h2.length
  have hd := h.fd.length
  have hvs : vs ≠ [] := by intro z; subst z; simp at hl
  have hds : ds ≠ [] := by intro z; subst z; simp at hd
  obtain ⟨vs', v, rfl⟩ := snoc_of hvs
  obtain ⟨ds', d, rfl⟩ := snoc_of hds
  have l1 : vs'.length = ts'.length := by simpa using hl
  have l2 : ds'.length = ts'.length := by simpa using hd
  have a1 := TAts.take ts'.length h2
  have a2 := TAts.drop ts'.length h2
  have b1 := FD.take ts'.length h.fd
  have b2 := FD.drop ts'.length h.fd
  rw [List.take_left, ← l1, List.take_left] at a1
  rw [List.drop_left, ← l1, List.drop_left] at a2
  rw [List.take_left, ← l2, List.take_left] at b1
  rw [List.drop_left, ← l2, List.drop_left] at b2
  obtain ⟨u, r, e1, e2, e3⟩ := a2
  obtain ⟨d', r', e4, p1, p2, p3, p4⟩ := b2
  cases e1; cases e4
  exact ⟨ts', t, ds', d, vs', v, rfl, rfl, h1, a1, e2, b1, p1, p2, p3⟩
theorem last_int (ds' : List Int) (d : Int) : atI ((ds' ++ [d]).map V.int) (-1) = some (.int d) := by
  rw [List.map_append]
  exact atI_last _ _
theorem cut_last (xs : List V) (k : Nat) (h1 : 1 ≤ k) (h : k ≤ xs.length) : cutV xs (some (-(k : Int))) none = xs.drop (xs.length - k) := by
  unfold cutV
  have e : HT.sIx xs.length 0 (some (-(k : Int))) = xs.length - k := by
    unfold HT.sIx
    simp only
    rw [if_pos (by omega)]
    omega
  rw [e, HT.sIx_none, List.take_of_length_le (by rw [List.length_drop]; omega)]
theorem cut_init (xs : List V) (k : Nat) (h1 : 1 ≤ k) (h : k ≤ xs.length) : cutV xs none (some (-(k : Int))) = xs.take (xs.length - k) := by
  unfold cutV
  have e : HT.sIx xs.length xs.length (some (-(k : Int))) = xs.length - k := by
    unfold HT.sIx
    simp only
    rw [if_pos (by omega)]
    omega
  rw [e, HT.sIx_none, List.drop_zero, Nat.sub_zero]
section
variable {P : Program} {w : World} {K : PySem.W.Frag} {mg : Str → Option Value} {base : Heap} {f : Addr} {fd : FuncData}
theorem ok_stack (bi : Bi mg) (h_law_leaf : Has P w K mg base 1 "_law_leaf" ["cell", "pool"] (spLeaf K))
    (F : Fun K "_law_stack" "_law_stack" s_law_stack f fd) : FnOk P w K mg base CX0 2 f fd ["cells", "pool"] (spStack K) := by
  refine F.ok sc_law_stack (fun vs H Q E h => ?_) (fun cdv A outer s H vs Q E hr h => ?_)
  · obtain ⟨c, p, ns, pl, rfl, _⟩ := h
    rfl
  obtain ⟨c, p, ns, pl, rfl, hS, h63, hP, q⟩ := h
  refine ⟨_, (pss_cons (ps_set (i := 2) sc_law_stack.nd rfl (Or.inl rfl) (pe_lst pa_nil)) (pss_cons (ps_set (i := 3) sc_law_stack.nd rfl (Or.inl rfl) (pe_lst pa_nil)) (pss_cons (ps_for PassesOwn.never rfl (pi_list (pv 0)) (pg_name (i := 4) sc_law_stack.nd rfl (Or.inl rfl)) (pss_cons (ps_set (i := 5) sc_law_stack.nd rfl (Or.inl rfl) (pe_op op_mod (pv 4) pe_int)) (pss_one (ps_if (PW.pt (pw_and (pt_cmpR op_eq (pv 5) pe_int (nomark _)) (pw_and (pt_cmpR op_gt (pe_callB call_len rfl bi.len bt_len (pa_cons (pv 2) pa_nil)) pe_int (nomark _)) (pw_and1 (pt_cmpR op_lt (pe_ix ix_list (pv 3) (pe_un un_neg pe_int) (fun _ _ => rfl)) pe_int (nomark _)))))) (pss_cons (ps_expr (pe_bm PySem.F.plainAttrs_list PySem.F.slot_list_append PySem.F.type_list_append mt_append (pv 2) (pa_cons (pe_tup (pa_cons pe_str (pa_cons (pe_bm0 PySem.F.plainAttrs_list PySem.F.slot_list_pop PySem.F.type_list_pop mt_pop (pv 2)) pa_nil))) pa_nil))) (pss_one (ps_expr (pe_bm PySem.F.plainAttrs_list PySem.F.slot_list_append PySem.F.type_list_append mt_append (pv 3) (pa_cons (pe_op op_add (pe_bm0 PySem.F.plainAttrs_list PySem.F.slot_list_pop PySem.F.type_list_pop mt_pop (pv 3)) pe_int) pa_nil))))) (pss_one (ps_if (PW.pt (pw_and (pt_cmpR op_lt (pv 5) pe_int (nomark _)) (pw_and (pt_cmpR op_gt (pv 5) pe_int (nomark _)) (pw_and (pt_cmpR op_gt (pe_callB call_len rfl bi.len bt_len (pa_cons (pv 2) pa_nil)) (pe_op op_add (pe_op op_fdiv (pv 5) pe_int) pe_int) (nomark _)) (pw_and1 (pt_cmpR op_lt (pe_callB call_maxI rfl bi.max bt_max (pa_cons (pe_slice sl_list (pv 3) (po_some (pe_op op_sub (pe_op op_sub pe_int pe_int) (pe_op op_fdiv (pv 5) pe_int))) po_none) pa_nil)) pe_int (nomark _))))))) (pss_cons (ps_set (i := 6) sc_law_stack.nd rfl (Or.inl rfl) (pe_slice sl_list (pv 2) (po_some (pe_op op_sub (pe_op op_sub pe_int pe_int) (pe_op op_fdiv (pv 5) pe_int))) po_none)) (pss_cons (ps_set (i := 7) sc_law_stack.nd rfl (Or.inl rfl) (pe_callB call_maxI rfl bi.max bt_max (pa_cons (pe_slice sl_list (pv 3) (po_some (pe_op op_sub (pe_op op_sub pe_int pe_int) (pe_op op_fdiv (pv 5) pe_int))) po_none) pa_nil))) (pss_cons (ps_set (i := 2) sc_law_stack.nd rfl (Or.inl rfl) (pe_op op_cat (pe_slice sl_list (pv 2) po_none (po_some (pe_op op_sub (pe_op op_sub pe_int pe_int) (pe_op op_fdiv (pv 5) pe_int)))) (pe_lst (pa_cons (pe_op op_catT (pe_tup (pa_cons (pe_ix ix_list (pe_lst (pa_cons pe_str (pa_cons pe_str pa_nil))) (pe_op op_mod (pv 5) pe_int) (fun _ _ => rfl)) pa_nil)) (pe_callTy call_tuple_of rfl bi.tuple bt_tuple (pa_cons (pv 6) pa_nil))) pa_nil)))) (pss_one (ps_set (i := 3) sc_law_stack.nd rfl (Or.inl rfl) (pe_op op_cat (pe_slice sl_list (pv 3) po_none (po_some (pe_op op_sub (pe_op op_sub pe_int pe_int) (pe_op op_fdiv (pv 5) pe_int)))) (pe_lst (pa_cons (pe_op op_add (pv 7) pe_int) pa_nil)))))))) (pss_cons (ps_expr (pe_bm PySem.F.plainAttrs_list PySem.F.slot_list_append PySem.F.type_list_append mt_append (pv 2) (pa_cons (pe_callH h_law_leaf (hr.mono (by omega)) rfl (pa_cons (pe_op op_fdiv (pv 4) pe_int) (pa_cons (pv 1) pa_nil))) pa_nil))) (pss_one (ps_expr (pe_bm PySem.F.plainAttrs_list PySem.F.slot_list_append PySem.F.type_list_append mt_append (pv 3) (pa_cons pe_int pa_nil))))))))))) (pss_cons (ps_if (pt_cmpR op_eq (pe_callB call_len rfl bi.len bt_len (pa_cons (pv 2) pa_nil)) pe_int (nomark _)) (pss_one (ps_expr (pe_bm PySem.F.plainAttrs_list PySem.F.slot_list_append PySem.F.type_list_append mt_append (pv 2) (pa_cons (pe_tup (pa_cons pe_str pa_nil)) pa_nil)))) pss_nil) (pss_one (ps_ret (pv 2))))))), ?_⟩
  refine seq_abs fun N hN => ?_
  simp only [tSeq, tFor_eq, tLC_eq, iRng1, iRng2, iList, iTup, iStr, tIfS, tRet, tRetN, tNext, tAsg, gName, tVar, tC, tOp, rI0, rI, tTest, tB, rEq, rNe, tCall, tCons, tNil, tCB, tLst, tTup, tAnd, tOr, tNot, tAndV, tOrV, tNotV, tIf, tDrop, tSl, tPart, tNoPart, tChain, tUn, rU, L2.start, cx_K, bk_K, cx_calm, bk_calm, lenV_str, and_assoc, Option.join, List.length_map, List.length_append, decide_eq_true_eq, Bool.false_eq_true, if_false, if_true, Bool.not_true, Bool.not_false, Bool.not_eq_true', decide_eq_false_iff_not, Bool.true_eq_false, List.length_cons, List.length_nil, List.map_cons, List.map_nil, List.replicate, List.cons_append, List.nil_append, List.append_nil, List.getElem?_cons_zero, List.getElem?_cons_succ, List.set_cons_zero, List.set_cons_succ, Nat.reduceSub, Nat.reduceAdd, Option.some.injEq, V.int.injEq, V.str.injEq, V.bl.injEq, V.ref.injEq, List.cons.injEq, and_true, true_and, exists_eq_left', exists_eq_left, exists_and_left, exists_eq_right, exists_const]
  refine ⟨small (by decide), fun sa0 hsa0 => hN _ _ ?_⟩
  refine seq_abs fun N hN => ?_
  simp only [tSeq, tFor_eq, tLC_eq, iRng1, iRng2, iList, iTup, iStr, tIfS, tRet, tRetN, tNext, tAsg, gName, tVar, tC, tOp, rI0, rI, tTest, tB, rEq, rNe, tCall, tCons, tNil, tCB, tLst, tTup, tAnd, tOr, tNot, tAndV, tOrV, tNotV, tIf, tDrop, tSl, tPart, tNoPart, tChain, tUn, rU, L2.start, cx_K, bk_K, cx_calm, bk_calm, lenV_str, and_assoc, Option.join, List.length_map, List.length_append, decide_eq_true_eq, Bool.false_eq_true, if_false, if_true, Bool.not_true, Bool.not_false, Bool.not_eq_true', decide_eq_false_iff_not, Bool.true_eq_false, List.length_cons, List.length_nil, List.map_cons, List.map_nil, List.replicate, List.cons_append, List.nil_append, List.append_nil, List.getElem?_cons_zero, List.getElem?_cons_succ, List.set_cons_zero, List.set_cons_succ, Nat.reduceSub, Nat.reduceAdd, Option.some.injEq, V.int.injEq, V.str.injEq, V.bl.injEq, V.ref.injEq, List.cons.injEq, and_true, true_and, exists_eq_left', exists_eq_left, exists_and_left, exists_eq_right, exists_const]
  refine ⟨small (by decide), fun da0 hda0 => hN _ _ ?_⟩
  have nda0 : H da0 = none := (same_new hsa0 _).free hda0
  refine seq_join (StkInv pl H c p ns.length) (fun N hN => ?_) (fun σ H' h => ?_)
  · simp only [tSeq, tFor_eq, tLC_eq, iRng1, iRng2, iList, iTup, iStr, tIfS, tRet, tRetN, tNext, tAsg, gName, tVar, tC, tOp, rI0, rI, tTest, tB, rEq, rNe, tCall, tCons, tNil, tCB, tLst, tTup, tAnd, tOr, tNot, tAndV, tOrV, tNotV, tIf, tDrop, tSl, tPart, tNoPart, tChain, tUn, rU, L2.start, cx_K, bk_K, cx_calm, bk_calm, lenV_str, and_assoc, Option.join, List.length_map, List.length_append, decide_eq_true_eq, Bool.false_eq_true, if_false, if_true, Bool.not_true, Bool.not_false, Bool.not_eq_true', decide_eq_false_iff_not, Bool.true_eq_false, List.length_cons, List.length_nil, List.map_cons, List.map_nil, List.replicate, List.cons_append, List.nil_append, List.append_nil, List.getElem?_cons_zero, List.getElem?_cons_succ, List.set_cons_zero, List.set_cons_succ, Nat.reduceSub, Nat.reduceAdd, Option.some.injEq, V.int.injEq, V.str.injEq, V.bl.injEq, V.ref.injEq, List.cons.injEq, and_true, true_and, exists_eq_left', exists_eq_left, exists_and_left, exists_eq_right, exists_const]
    refine ⟨⟨_, Same.seq ((same_new hsa0 _).trans (same_new hda0 _)) hS⟩, ?_⟩
    refine fw_list (xs := ns.map V.int) (StkInv pl H c p) ?_ (fun i σ H' _ h => Same.seq h.1 hS) (fun i x σ H' hx h => ?_) (fun σ H' h => ?_)
    · have hne : sa0 ≠ da0 := ne_of_none upd_same hda0
      exact ⟨(same_new hsa0 _).trans (same_new hda0 _), sa0, da0, [], [], _, _, _, _, hsa0, nda0, ⟨hne, ⟨[], by rw [upd_ne hne]; exact upd_same, rfl⟩, upd_same, rfl⟩, Nat.le_refl _, (fun x hx => by simp [nmss] at hx), rfl⟩
    · obtain ⟨hs, sa, da, ts, ds, o1, o2, o3, o4, nsa, nda, sk, hw, hnn, rfl⟩ := h
      obtain ⟨n, hn, rfl⟩ : ∃ n, ns[i]? = some n ∧ x = .int n := by
        rw [List.getElem?_map] at hx
        cases e : ns[i]? with
        | none => rw [e] at hx; cases hx
        | some n => rw [e] at hx; cases hx; exact ⟨n, rfl, rfl⟩
      have hi63 : i < 63 := by have := (List.getElem?_eq_some_iff.mp hn).1; omega
      have hll := wts_len ts
      have hdl := sk.fd.length
      show tSeq _ _ _ _ _
      refine seq_abs fun N hN => ?_
      simp only [tSeq, tFor_eq, tLC_eq, iRng1, iRng2, iList, iTup, iStr, tIfS, tRet, tRetN, tNext, tAsg, gName, tVar, tC, tOp, rI0, rI, tTest, tB, rEq, rNe, tCall, tCons, tNil, tCB, tLst, tTup, tAnd, tOr, tNot, tAndV, tOrV, tNotV, tIf, tDrop, tSl, tPart, tNoPart, tChain, tUn, rU, L2.start, cx_K, bk_K, cx_calm, bk_calm, lenV_str, and_assoc, Option.join, List.length_map, List.length_append, decide_eq_true_eq, Bool.false_eq_true, if_false, if_true, Bool.not_true, Bool.not_false, Bool.not_eq_true', decide_eq_false_iff_not, Bool.true_eq_false, List.length_cons, List.length_nil, List.map_cons, List.map_nil, List.replicate, List.cons_append, List.nil_append, List.append_nil, List.getElem?_cons_zero, List.getElem?_cons_succ, List.set_cons_zero, List.set_cons_succ, Nat.reduceSub, Nat.reduceAdd, Option.some.injEq, V.int.injEq, V.str.injEq, V.bl.injEq, V.ref.injEq, List.cons.injEq, and_true, true_and, exists_eq_left', exists_eq_left, exists_and_left, exists_eq_right, exists_const]
      refine ⟨by decide, hN _ _ ?_⟩
      refine if_abs fun T U hT hU => ?_
      -- what every arm must reach
      have fin : ∀ {H1 : Hp} {sa da : Addr} {ts : List Tm} {ds : List Int} {o1 o2 o3 o4 : Option V}, Same H H1 → H sa = none → H da = none → StkAt H1 sa da ts ds → wts ts ≤ i + 1 → (∀ x ∈ nmss ts, x ∈ pl) →
          StkInv pl H c p (i + 1) [some (V.ref c), some (V.ref p), some (V.ref sa), some (V.ref da), o1, o2, o3, o4] H1 :=
        fun a b d e g n => ⟨a, _, _, _, _, _, _, _, _, b, d, e, g, n, rfl⟩
      have hT' : ∀ H1, Same H' H1 → ts ≠ [] → (∀ ds' d, ds = ds' ++ [d] → d < 17) → T H1 := by
        intro H1 e1 hne hd17
        refine hT H1 ?_
        obtain ⟨ts', t, ds', d, vs', v, rfl, rfl, hsv, hts', htv, hfd', d0, d1, ft⟩ := (sk.same e1).top hne
        have d17 := hd17 ds' d rfl
        refine seq_abs fun N hN => ?_
        simp only [tSeq, tFor_eq, tLC_eq, iRng1, iRng2, iList, iTup, iStr, tIfS, tRet, tRetN, tNext, tAsg, gName, tVar, tC, tOp, rI0, rI, tTest, tB, rEq, rNe, tCall, tCons, tNil, tCB, tLst, tTup, tAnd, tOr, tNot, tAndV, tOrV, tNotV, tIf, tDrop, tSl, tPart, tNoPart, tChain, tUn, rU, L2.start, cx_K, bk_K, cx_calm, bk_calm, lenV_str, and_assoc, Option.join, List.length_map, List.length_append, decide_eq_true_eq, Bool.false_eq_true, if_false, if_true, Bool.not_true, Bool.not_false, Bool.not_eq_true', decide_eq_false_iff_not, Bool.true_eq_false, List.length_cons, List.length_nil, List.map_cons, List.map_nil, List.replicate, List.cons_append, List.nil_append, List.append_nil, List.getElem?_cons_zero, List.getElem?_cons_succ, List.set_cons_zero, List.set_cons_succ, Nat.reduceSub, Nat.reduceAdd, Option.some.injEq, V.int.injEq, V.str.injEq, V.bl.injEq, V.ref.injEq, List.cons.injEq, and_true, true_and, exists_eq_left', exists_eq_left, exists_and_left, exists_eq_right, exists_const, tBM, tBM0, rAppend, rPop, rIxL, rIxT, rIxS, rSlL, rSlT, rSlS, rCat, rCatT]
        refine ⟨.inl ⟨rfl, _, SqL.of hsv⟩, .inl ⟨rfl, _, SqL.of hsv⟩, _, hsv, v, snoc_last _ _, small (by decide), fun q1 hq1 => ?_⟩
        rw [List.dropLast_concat] at hq1 ⊢
        have nq : q1 ≠ sa := fun z => by rw [z, upd_same] at hq1; cases hq1
        have hq1' : H1 q1 = none := by rw [upd_ne nq] at hq1; exact hq1
        refine ⟨vs', by rw [upd_ne (Ne.symm nq)]; exact upd_same, ?_, hN _ _ ?_⟩
        · have := hts'.length
          rw [List.length_append, List.length_singleton] at hll
          exact small1000 (by omega)
        simp only [tSeq, tFor_eq, tLC_eq, iRng1, iRng2, iList, iTup, iStr, tIfS, tRet, tRetN, tNext, tAsg, gName, tVar, tC, tOp, rI0, rI, tTest, tB, rEq, rNe, tCall, tCons, tNil, tCB, tLst, tTup, tAnd, tOr, tNot, tAndV, tOrV, tNotV, tIf, tDrop, tSl, tPart, tNoPart, tChain, tUn, rU, L2.start, cx_K, bk_K, cx_calm, bk_calm, lenV_str, and_assoc, Option.join, List.length_map, List.length_append, decide_eq_true_eq, Bool.false_eq_true, if_false, if_true, Bool.not_true, Bool.not_false, Bool.not_eq_true', decide_eq_false_iff_not, Bool.true_eq_false, List.length_cons, List.length_nil, List.map_cons, List.map_nil, List.replicate, List.cons_append, List.nil_append, List.append_nil, List.getElem?_cons_zero, List.getElem?_cons_succ, List.set_cons_zero, List.set_cons_succ, Nat.reduceSub, Nat.reduceAdd, Option.some.injEq, V.int.injEq, V.str.injEq, V.bl.injEq, V.ref.injEq, List.cons.injEq, and_true, true_and, exists_eq_left', exists_eq_left, exists_and_left, exists_eq_right, exists_const, tBM, tBM0, rAppend, rPop, rIxL, rIxT, rIxS, rSlL, rSlT, rSlS, rCat, rCatT]
        have hda : H1 da = some (.lst ((ds' ++ [d]).map V.int)) := (sk.same e1).dp
        have nqa : da ≠ q1 := ne_of_none hda hq1'
        have hda2 : upd (upd (upd H1 sa (.lst vs')) q1 (.tup [.str "not", v])) sa (.lst (vs' ++ [.ref q1])) da = some (.lst (ds'.map V.int ++ [V.int d])) := by
          rw [upd_ne (Ne.symm sk.ne), upd_ne nqa, upd_ne (Ne.symm sk.ne), hda, List.map_append]
          rfl
        refine ⟨.inl ⟨rfl, _, SqL.of hda2⟩, .inl ⟨rfl, _, SqL.of hda2⟩, _, hda2, _, snoc_last _ _, _, rfl, ds'.map V.int, by rw [List.dropLast_concat]; exact upd_same, ?_, ?_⟩
        · rw [List.length_append, List.length_singleton] at hdl hll
          rw [List.length_map]
          have : ds'.length = ts'.length := by
            have := hfd'.length
            omega
          rw [List.length_append, List.length_singleton] at hdl
          exact small1000 (by omega)
        rw [upd_upd]
        have tA : TupSame H1 (upd H1 sa (.lst vs')) := (TupSame.refl _).upd_lst hsv
        have tB : TupSame H1 (upd (upd H1 sa (.lst vs')) q1 (.tup [.str "not", v])) := tA.upd_new hq1
        have hsa3 : upd (upd H1 sa (.lst vs')) q1 (.tup [.str "not", v]) sa = some (.lst vs') := by rw [upd_ne (Ne.symm nq)]; exact upd_same
        have tC : TupSame H1 (upd (upd (upd H1 sa (.lst vs')) q1 (.tup [.str "not", v])) sa (.lst (vs' ++ [.ref q1]))) := tB.upd_lst hsa3
        have tD := tC.upd_lst (o := .lst (ds'.map V.int ++ [V.int (d + 1)])) hda2
        have hH1 : Same H H1 := hs.trans e1
        have sm : Same H (upd (upd (upd (upd H1 sa (.lst vs')) q1 (.tup [.str "not", v])) sa (.lst (vs' ++ [.ref q1]))) da (.lst (ds'.map V.int ++ [V.int (d + 1)]))) := (((hH1.upd nsa).upd (hH1.free hq1')).upd nsa).upd nda
        refine fin sm nsa nda (ts := ts' ++ [.node "not" [t]]) (ds := ds' ++ [d + 1]) ⟨sk.ne, ⟨vs' ++ [.ref q1], by rw [upd_ne sk.ne]; exact upd_same, ?_⟩, by rw [upd_same, List.map_append]; rfl, ?_⟩ ?_ (fun x hx => hnn x (by simpa [nmss_app, nmss, nms] using hx))
        · refine TAts.append (TAts.tups tD hts') (TAts.one (TAt.mkNode (vs := [v]) ?_ (TAts.one (TAt.tups tD htv))))
          rw [upd_ne (Ne.symm nqa), upd_ne nq]
          exact upd_same
        · refine FD.append hfd' (FD.one (by omega) (by omega) ?_)
          rw [show (d + 1).toNat = d.toNat + 1 by omega]
          refine ⟨.inr (.inr (.inl ⟨rfl, rfl⟩)), fun u hu => ?_⟩
          rw [List.mem_singleton.mp hu]
          exact ft
        · rw [wts_append] at hw ⊢
          rw [wts, wts] at hw
          rw [wts, wts, wt, wts, wts]
          omega
      have hU' : ∀ H1, Same H' H1 → U H1 := by
        intro H1 e1
        refine hU H1 ?_
        refine if_abs fun T2 U2 hT2 hU2 => ?_
        have hU2' : ∀ H2, Same H' H2 → U2 H2 := by
          intro H2 e2
          refine hU2 H2 ?_
          have sk2 := sk.same e2
          obtain ⟨vs, hsv, hts⟩ := sk2.st
          have hlv := hts.length
          refine seq_abs fun N hN => ?_
          simp only [tSeq, tFor_eq, tLC_eq, iRng1, iRng2, iList, iTup, iStr, tIfS, tRet, tRetN, tNext, tAsg, gName, tVar, tC, tOp, rI0, rI, tTest, tB, rEq, rNe, tCall, tCons, tNil, tCB, tLst, tTup, tAnd, tOr, tNot, tAndV, tOrV, tNotV, tIf, tDrop, tSl, tPart, tNoPart, tChain, tUn, rU, L2.start, cx_K, bk_K, cx_calm, bk_calm, lenV_str, and_assoc, Option.join, List.length_map, List.length_append, decide_eq_true_eq, Bool.false_eq_true, if_false, if_true, Bool.not_true, Bool.not_false, Bool.not_eq_true', decide_eq_false_iff_not, Bool.true_eq_false, List.length_cons, List.length_nil, List.map_cons, List.map_nil, List.replicate, List.cons_append, List.nil_append, List.append_nil, List.getElem?_cons_zero, List.getElem?_cons_succ, List.set_cons_zero, List.set_cons_succ, Nat.reduceSub, Nat.reduceAdd, Option.some.injEq, V.int.injEq, V.str.injEq, V.bl.injEq, V.ref.injEq, List.cons.injEq, and_true, true_and, exists_eq_left', exists_eq_left, exists_and_left, exists_eq_right, exists_const, tBM, tBM0, rAppend, rPop, rIxL, rIxT, rIxS, rSlL, rSlT, rSlS, rCat, rCatT, spLeaf]
          refine ⟨.inl ⟨rfl, _, SqL.of hsv⟩, ⟨by decide, by decide⟩, pl, Pool.same (hs.trans e2) hP, fun v t H3 e3 htv ft wt1 hnt => ⟨vs, e3 _ _ hsv, small1000 (by omega), hN _ _ ?_⟩⟩
          simp only [tSeq, tFor_eq, tLC_eq, iRng1, iRng2, iList, iTup, iStr, tIfS, tRet, tRetN, tNext, tAsg, gName, tVar, tC, tOp, rI0, rI, tTest, tB, rEq, rNe, tCall, tCons, tNil, tCB, tLst, tTup, tAnd, tOr, tNot, tAndV, tOrV, tNotV, tIf, tDrop, tSl, tPart, tNoPart, tChain, tUn, rU, L2.start, cx_K, bk_K, cx_calm, bk_calm, lenV_str, and_assoc, Option.join, List.length_map, List.length_append, decide_eq_true_eq, Bool.false_eq_true, if_false, if_true, Bool.not_true, Bool.not_false, Bool.not_eq_true', decide_eq_false_iff_not, Bool.true_eq_false, List.length_cons, List.length_nil, List.map_cons, List.map_nil, List.replicate, List.cons_append, List.nil_append, List.append_nil, List.getElem?_cons_zero, List.getElem?_cons_succ, List.set_cons_zero, List.set_cons_succ, Nat.reduceSub, Nat.reduceAdd, Option.some.injEq, V.int.injEq, V.str.injEq, V.bl.injEq, V.ref.injEq, List.cons.injEq, and_true, true_and, exists_eq_left', exists_eq_left, exists_and_left, exists_eq_right, exists_const, tBM, tBM0, rAppend, rPop, rIxL, rIxT, rIxS, rSlL, rSlT, rSlS, rCat, rCatT]
          have hda : upd H3 sa (.lst (vs ++ [v])) da = some (.lst (ds.map V.int)) := by rw [upd_ne (Ne.symm sk.ne)]; exact e3 _ _ sk2.dp
          refine ⟨.inl ⟨rfl, _, SqL.of hda⟩, _, hda, by rw [List.length_map]; exact small1000 (by omega), ?_⟩
          have sm : Same H (upd (upd H3 sa (.lst (vs ++ [v]))) da (.lst (ds.map V.int ++ [V.int 0]))) := (((hs.trans e2).trans e3).upd nsa).upd nda
          have tu : TupSame H3 (upd (upd H3 sa (.lst (vs ++ [v]))) da (.lst (ds.map V.int ++ [V.int 0]))) := ((TupSame.refl _).upd_lst (e3 _ _ hsv)).upd_lst hda
          refine fin sm nsa nda (ts := ts ++ [t]) (ds := ds ++ [0]) ⟨sk.ne, ⟨vs ++ [v], by rw [upd_ne sk.ne]; exact upd_same, ?_⟩, by rw [upd_same, List.map_append]; rfl, FD.append sk.fd (FD.one (by omega) (by omega) (show Fit (Int.toNat 0) t from ft))⟩ ?_ (fun x hx => by
            rw [nmss_app, nmss, nmss, List.append_nil] at hx
            rcases List.mem_append.mp hx with hx | hx
            · exact hnn x hx
            · exact hnt x hx)
          · exact TAts.append (TAts.tups (e3.tups.trans tu) hts) (TAts.one (TAt.tups tu htv))
          · rw [wts_append, wts, wts, wt1]
            omega
        have hT2' : ∀ H2, Same H' H2 → ∀ k : Nat, (k = 2 ∨ k = 3) → 0 - 2 - n % 9 / 3 = -(k : Int) → k ≤ ts.length → maxI (ds.drop (ds.length - k)) < 17 → T2 H2 := by
          intro H2 e2 k hk2 hke hk hmx
          refine hT2 H2 ?_
          have sk2 := sk.same e2
          obtain ⟨vs, hsv, hts⟩ := sk2.st
          have hlv := hts.length
          have hlm : (ds.map V.int).length = ds.length := List.length_map _
          have cv : cutV (ds.map V.int) (some (-(k : Int))) none = (ds.drop (ds.length - k)).map V.int := by rw [cut_last _ k (by omega) (by omega), hlm, List.map_drop]
          have cs : cutV vs (some (-(k : Int))) none = vs.drop (vs.length - k) := cut_last _ k (by omega) (by omega)
          have dne : ds.drop (ds.length - k) ≠ [] := by
            intro z
            have := congrArg List.length z
            rw [List.length_drop, List.length_nil] at this
            omega
          refine seq_abs fun N hN => ?_
          simp only [tSeq, tFor_eq, tLC_eq, iRng1, iRng2, iList, iTup, iStr, tIfS, tRet, tRetN, tNext, tAsg, gName, tVar, tC, tOp, rI0, rI, tTest, tB, rEq, rNe, tCall, tCons, tNil, tCB, tLst, tTup, tAnd, tOr, tNot, tAndV, tOrV, tNotV, tIf, tDrop, tSl, tPart, tNoPart, tChain, tUn, rU, L2.start, cx_K, bk_K, cx_calm, bk_calm, lenV_str, and_assoc, Option.join, List.length_map, List.length_append, decide_eq_true_eq, Bool.false_eq_true, if_false, if_true, Bool.not_true, Bool.not_false, Bool.not_eq_true', decide_eq_false_iff_not, Bool.true_eq_false, List.length_cons, List.length_nil, List.map_cons, List.map_nil, List.replicate, List.cons_append, List.nil_append, List.append_nil, List.getElem?_cons_zero, List.getElem?_cons_succ, List.set_cons_zero, List.set_cons_succ, Nat.reduceSub, Nat.reduceAdd, Option.some.injEq, V.int.injEq, V.str.injEq, V.bl.injEq, V.ref.injEq, List.cons.injEq, and_true, true_and, exists_eq_left', exists_eq_left, exists_and_left, exists_eq_right, exists_const, tBM, tBM0, rAppend, rPop, rIxL, rIxT, rIxS, rSlL, rSlT, rSlS, rCat, rCatT]
          refine ⟨⟨by decide, by decide⟩, vs, SqL.of hsv, fun pa hpa => hN _ _ ?_⟩
          rw [hke, cs]
          refine seq_abs fun N hN => ?_
          simp only [tSeq, tFor_eq, tLC_eq, iRng1, iRng2, iList, iTup, iStr, tIfS, tRet, tRetN, tNext, tAsg, gName, tVar, tC, tOp, rI0, rI, tTest, tB, rEq, rNe, tCall, tCons, tNil, tCB, tLst, tTup, tAnd, tOr, tNot, tAndV, tOrV, tNotV, tIf, tDrop, tSl, tPart, tNoPart, tChain, tUn, rU, L2.start, cx_K, bk_K, cx_calm, bk_calm, lenV_str, and_assoc, Option.join, List.length_map, List.length_append, decide_eq_true_eq, Bool.false_eq_true, if_false, if_true, Bool.not_true, Bool.not_false, Bool.not_eq_true', decide_eq_false_iff_not, Bool.true_eq_false, List.length_cons, List.length_nil, List.map_cons, List.map_nil, List.replicate, List.cons_append, List.nil_append, List.append_nil, List.getElem?_cons_zero, List.getElem?_cons_succ, List.set_cons_zero, List.set_cons_succ, Nat.reduceSub, Nat.reduceAdd, Option.some.injEq, V.int.injEq, V.str.injEq, V.bl.injEq, V.ref.injEq, List.cons.injEq, and_true, true_and, exists_eq_left', exists_eq_left, exists_and_left, exists_eq_right, exists_const, tBM, tBM0, rAppend, rPop, rIxL, rIxT, rIxS, rSlL, rSlT, rSlS, rCat, rCatT]
          have eA : Same H2 (upd H2 pa (.lst (vs.drop (vs.length - k)))) := same_new hpa _
          refine ⟨⟨by decide, by decide⟩, _, SqL.of (eA _ _ sk2.dp), fun pb hpb => ?_⟩
          rw [hke, cv]
          refine ⟨_, SqL.of upd_same, dne, hN _ _ ?_⟩
          have eB : Same H2 (upd (upd H2 pa (.lst (vs.drop (vs.length - k)))) pb (.lst ((ds.drop (ds.length - k)).map V.int))) := eA.trans (same_new hpb _)
          generalize hH3 : upd (upd H2 pa (.lst (vs.drop (vs.length - k)))) pb (.lst ((ds.drop (ds.length - k)).map V.int)) = H3 at eB
          have hpa3 : H3 pa = some (.lst (vs.drop (vs.length - k))) := by rw [← hH3, upd_ne (ne_of_none upd_same hpb)]; exact upd_same
          have ci : cutV vs none (some (-(k : Int))) = vs.take (vs.length - k) := cut_init _ k (by omega) (by omega)
          have cd : cutV (ds.map V.int) none (some (-(k : Int))) = (ds.take (ds.length - k)).map V.int := by rw [cut_init _ k (by omega) (by omega), hlm, List.map_take]
          refine seq_abs fun N hN => ?_
          simp only [tSeq, tFor_eq, tLC_eq, iRng1, iRng2, iList, iTup, iStr, tIfS, tRet, tRetN, tNext, tAsg, gName, tVar, tC, tOp, rI0, rI, tTest, tB, rEq, rNe, tCall, tCons, tNil, tCB, tLst, tTup, tAnd, tOr, tNot, tAndV, tOrV, tNotV, tIf, tDrop, tSl, tPart, tNoPart, tChain, tUn, rU, L2.start, cx_K, bk_K, cx_calm, bk_calm, lenV_str, and_assoc, Option.join, List.length_map, List.length_append, decide_eq_true_eq, Bool.false_eq_true, if_false, if_true, Bool.not_true, Bool.not_false, Bool.not_eq_true', decide_eq_false_iff_not, Bool.true_eq_false, List.length_cons, List.length_nil, List.map_cons, List.map_nil, List.replicate, List.cons_append, List.nil_append, List.append_nil, List.getElem?_cons_zero, List.getElem?_cons_succ, List.set_cons_zero, List.set_cons_succ, Nat.reduceSub, Nat.reduceAdd, Option.some.injEq, V.int.injEq, V.str.injEq, V.bl.injEq, V.ref.injEq, List.cons.injEq, and_true, true_and, exists_eq_left', exists_eq_left, exists_and_left, exists_eq_right, exists_const, tBM, tBM0, rAppend, rPop, rIxL, rIxT, rIxS, rSlL, rSlT, rSlS, rCat, rCatT]
          refine ⟨⟨by decide, by decide⟩, vs, SqL.of (eB _ _ hsv), fun p1 hp1 => ⟨small (by decide), fun p2 hp2 => ⟨by decide, ?_⟩⟩⟩
          rw [hke, ci] at hp2 ⊢
          have e4 : Same H3 (upd H3 p1 (.lst (vs.take (vs.length - k)))) := same_new hp1 _
          have hp1a : upd H3 p1 (.lst (vs.take (vs.length - k))) p1 = some (.lst (vs.take (vs.length - k))) := upd_same
          generalize upd H3 p1 (.lst (vs.take (vs.length - k))) = H4 at hp2 e4 hp1a ⊢
          obtain ⟨wd, hwd, hwi⟩ : ∃ wd : Str, (wd = "both" ∨ wd = "either") ∧ atI [V.str "both", V.str "either"] (n % 9 % 2) = some (.str wd) := by
            have h2 : 0 ≤ n % 9 % 2 ∧ n % 9 % 2 < 2 := by omega
            generalize n % 9 % 2 = j at h2
            have : j = 0 ∨ j = 1 := by omega
            rcases this with rfl | rfl
            · exact ⟨"both", .inl rfl, rfl⟩
            · exact ⟨"either", .inr rfl, rfl⟩
          refine ⟨_, SqL.of upd_same, _, hwi, small (by decide), fun p3 hp3 => ?_⟩
          have e5 : Same H4 (upd H4 p2 (.lst [.str "both", .str "either"])) := same_new hp2 _
          generalize upd H4 p2 (.lst [.str "both", .str "either"]) = H5 at hp3 e5 ⊢
          have e6 : Same H5 (upd H5 p3 (.tup [.str wd])) := same_new hp3 _
          have h63' : upd H5 p3 (.tup [.str wd]) p3 = some (.tup [.str wd]) := upd_same
          generalize upd H5 p3 (.tup [.str wd]) = H6 at e6 h63' ⊢
          have e36 : Same H3 H6 := (e4.trans e5).trans e6
          refine ⟨vs.drop (vs.length - k), .inl ⟨SqL.of (e36 _ _ hpa3), fun p4 hp4 => ?_⟩⟩
          have e7 : Same H6 (upd H6 p4 (.tup (vs.drop (vs.length - k)))) := same_new hp4 _
          have h74 : upd H6 p4 (.tup (vs.drop (vs.length - k))) p4 = some (.tup (vs.drop (vs.length - k))) := upd_same
          generalize upd H6 p4 (.tup (vs.drop (vs.length - k))) = H7 at e7 h74 ⊢
          have vl : (vs.drop (vs.length - k)).length = k := by rw [List.length_drop]; omega
          refine ⟨_, SqT.of (e7 _ _ h63'), _, SqT.of h74, by simp, small (by rw [List.length_singleton, vl]; omega), fun z => ?_, fun _ p5 hp5 => ?_⟩
          · rw [z] at vl
            simp at vl
            omega
          have e8 : Same H7 (upd H7 p5 (.tup ([.str wd] ++ vs.drop (vs.length - k)))) := same_new hp5 _
          have h85 : upd H7 p5 (.tup ([.str wd] ++ vs.drop (vs.length - k))) p5 = some (.tup (.str wd :: vs.drop (vs.length - k))) := upd_same
          generalize upd H7 p5 (.tup ([.str wd] ++ vs.drop (vs.length - k))) = H8 at e8 h85 ⊢
          refine ⟨small (by decide), fun p6 hp6 => ?_⟩
          have e9 : Same H8 (upd H8 p6 (.lst [.ref p5])) := same_new hp6 _
          have h96 : upd H8 p6 (.lst [.ref p5]) p6 = some (.lst [.ref p5]) := upd_same
          generalize upd H8 p6 (.lst [.ref p5]) = H9 at e9 h96 ⊢
          have e49 : Same H4 H9 := (((e5.trans e6).trans e7).trans e8).trans e9
          refine ⟨_, e49 _ _ hp1a, _, h96, small (by rw [List.length_take, List.length_singleton]; omega), fun p7 hp7 => hN _ _ ?_⟩
          have e10 : Same H9 (upd H9 p7 (.lst (vs.take (vs.length - k) ++ [.ref p5]))) := same_new hp7 _
          have h107 : upd H9 p7 (.lst (vs.take (vs.length - k) ++ [.ref p5])) p7 = some (.lst (vs.take (vs.length - k) ++ [.ref p5])) := upd_same
          have n7 : H p7 = none := ((((hs.trans e2).trans eB).trans e4).trans e49).free hp7
          generalize upd H9 p7 (.lst (vs.take (vs.length - k) ++ [.ref p5])) = H10 at e10 h107 ⊢
          have e2_10 : Same H2 H10 := ((eB.trans e4).trans e49).trans e10
          simp only [tSeq, tFor_eq, tLC_eq, iRng1, iRng2, iList, iTup, iStr, tIfS, tRet, tRetN, tNext, tAsg, gName, tVar, tC, tOp, rI0, rI, tTest, tB, rEq, rNe, tCall, tCons, tNil, tCB, tLst, tTup, tAnd, tOr, tNot, tAndV, tOrV, tNotV, tIf, tDrop, tSl, tPart, tNoPart, tChain, tUn, rU, L2.start, cx_K, bk_K, cx_calm, bk_calm, lenV_str, and_assoc, Option.join, List.length_map, List.length_append, decide_eq_true_eq, Bool.false_eq_true, if_false, if_true, Bool.not_true, Bool.not_false, Bool.not_eq_true', decide_eq_false_iff_not, Bool.true_eq_false, List.length_cons, List.length_nil, List.map_cons, List.map_nil, List.replicate, List.cons_append, List.nil_append, List.append_nil, List.getElem?_cons_zero, List.getElem?_cons_succ, List.set_cons_zero, List.set_cons_succ, Nat.reduceSub, Nat.reduceAdd, Option.some.injEq, V.int.injEq, V.str.injEq, V.bl.injEq, V.ref.injEq, List.cons.injEq, and_true, true_and, exists_eq_left', exists_eq_left, exists_and_left, exists_eq_right, exists_const, tBM, tBM0, rAppend, rPop, rIxL, rIxT, rIxS, rSlL, rSlT, rSlS, rCat, rCatT]
          refine ⟨⟨by decide, by decide⟩, _, SqL.of (e2_10 _ _ sk2.dp), fun p8 hp8 => ?_⟩
          rw [hke, cd]
          have e11 : Same H10 (upd H10 p8 (.lst ((ds.take (ds.length - k)).map V.int))) := same_new hp8 _
          have h118 : upd H10 p8 (.lst ((ds.take (ds.length - k)).map V.int)) p8 = some (.lst ((ds.take (ds.length - k)).map V.int)) := upd_same
          generalize upd H10 p8 (.lst ((ds.take (ds.length - k)).map V.int)) = H11 at e11 h118 ⊢
          refine ⟨small (by decide), fun p9 hp9 => ?_⟩
          have e12 : Same H11 (upd H11 p9 (.lst [.int (maxI (ds.drop (ds.length - k)) + 1)])) := same_new hp9 _
          have h129 : upd H11 p9 (.lst [.int (maxI (ds.drop (ds.length - k)) + 1)]) p9 = some (.lst [.int (maxI (ds.drop (ds.length - k)) + 1)]) := upd_same
          generalize upd H11 p9 (.lst [.int (maxI (ds.drop (ds.length - k)) + 1)]) = H12 at e12 h129 ⊢
          refine ⟨_, e12 _ _ h118, _, h129, small (by rw [List.length_map, List.length_take, List.length_singleton]; omega), fun p10 hp10 => ?_⟩
          have e13 : Same H12 (upd H12 p10 (.lst ((ds.take (ds.length - k)).map V.int ++ [.int (maxI (ds.drop (ds.length - k)) + 1)]))) := same_new hp10 _
          have h1310 : upd H12 p10 (.lst ((ds.take (ds.length - k)).map V.int ++ [.int (maxI (ds.drop (ds.length - k)) + 1)])) p10 = some (.lst ((ds.take (ds.length - k)).map V.int ++ [.int (maxI (ds.drop (ds.length - k)) + 1)])) := upd_same
          have h7_12 : H12 p7 = some (.lst (vs.take (vs.length - k) ++ [.ref p5])) := (e11.trans e12) _ _ h107
          have n710 : p7 ≠ p10 := ne_of_none h7_12 hp10
          have eH : Same H H12 := (((hs.trans e2).trans e2_10).trans e11).trans e12
          generalize upd H12 p10 (.lst ((ds.take (ds.length - k)).map V.int ++ [.int (maxI (ds.drop (ds.length - k)) + 1)])) = H13 at e13 h1310 ⊢
          have e2_13 : Same H2 H13 := ((e2_10.trans e11).trans e12).trans e13
          have mge : ∀ d ∈ ds.drop (ds.length - k), d ≤ maxI (ds.drop (ds.length - k)) := fun d hd => maxI_ge hd
          have mnn : 0 ≤ maxI (ds.drop (ds.length - k)) := by
            have hm := maxI_mem dne
            have fdd := FD.drop (ds.length - k) sk2.fd
            have : ∀ {ts : List Tm} {ds : List Int} {d : Int}, FD ts ds → d ∈ ds → 0 ≤ d := by
              intro ts
              induction ts with
              | nil => intro ds d h hd; have h : ds = [] := h; rw [h] at hd; cases hd
              | cons t ts ih =>
                intro ds d h hd
                obtain ⟨d', r, e, a, b, c, h⟩ := h
                subst e
                rcases List.mem_cons.mp hd with rfl | hd
                · exact a
                · exact ih h hd
            exact this fdd hm
          have hdts : ds.length = ts.length := hdl
          refine fin (eH.trans e13) n7 (eH.free hp10) (ts := ts.take (ts.length - k) ++ [.node wd (ts.drop (ts.length - k))]) (ds := ds.take (ds.length - k) ++ [maxI (ds.drop (ds.length - k)) + 1])
            ⟨n710, ⟨_, e13 _ _ h7_12, ?_⟩, by rw [h1310, List.map_append]; rfl, ?_⟩ ?_ (fun x hx => by
              rw [nmss_app, nmss, nmss, List.append_nil, nms, ← nmss_app, List.take_append_drop] at hx
              exact hnn x hx)
          · rw [hlv]
            refine TAts.append (TAts.take _ (TAts.tups e2_13.tups hts)) (TAts.one (TAt.mkNode (vs := vs.drop (vs.length - k)) ?_ ?_))
            · exact (((((e9.trans e10).trans e11).trans e12).trans e13) _ _ h85)
            · rw [hlv]
              exact TAts.drop _ (TAts.tups e2_13.tups hts)
          · rw [hdts]
            refine FD.append (FD.take _ sk2.fd) (FD.one (by rw [← hdts]; omega) (by rw [← hdts]; omega) ?_)
            rw [show (maxI (ds.drop (ts.length - k)) + 1).toNat = (maxI (ds.drop (ts.length - k))).toNat + 1 by rw [← hdts]; omega]
            refine ⟨?_, fun u hu => ?_⟩
            · have hl2 : 2 ≤ (ts.drop (ts.length - k)).length := by rw [List.length_drop]; omega
              rcases hwd with h | h
              · exact .inr (.inr (.inr (.inl ⟨h, hl2⟩)))
              · exact .inr (.inr (.inr (.inr ⟨h, hl2⟩)))
            obtain ⟨d, hd, d0, d1, fu⟩ := FD.fit (FD.drop (ts.length - k) sk2.fd) hu
            have := mge d (by rw [hdts]; exact hd)
            rw [hdts] at this
            exact fu.mono (by omega)
          · have e := wts_append (ts.take (ts.length - k)) (ts.drop (ts.length - k))
            rw [List.take_append_drop] at e
            rw [wts_append, wts, wts, wt]
            omega
        simp only [tSeq, tFor_eq, tLC_eq, iRng1, iRng2, iList, iTup, iStr, tIfS, tRet, tRetN, tNext, tAsg, gName, tVar, tC, tOp, rI0, rI, tTest, tB, rEq, rNe, tCall, tCons, tNil, tCB, tLst, tTup, tAnd, tOr, tNot, tAndV, tOrV, tNotV, tIf, tDrop, tSl, tPart, tNoPart, tChain, tUn, rU, L2.start, cx_K, bk_K, cx_calm, bk_calm, lenV_str, and_assoc, Option.join, List.length_map, List.length_append, decide_eq_true_eq, Bool.false_eq_true, if_false, if_true, Bool.not_true, Bool.not_false, Bool.not_eq_true', decide_eq_false_iff_not, Bool.true_eq_false, List.length_cons, List.length_nil, List.map_cons, List.map_nil, List.replicate, List.cons_append, List.nil_append, List.append_nil, List.getElem?_cons_zero, List.getElem?_cons_succ, List.set_cons_zero, List.set_cons_succ, Nat.reduceSub, Nat.reduceAdd, Option.some.injEq, V.int.injEq, V.str.injEq, V.bl.injEq, V.ref.injEq, List.cons.injEq, and_true, true_and, exists_eq_left', exists_eq_left, exists_and_left, exists_eq_right, exists_const, tBM, tBM0, rAppend, rPop, rIxL, rIxT, rIxS, rSlL, rSlT, rSlS, rCat, rCatT]
        have sk1 := sk.same e1
        obtain ⟨vs, hsv, hts⟩ := sk1.st
        have hlv := hts.length
        split
        · rename_i h5
          split
          · rename_i h0
            obtain ⟨k, hk2, hke⟩ : ∃ k : Nat, (k = 2 ∨ k = 3) ∧ 0 - 2 - n % 9 / 3 = -(k : Int) := by
              have : n % 9 / 3 = 0 ∨ n % 9 / 3 = 1 := by omega
              rcases this with h | h
              · exact ⟨2, .inl rfl, by omega⟩
              · exact ⟨3, .inr rfl, by omega⟩
            refine ⟨_, .inl ⟨_, SqL.of hsv, rfl⟩, ⟨by decide, by decide⟩, ?_⟩
            split
            · rename_i hlen
              have hk : k ≤ ts.length := by omega
              have hlm : (ds.map V.int).length = ds.length := List.length_map _
              have cv : cutV (ds.map V.int) (some (-(k : Int))) none = (ds.drop (ds.length - k)).map V.int := by rw [cut_last _ k (by omega) (by omega), hlm, List.map_drop]
              refine ⟨⟨by decide, by decide⟩, _, SqL.of sk1.dp, fun p1 hp1 => ?_⟩
              rw [hke, cv]
              refine ⟨_, SqL.of upd_same, ?_, ?_⟩
              · intro z
                have := congrArg List.length z
                rw [List.length_drop, List.length_nil] at this
                omega
              · split
                · rename_i hm
                  exact hT2' _ (e1.trans (same_new hp1 _)) k hk2 hke hk hm
                · exact hU2' _ (e1.trans (same_new hp1 _))
            · exact hU2' _ e1
          · exact hU2' _ e1
        · exact hU2' _ e1
      simp only [tSeq, tFor_eq, tLC_eq, iRng1, iRng2, iList, iTup, iStr, tIfS, tRet, tRetN, tNext, tAsg, gName, tVar, tC, tOp, rI0, rI, tTest, tB, rEq, rNe, tCall, tCons, tNil, tCB, tLst, tTup, tAnd, tOr, tNot, tAndV, tOrV, tNotV, tIf, tDrop, tSl, tPart, tNoPart, tChain, tUn, rU, L2.start, cx_K, bk_K, cx_calm, bk_calm, lenV_str, and_assoc, Option.join, List.length_map, List.length_append, decide_eq_true_eq, Bool.false_eq_true, if_false, if_true, Bool.not_true, Bool.not_false, Bool.not_eq_true', decide_eq_false_iff_not, Bool.true_eq_false, List.length_cons, List.length_nil, List.map_cons, List.map_nil, List.replicate, List.cons_append, List.nil_append, List.append_nil, List.getElem?_cons_zero, List.getElem?_cons_succ, List.set_cons_zero, List.set_cons_succ, Nat.reduceSub, Nat.reduceAdd, Option.some.injEq, V.int.injEq, V.str.injEq, V.bl.injEq, V.ref.injEq, List.cons.injEq, and_true, true_and, exists_eq_left', exists_eq_left, exists_and_left, exists_eq_right, exists_const, tBM, tBM0, rAppend, rPop, rIxL, rIxT, rIxS, rSlL, rSlT, rSlS, rCat, rCatT]
      obtain ⟨vs, hsv, hts⟩ := sk.st
      have hlv := hts.length
      refine ⟨rfl, ?_⟩
      split
      · refine ⟨_, .inl ⟨_, SqL.of hsv, rfl⟩, ?_⟩
        split
        · rename_i hpos
          have hne : ts ≠ [] := by intro z; subst z; rw [hlv] at hpos; exact absurd hpos (by decide)
          obtain ⟨ts', t, ds', d, vs', v, e1, e2, hsv', hts', htv, hfd', d0, d1, ft⟩ := sk.top hne
          refine ⟨_, SqL.of sk.dp, .int d, by rw [e2]; exact last_int _ _, d, rfl, ?_⟩
          split
          · rename_i h17
            refine hT' _ (Same.refl _) hne fun ds'' d'' e3 => ?_
            have e4 := e2.symm.trans e3
            have e5 := List.append_inj_right' e4 rfl
            cases e5
            exact h17
          · exact hU' _ (Same.refl _)
        · exact hU' _ (Same.refl _)
      · exact hU' _ (Same.refl _)
    · obtain ⟨hs, sa, da, ts, ds, o1, o2, o3, o4, nsa, nda, sk, hw, hnn, rfl⟩ := h
      rw [List.length_map] at hw
      exact hN _ _ ⟨hs, sa, da, ts, ds, _, _, _, _, nsa, nda, sk, hw, hnn, rfl⟩
  · obtain ⟨hs, sa, da, ts, ds, o1, o2, o3, o4, nsa, nda, sk, hw, hnn, rfl⟩ := h
    obtain ⟨vs, hsv, hts⟩ := sk.st
    have hlv := hts.length
    have f17 : ∀ t ∈ ts, Fit 17 t := fun t ht => by
      obtain ⟨d, _, d0, d1, h⟩ := sk.fd.fit ht
      exact h.mono (by omega)
    simp only [tSeq, tFor_eq, tLC_eq, iRng1, iRng2, iList, iTup, iStr, tIfS, tRet, tRetN, tNext, tAsg, gName, tVar, tC, tOp, rI0, rI, tTest, tB, rEq, rNe, tCall, tCons, tNil, tCB, tLst, tTup, tAnd, tOr, tNot, tAndV, tOrV, tNotV, tIf, tDrop, tSl, tPart, tNoPart, tChain, tUn, rU, L2.start, cx_K, bk_K, cx_calm, bk_calm, lenV_str, and_assoc, Option.join, List.length_map, List.length_append, decide_eq_true_eq, Bool.false_eq_true, if_false, if_true, Bool.not_true, Bool.not_false, Bool.not_eq_true', decide_eq_false_iff_not, Bool.true_eq_false, List.length_cons, List.length_nil, List.map_cons, List.map_nil, List.replicate, List.cons_append, List.nil_append, List.append_nil, List.getElem?_cons_zero, List.getElem?_cons_succ, List.set_cons_zero, List.set_cons_succ, Nat.reduceSub, Nat.reduceAdd, Option.some.injEq, V.int.injEq, V.str.injEq, V.bl.injEq, V.ref.injEq, List.cons.injEq, and_true, true_and, exists_eq_left', exists_eq_left, exists_and_left, exists_eq_right, exists_const, tBM, tBM0, rAppend, rPop, rIxL, rIxT, rIxS, rSlL, rSlT, rSlS, rCat, rCatT]
    refine ⟨_, .inl ⟨_, SqL.of hsv, rfl⟩, rfl, ?_⟩
    split
    · rename_i h0
      have hv : vs = [] := List.eq_nil_of_length_eq_zero (by omega)
      subst hv
      refine ⟨.inl ⟨rfl, _, SqL.of hsv⟩, small (by decide), fun p1 hp1 => ⟨[], same_new hp1 _ _ _ hsv, small1000 (by decide), ?_⟩⟩
      have n1 : H p1 = none := hs.free hp1
      refine q sa [.ref p1] [.node "all" []] _ ((hs.upd n1).upd nsa) upd_same (TAts.one (TAt.mkNode (vs := []) ?_ rfl)) (by simp) (fun t ht => ?_) (by rw [wts, wts, wt, wts]; omega) (fun x hx => by simp [nmss, nms] at hx)
      · rw [upd_ne (Ne.symm (ne_of_none hsv hp1))]
        exact upd_same
      · rw [List.mem_singleton.mp ht]
        exact ⟨.inr (.inl ⟨rfl, rfl⟩), fun _ z => nomatch z⟩
    · rename_i h0
      refine q sa vs ts H' hs hsv hts ?_ f17 (by omega) hnn
      intro z
      subst z
      have : vs = [] := List.eq_nil_of_length_eq_zero hlv
      subst this
      exact h0 rfl
end

end C
set_option Elab.async false
set_option linter.all false
set_option maxRecDepth 100000
set_option maxHeartbeats 8000000
namespace C
open PySem L2
seal PE PT PW PA PS PSs PG PGs PI PPs PO PSet PIf
abbrev s_law_alike : Stmt := top 16
theorem sc_law_alike : FnScope ["found", "due", "k"] ["found", "due"] (defScope s_law_alike) := ⟨rfl, rfl, rfl, by decide +kernel, rfl, by decide +kernel, by decide +kernel⟩
def spAlk : Nat → Sp
  | 0 => fun _ _ _ _ => False
  | n + 1 => fun vs H Q _ => ∃ (v v' : V) (d : Dt), vs = [v, v'] ∧ DAt H d v ∧ DAt H d v' ∧ DFit n d ∧ Q (.bl true) H
section
variable {P : Program} {w : World} {K : PySem.W.Frag} {mg : Str → Option Value} {base : Heap} {f : Addr} {fd : FuncData}
theorem ok_alike (bi : Bi mg) (F : Fun K "_law_alike" "_law_alike" s_law_alike f fd) (b : Binds K fd ["found", "due"] []) (m : mg "_law_alike" = some (.ref f)) : ∀ n, FnOk P w K mg base CX0 n f fd ["found", "due"] (spAlk n) := by
  refine rec_ok F b m (fun vs H Q E h => h) (fun n h_law_alike => ?_)
  refine F.ok sc_law_alike (fun vs H Q E h => ?_) (fun cdv A outer s H vs Q E hr h => ?_)
  · obtain ⟨v, v', d, rfl, _⟩ := h
    rfl
  obtain ⟨v, v', d, rfl, hv, hv', hd, q⟩ := h
  refine ⟨_, (pss_cons (ps_if (pt_val (pe_callB (call_isi (T := "bool")) rfl bi.isinstance bt_isinstance (pa_cons (pv 1) (pa_cons (pe_ty bi.bool bt_bool rfl) pa_nil)))) (pss_one (ps_ret (pe_and (pe_callB (call_isi (T := "bool")) rfl bi.isinstance bt_isinstance (pa_cons (pv 0) (pa_cons (pe_ty bi.bool bt_bool rfl) pa_nil))) (pe_one (pe_cmpR op_eq (pv 0) (pv 1) (nomark _)))))) pss_nil) (pss_cons (ps_if (pt_val (pe_callB (call_isi (T := "int")) rfl bi.isinstance bt_isinstance (pa_cons (pv 1) (pa_cons (pe_ty bi.int bt_int rfl) pa_nil)))) (pss_one (ps_ret (pe_and (pe_callB (call_isi (T := "int")) rfl bi.isinstance bt_isinstance (pa_cons (pv 0) (pa_cons (pe_ty bi.int bt_int rfl) pa_nil))) (pe_and (pe_not (pe_callB (call_isi (T := "bool")) rfl bi.isinstance bt_isinstance (pa_cons (pv 0) (pa_cons (pe_ty bi.bool bt_bool rfl) pa_nil)))) (pe_one (pe_cmpR op_eq (pv 0) (pv 1) (nomark _))))))) pss_nil) (pss_cons (ps_if (pt_val (pe_callB (call_isi (T := "str")) rfl bi.isinstance bt_isinstance (pa_cons (pv 1) (pa_cons (pe_ty bi.str bt_str rfl) pa_nil)))) (pss_one (ps_ret (pe_and (pe_callB (call_isi (T := "str")) rfl bi.isinstance bt_isinstance (pa_cons (pv 0) (pa_cons (pe_ty bi.str bt_str rfl) pa_nil))) (pe_one (pe_cmpR op_eq (pv 0) (pv 1) (nomark _)))))) pss_nil) (pss_cons (ps_if (pt_cmpR op_isN (pv 1) pe_non (nomark _)) (pss_one (ps_ret (pe_cmpR op_isN (pv 0) pe_non (nomark _)))) pss_nil) (pss_cons (ps_if (pt_val (pe_callB (call_isi (T := "tuple")) rfl bi.isinstance bt_isinstance (pa_cons (pv 1) (pa_cons (pe_ty bi.tuple bt_tuple rfl) pa_nil)))) (pss_one (ps_if (pt_not (pt_val (pe_callB (call_isi (T := "tuple")) rfl bi.isinstance bt_isinstance (pa_cons (pv 0) (pa_cons (pe_ty bi.tuple bt_tuple rfl) pa_nil))))) (pss_one (ps_ret pe_bl)) pss_nil)) (pss_one (ps_if (pt_not (pt_val (pe_callB (call_isi (T := "list")) rfl bi.isinstance bt_isinstance (pa_cons (pv 0) (pa_cons (pe_ty bi.list bt_list rfl) pa_nil))))) (pss_one (ps_ret pe_bl)) pss_nil))) (pss_cons (ps_if (pt_cmpR op_ne (pe_callB call_len rfl bi.len bt_len (pa_cons (pv 0) pa_nil)) (pe_callB call_len rfl bi.len bt_len (pa_cons (pv 1) pa_nil)) (nomark _)) (pss_one (ps_ret pe_bl)) pss_nil) (pss_cons (ps_for PassesOwn.never rfl (pi_range1 rfl bi.range (pa_cons (pe_callB call_len rfl bi.len bt_len (pa_cons (pv 1) pa_nil)) pa_nil)) (pg_name (i := 2) sc_law_alike.nd rfl (Or.inl rfl)) (pss_one (ps_if (pt_not (pt_val (pe_callH h_law_alike hr rfl (pa_cons (pe_ix ix_seq (pv 0) (pv 2) (fun _ _ => rfl)) (pa_cons (pe_ix ix_seq (pv 1) (pv 2) (fun _ _ => rfl)) pa_nil))))) (pss_one (ps_ret pe_bl)) pss_nil))) (pss_one (ps_ret pe_bl))))))))), ?_⟩
  cases d with
  | non =>
    have e : v = .non := hv
    have e' : v' = .non := hv'
    subst e; subst e'
    simp only [tSeq, tFor_eq, tLC_eq, iRng1, iRng2, iList, iTup, iStr, tIfS, tRet, tRetN, tNext, tAsg, gName, tVar, tC, tOp, rI0, rI, tTest, tB, rEq, rNe, tCall, tCons, tNil, tCB, tLst, tTup, tAnd, tOr, tNot, tAndV, tOrV, tNotV, tIf, tDrop, tSl, tPart, tNoPart, tChain, tUn, rU, L2.start, cx_K, bk_K, cx_calm, bk_calm, lenV_str, and_assoc, Option.join, List.length_map, List.length_append, decide_eq_true_eq, Bool.false_eq_true, if_false, if_true, Bool.not_true, Bool.not_false, Bool.not_eq_true', decide_eq_false_iff_not, Bool.true_eq_false, List.length_cons, List.length_nil, List.map_cons, List.map_nil, List.replicate, List.cons_append, List.nil_append, List.append_nil, List.getElem?_cons_zero, List.getElem?_cons_succ, List.set_cons_zero, List.set_cons_succ, Nat.reduceSub, Nat.reduceAdd, Option.some.injEq, V.int.injEq, V.str.injEq, V.bl.injEq, V.ref.injEq, List.cons.injEq, and_true, true_and, exists_eq_left', exists_eq_left, exists_and_left, exists_eq_right, exists_const]
    exact ⟨_, .non, false, kit_nb, iteF ⟨_, .non, false, kit_ni, iteF ⟨_, .non, false, kit_ns, iteF q⟩⟩⟩
  | bl x =>
    have e : v = .bl x := hv
    have e' : v' = .bl x := hv'
    subst e; subst e'
    simp only [tSeq, tFor_eq, tLC_eq, iRng1, iRng2, iList, iTup, iStr, tIfS, tRet, tRetN, tNext, tAsg, gName, tVar, tC, tOp, rI0, rI, tTest, tB, rEq, rNe, tCall, tCons, tNil, tCB, tLst, tTup, tAnd, tOr, tNot, tAndV, tOrV, tNotV, tIf, tDrop, tSl, tPart, tNoPart, tChain, tUn, rU, L2.start, cx_K, bk_K, cx_calm, bk_calm, lenV_str, and_assoc, Option.join, List.length_map, List.length_append, decide_eq_true_eq, Bool.false_eq_true, if_false, if_true, Bool.not_true, Bool.not_false, Bool.not_eq_true', decide_eq_false_iff_not, Bool.true_eq_false, List.length_cons, List.length_nil, List.map_cons, List.map_nil, List.replicate, List.cons_append, List.nil_append, List.append_nil, List.getElem?_cons_zero, List.getElem?_cons_succ, List.set_cons_zero, List.set_cons_succ, Nat.reduceSub, Nat.reduceAdd, Option.some.injEq, V.int.injEq, V.str.injEq, V.bl.injEq, V.ref.injEq, List.cons.injEq, and_true, true_and, exists_eq_left', exists_eq_left, exists_and_left, exists_eq_right, exists_const]
    exact ⟨_, .bl x, true, kit_same, iteT ⟨_, .bl x, true, kit_same, iteT ⟨rfl, q⟩⟩⟩
  | int x =>
    have e : v = .int x := hv
    have e' : v' = .int x := hv'
    subst e; subst e'
    simp only [tSeq, tFor_eq, tLC_eq, iRng1, iRng2, iList, iTup, iStr, tIfS, tRet, tRetN, tNext, tAsg, gName, tVar, tC, tOp, rI0, rI, tTest, tB, rEq, rNe, tCall, tCons, tNil, tCB, tLst, tTup, tAnd, tOr, tNot, tAndV, tOrV, tNotV, tIf, tDrop, tSl, tPart, tNoPart, tChain, tUn, rU, L2.start, cx_K, bk_K, cx_calm, bk_calm, lenV_str, and_assoc, Option.join, List.length_map, List.length_append, decide_eq_true_eq, Bool.false_eq_true, if_false, if_true, Bool.not_true, Bool.not_false, Bool.not_eq_true', decide_eq_false_iff_not, Bool.true_eq_false, List.length_cons, List.length_nil, List.map_cons, List.map_nil, List.replicate, List.cons_append, List.nil_append, List.append_nil, List.getElem?_cons_zero, List.getElem?_cons_succ, List.set_cons_zero, List.set_cons_succ, Nat.reduceSub, Nat.reduceAdd, Option.some.injEq, V.int.injEq, V.str.injEq, V.bl.injEq, V.ref.injEq, List.cons.injEq, and_true, true_and, exists_eq_left', exists_eq_left, exists_and_left, exists_eq_right, exists_const]
    exact ⟨_, .int x, false, kit_ib, iteF ⟨_, .int x, true, kit_same, iteT ⟨_, .int x, true, kit_same, iteT ⟨_, .int x, false, kit_ib, by rw [if_pos rfl]; exact ⟨rfl, q⟩⟩⟩⟩⟩
  | str x =>
    have e : v = .str x := hv
    have e' : v' = .str x := hv'
    subst e; subst e'
    simp only [tSeq, tFor_eq, tLC_eq, iRng1, iRng2, iList, iTup, iStr, tIfS, tRet, tRetN, tNext, tAsg, gName, tVar, tC, tOp, rI0, rI, tTest, tB, rEq, rNe, tCall, tCons, tNil, tCB, tLst, tTup, tAnd, tOr, tNot, tAndV, tOrV, tNotV, tIf, tDrop, tSl, tPart, tNoPart, tChain, tUn, rU, L2.start, cx_K, bk_K, cx_calm, bk_calm, lenV_str, and_assoc, Option.join, List.length_map, List.length_append, decide_eq_true_eq, Bool.false_eq_true, if_false, if_true, Bool.not_true, Bool.not_false, Bool.not_eq_true', decide_eq_false_iff_not, Bool.true_eq_false, List.length_cons, List.length_nil, List.map_cons, List.map_nil, List.replicate, List.cons_append, List.nil_append, List.append_nil, List.getElem?_cons_zero, List.getElem?_cons_succ, List.set_cons_zero, List.set_cons_succ, Nat.reduceSub, Nat.reduceAdd, Option.some.injEq, V.int.injEq, V.str.injEq, V.bl.injEq, V.ref.injEq, List.cons.injEq, and_true, true_and, exists_eq_left', exists_eq_left, exists_and_left, exists_eq_right, exists_const]
    exact ⟨_, .str x, false, kit_sb, iteF ⟨_, .str x, false, kit_si, iteF ⟨_, .str x, true, kit_same, iteT ⟨_, .str x, true, kit_same, iteT ⟨rfl, q⟩⟩⟩⟩⟩
  | tup ds =>
    obtain ⟨a, us, rfl, ha, hu⟩ := hv
    obtain ⟨a', us', rfl, ha', hu'⟩ := hv'
    cases n with
    | zero => exact hd.elim
    | succ n =>
      have l1 := hu.length
      have l2 := hu'.length
      have l3 : ds.length ≤ 1000 := hd.1
      simp only [tSeq, tFor_eq, tLC_eq, iRng1, iRng2, iList, iTup, iStr, tIfS, tRet, tRetN, tNext, tAsg, gName, tVar, tC, tOp, rI0, rI, tTest, tB, rEq, rNe, tCall, tCons, tNil, tCB, tLst, tTup, tAnd, tOr, tNot, tAndV, tOrV, tNotV, tIf, tDrop, tSl, tPart, tNoPart, tChain, tUn, rU, L2.start, cx_K, bk_K, cx_calm, bk_calm, lenV_str, and_assoc, Option.join, List.length_map, List.length_append, decide_eq_true_eq, Bool.false_eq_true, if_false, if_true, Bool.not_true, Bool.not_false, Bool.not_eq_true', decide_eq_false_iff_not, Bool.true_eq_false, List.length_cons, List.length_nil, List.map_cons, List.map_nil, List.replicate, List.cons_append, List.nil_append, List.append_nil, List.getElem?_cons_zero, List.getElem?_cons_succ, List.set_cons_zero, List.set_cons_succ, Nat.reduceSub, Nat.reduceAdd, Option.some.injEq, V.int.injEq, V.str.injEq, V.bl.injEq, V.ref.injEq, List.cons.injEq, and_true, true_and, exists_eq_left', exists_eq_left, exists_and_left, exists_eq_right, exists_const]
      refine ⟨_, .tup ha', false, kit_tb, iteF ⟨_, .tup ha', false, kit_ti, iteF ⟨_, .tup ha', false, kit_ts, iteF ?_⟩⟩⟩
      refine ⟨_, .tup ha', true, kit_same, iteT ⟨_, .tup ha, true, kit_same, ?_⟩⟩
      rw [if_neg (by decide)]
      refine ⟨_, .inr ⟨_, SqT.of ha, rfl⟩, _, .inr ⟨_, SqT.of ha', rfl⟩, rfl, ?_⟩
      rw [if_neg (by rw [l1, l2]; simp)]
      refine ⟨_, .inr ⟨_, SqT.of ha', rfl⟩, by omega, by omega, ?_⟩
      refine fw_range (n := (us'.length : Int).toNat) (fun i σ H' => H' = H ∧ ∃ o, σ = [some (V.ref a), some (V.ref a'), o]) ⟨rfl, _, rfl⟩ (fun i σ H' hi e => ?_) (fun σ H' e => ?_)
      · obtain ⟨rfl, o, rfl⟩ := e
        have hi' : i < ds.length := by omega
        obtain ⟨u, hu1, hu2⟩ := hu.get (List.getElem?_eq_getElem hi')
        obtain ⟨u', hu1', hu2'⟩ := hu'.get (List.getElem?_eq_getElem hi')
        simp only [tSeq, tFor_eq, tLC_eq, iRng1, iRng2, iList, iTup, iStr, tIfS, tRet, tRetN, tNext, tAsg, gName, tVar, tC, tOp, rI0, rI, tTest, tB, rEq, rNe, tCall, tCons, tNil, tCB, tLst, tTup, tAnd, tOr, tNot, tAndV, tOrV, tNotV, tIf, tDrop, tSl, tPart, tNoPart, tChain, tUn, rU, L2.start, cx_K, bk_K, cx_calm, bk_calm, lenV_str, and_assoc, Option.join, List.length_map, List.length_append, decide_eq_true_eq, Bool.false_eq_true, if_false, if_true, Bool.not_true, Bool.not_false, Bool.not_eq_true', decide_eq_false_iff_not, Bool.true_eq_false, List.length_cons, List.length_nil, List.map_cons, List.map_nil, List.replicate, List.cons_append, List.nil_append, List.append_nil, List.getElem?_cons_zero, List.getElem?_cons_succ, List.set_cons_zero, List.set_cons_succ, Nat.reduceSub, Nat.reduceAdd, Option.some.injEq, V.int.injEq, V.str.injEq, V.bl.injEq, V.ref.injEq, List.cons.injEq, and_true, true_and, exists_eq_left', exists_eq_left, exists_and_left, exists_eq_right, exists_const]
        refine .inr (.inl ⟨a, us, _, u, rfl, rfl, SqT.of ha, by rw [Int.zero_add]; exact atI_nat hu1, .inr (.inl ⟨a', us', _, u', rfl, rfl, SqT.of ha', by rw [Int.zero_add]; exact atI_nat hu1', ?_⟩)⟩)
        exact ⟨u, u', _, rfl, hu2, hu2', hd.2 _ (List.getElem_mem hi'), true, rfl, by rw [if_neg (by decide)]; exact ⟨rfl, _, rfl⟩⟩
      · obtain ⟨rfl, o, rfl⟩ := e
        simp only [tSeq, tFor_eq, tLC_eq, iRng1, iRng2, iList, iTup, iStr, tIfS, tRet, tRetN, tNext, tAsg, gName, tVar, tC, tOp, rI0, rI, tTest, tB, rEq, rNe, tCall, tCons, tNil, tCB, tLst, tTup, tAnd, tOr, tNot, tAndV, tOrV, tNotV, tIf, tDrop, tSl, tPart, tNoPart, tChain, tUn, rU, L2.start, cx_K, bk_K, cx_calm, bk_calm, lenV_str, and_assoc, Option.join, List.length_map, List.length_append, decide_eq_true_eq, Bool.false_eq_true, if_false, if_true, Bool.not_true, Bool.not_false, Bool.not_eq_true', decide_eq_false_iff_not, Bool.true_eq_false, List.length_cons, List.length_nil, List.map_cons, List.map_nil, List.replicate, List.cons_append, List.nil_append, List.append_nil, List.getElem?_cons_zero, List.getElem?_cons_succ, List.set_cons_zero, List.set_cons_succ, Nat.reduceSub, Nat.reduceAdd, Option.some.injEq, V.int.injEq, V.str.injEq, V.bl.injEq, V.ref.injEq, List.cons.injEq, and_true, true_and, exists_eq_left', exists_eq_left, exists_and_left, exists_eq_right, exists_const]
        exact q
  | lst ds =>
    obtain ⟨a, us, rfl, ha, hu⟩ := hv
    obtain ⟨a', us', rfl, ha', hu'⟩ := hv'
    cases n with
    | zero => exact hd.elim
    | succ n =>
      have l1 := hu.length
      have l2 := hu'.length
      have l3 : ds.length ≤ 1000 := hd.1
      simp only [tSeq, tFor_eq, tLC_eq, iRng1, iRng2, iList, iTup, iStr, tIfS, tRet, tRetN, tNext, tAsg, gName, tVar, tC, tOp, rI0, rI, tTest, tB, rEq, rNe, tCall, tCons, tNil, tCB, tLst, tTup, tAnd, tOr, tNot, tAndV, tOrV, tNotV, tIf, tDrop, tSl, tPart, tNoPart, tChain, tUn, rU, L2.start, cx_K, bk_K, cx_calm, bk_calm, lenV_str, and_assoc, Option.join, List.length_map, List.length_append, decide_eq_true_eq, Bool.false_eq_true, if_false, if_true, Bool.not_true, Bool.not_false, Bool.not_eq_true', decide_eq_false_iff_not, Bool.true_eq_false, List.length_cons, List.length_nil, List.map_cons, List.map_nil, List.replicate, List.cons_append, List.nil_append, List.append_nil, List.getElem?_cons_zero, List.getElem?_cons_succ, List.set_cons_zero, List.set_cons_succ, Nat.reduceSub, Nat.reduceAdd, Option.some.injEq, V.int.injEq, V.str.injEq, V.bl.injEq, V.ref.injEq, List.cons.injEq, and_true, true_and, exists_eq_left', exists_eq_left, exists_and_left, exists_eq_right, exists_const]
      refine ⟨_, .lst ha', false, kit_lb, iteF ⟨_, .lst ha', false, kit_li, iteF ⟨_, .lst ha', false, kit_ls, iteF ?_⟩⟩⟩
      refine ⟨_, .lst ha', false, kit_lt, iteF ⟨_, .lst ha, true, kit_same, ?_⟩⟩
      rw [if_neg (by decide)]
      refine ⟨_, .inl ⟨_, SqL.of ha, rfl⟩, _, .inl ⟨_, SqL.of ha', rfl⟩, rfl, ?_⟩
      rw [if_neg (by rw [l1, l2]; simp)]
      refine ⟨_, .inl ⟨_, SqL.of ha', rfl⟩, by omega, by omega, ?_⟩
      refine fw_range (n := (us'.length : Int).toNat) (fun i σ H' => H' = H ∧ ∃ o, σ = [some (V.ref a), some (V.ref a'), o]) ⟨rfl, _, rfl⟩ (fun i σ H' hi e => ?_) (fun σ H' e => ?_)
      · obtain ⟨rfl, o, rfl⟩ := e
        have hi' : i < ds.length := by omega
        obtain ⟨u, hu1, hu2⟩ := hu.get (List.getElem?_eq_getElem hi')
        obtain ⟨u', hu1', hu2'⟩ := hu'.get (List.getElem?_eq_getElem hi')
        simp only [tSeq, tFor_eq, tLC_eq, iRng1, iRng2, iList, iTup, iStr, tIfS, tRet, tRetN, tNext, tAsg, gName, tVar, tC, tOp, rI0, rI, tTest, tB, rEq, rNe, tCall, tCons, tNil, tCB, tLst, tTup, tAnd, tOr, tNot, tAndV, tOrV, tNotV, tIf, tDrop, tSl, tPart, tNoPart, tChain, tUn, rU, L2.start, cx_K, bk_K, cx_calm, bk_calm, lenV_str, and_assoc, Option.join, List.length_map, List.length_append, decide_eq_true_eq, Bool.false_eq_true, if_false, if_true, Bool.not_true, Bool.not_false, Bool.not_eq_true', decide_eq_false_iff_not, Bool.true_eq_false, List.length_cons, List.length_nil, List.map_cons, List.map_nil, List.replicate, List.cons_append, List.nil_append, List.append_nil, List.getElem?_cons_zero, List.getElem?_cons_succ, List.set_cons_zero, List.set_cons_succ, Nat.reduceSub, Nat.reduceAdd, Option.some.injEq, V.int.injEq, V.str.injEq, V.bl.injEq, V.ref.injEq, List.cons.injEq, and_true, true_and, exists_eq_left', exists_eq_left, exists_and_left, exists_eq_right, exists_const]
        refine .inl (⟨a, us, _, u, rfl, rfl, SqL.of ha, by rw [Int.zero_add]; exact atI_nat hu1, .inl (⟨a', us', _, u', rfl, rfl, SqL.of ha', by rw [Int.zero_add]; exact atI_nat hu1', ?_⟩)⟩)
        exact ⟨u, u', _, rfl, hu2, hu2', hd.2 _ (List.getElem_mem hi'), true, rfl, by rw [if_neg (by decide)]; exact ⟨rfl, _, rfl⟩⟩
      · obtain ⟨rfl, o, rfl⟩ := e
        simp only [tSeq, tFor_eq, tLC_eq, iRng1, iRng2, iList, iTup, iStr, tIfS, tRet, tRetN, tNext, tAsg, gName, tVar, tC, tOp, rI0, rI, tTest, tB, rEq, rNe, tCall, tCons, tNil, tCB, tLst, tTup, tAnd, tOr, tNot, tAndV, tOrV, tNotV, tIf, tDrop, tSl, tPart, tNoPart, tChain, tUn, rU, L2.start, cx_K, bk_K, cx_calm, bk_calm, lenV_str, and_assoc, Option.join, List.length_map, List.length_append, decide_eq_true_eq, Bool.false_eq_true, if_false, if_true, Bool.not_true, Bool.not_false, Bool.not_eq_true', decide_eq_false_iff_not, Bool.true_eq_false, List.length_cons, List.length_nil, List.map_cons, List.map_nil, List.replicate, List.cons_append, List.nil_append, List.append_nil, List.getElem?_cons_zero, List.getElem?_cons_succ, List.set_cons_zero, List.set_cons_succ, Nat.reduceSub, Nat.reduceAdd, Option.some.injEq, V.int.injEq, V.str.injEq, V.bl.injEq, V.ref.injEq, List.cons.injEq, and_true, true_and, exists_eq_left', exists_eq_left, exists_and_left, exists_eq_right, exists_const]
        exact q
end

end C
set_option Elab.async false
set_option linter.all false
set_option maxRecDepth 100000
set_option maxHeartbeats 8000000
namespace C
open PySem L2
seal PE PT PW PA PS PSs PG PGs PI PPs PO PSet PIf
abbrev s_parts_of : Stmt := top 1
theorem sc_parts_of : FnScope ["t"] ["t"] (defScope s_parts_of) := ⟨rfl, rfl, rfl, by decide +kernel, rfl, by decide +kernel, by decide +kernel⟩
abbrev s_leaves : Stmt := top 2
theorem sc_leaves : FnScope ["t", "parts"] ["t"] (defScope s_leaves) := ⟨rfl, rfl, rfl, by decide +kernel, rfl, by decide +kernel, by decide +kernel⟩
abbrev s_depth : Stmt := top 3
theorem sc_depth : FnScope ["t", "parts"] ["t"] (defScope s_depth) := ⟨rfl, rfl, rfl, by decide +kernel, rfl, by decide +kernel, by decide +kernel⟩
abbrev s_law_leaves : Stmt := top 18
theorem sc_law_leaves : FnScope ["t", "made", "part"] ["t"] (defScope s_law_leaves) := ⟨rfl, rfl, rfl, by decide +kernel, rfl, by decide +kernel, by decide +kernel⟩
abbrev s_law_depth : Stmt := top 19
theorem sc_law_depth : FnScope ["t", "made", "part"] ["t"] (defScope s_law_depth) := ⟨rfl, rfl, rfl, by decide +kernel, rfl, by decide +kernel, by decide +kernel⟩
def prt : Tm → List Tm
  | .name _ => []
  | .node _ ts => ts
def spPt : Sp := fun vs H Q _ => ∃ (v : V) (t : Tm), vs = [v] ∧ TAt H t v ∧ (∀ w ts, t = .node w ts → Wrd w) ∧ ∀ p us H', Same H H' → H' p = some (.tup us) → TAts H' (prt t) us → Q (.ref p) H'
mutual
def lvn : Tm → Nat
  | .name _ => 1
  | .node _ ts => if ts.isEmpty then 1 else lvns ts
def lvns : List Tm → Nat
  | [] => 0
  | t :: ts => lvn t + lvns ts
end
mutual
def dpn : Tm → Nat
  | .name _ => 0
  | .node _ ts => if ts.isEmpty then 0 else dpns ts + 1
def dpns : List Tm → Nat
  | [] => 0
  | t :: ts => max (dpn t) (dpns ts)
end
theorem lvns_app : ∀ ts us : List Tm, lvns (ts ++ us) = lvns ts + lvns us
  | [], us => by simp [lvns]
  | t :: ts, us => by rw [List.cons_append, lvns, lvns, lvns_app ts us]; omega
theorem dpns_app : ∀ ts us : List Tm, dpns (ts ++ us) = max (dpns ts) (dpns us)
  | [], us => by simp [dpns]
  | t :: ts, us => by rw [List.cons_append, dpns, dpns, dpns_app ts us]; omega
theorem lvns_take {ts : List Tm} {i : Nat} {t : Tm} (h : ts[i]? = some t) : lvns (ts.take (i + 1)) = lvns (ts.take i) + lvn t := by
  obtain ⟨il, ie⟩ := List.getElem?_eq_some_iff.mp h
  rw [List.take_succ_eq_append_getElem il, ie, lvns_app]
  show _ + (lvn t + lvns []) = _
  rw [lvns]
  omega
theorem dpns_take {ts : List Tm} {i : Nat} {t : Tm} (h : ts[i]? = some t) : dpns (ts.take (i + 1)) = max (dpns (ts.take i)) (dpn t) := by
  obtain ⟨il, ie⟩ := List.getElem?_eq_some_iff.mp h
  rw [List.take_succ_eq_append_getElem il, ie, dpns_app]
  show max _ (max (dpn t) (dpns [])) = _
  rw [dpns]
  omega
mutual
theorem lvn_le : ∀ t : Tm, lvn t ≤ wt t
  | .name _ => by rw [lvn, wt]; exact Nat.le_refl _
  | .node _ ts => by
    rw [lvn, wt]
    have := lvns_le ts
    split <;> omega
theorem lvns_le : ∀ ts : List Tm, lvns ts ≤ wts ts
  | [] => by rw [lvns, wts]; exact Nat.le_refl _
  | t :: ts => by
    rw [lvns, wts]
    have := lvn_le t
    have := lvns_le ts
    omega
end
mutual
theorem dpn_le : ∀ t : Tm, dpn t ≤ wt t
  | .name _ => by rw [dpn, wt]; omega
  | .node _ ts => by
    rw [dpn, wt]
    have := dpns_le ts
    split <;> omega
theorem dpns_le : ∀ ts : List Tm, dpns ts ≤ wts ts
  | [] => by rw [dpns, wts]; exact Nat.le_refl _
  | t :: ts => by
    rw [dpns, wts]
    have := dpn_le t
    have := dpns_le ts
    omega
end
theorem nat_sum (ms : List Nat) : (ms.map (fun m : Nat => (m : Int))).sum = (ms.sum : Nat) := by
  induction ms with
  | nil => rfl
  | cons m r ih => rw [List.map_cons, List.sum_cons, List.sum_cons, ih]; omega
theorem sum_take_le (ms : List Nat) (k : Nat) : (ms.take k).sum ≤ ms.sum := by
  have := congrArg List.sum (List.take_append_drop k ms)
  rw [List.sum_append] at this
  omega
theorem mem_sum {ms : List Nat} {m : Nat} (h : m ∈ ms) : m ≤ ms.sum := by
  induction ms with
  | nil => cases h
  | cons a r ih =>
    rw [List.sum_cons]
    rcases List.mem_cons.mp h with rfl | h
    · omega
    · have := ih h; omega
def maxN : List Nat → Nat
  | [] => 0
  | m :: r => max m (maxN r)
theorem maxN_snoc : ∀ (ms : List Nat) (m : Nat), maxN (ms ++ [m]) = max (maxN ms) m
  | [], m => by simp [maxN]
  | a :: r, m => by rw [List.cons_append, maxN, maxN, maxN_snoc r m]; omega
theorem maxI_nat : ∀ {ms : List Nat}, ms ≠ [] → maxI (ms.map (fun m : Nat => (m : Int))) = (maxN ms : Nat)
  | [], h => absurd rfl h
  | [m], _ => by simp [maxI, maxN]
  | m :: a :: r, _ => by
    have := maxI_nat (ms := a :: r) (by simp)
    rw [List.map_cons] at this
    rw [List.map_cons, List.map_cons, maxI, this]
    show max (m : Int) ((maxN (a :: r) : Nat) : Int) = ((max m (maxN (a :: r)) : Nat) : Int)
    omega
def spLv : Nat → Sp
  | 0 => fun _ _ _ _ => False
  | 1 => fun _ _ _ _ => False
  | n + 2 => fun vs H Q _ => ∃ (v : V) (t : Tm), vs = [v] ∧ TAt H t v ∧ Fit n t ∧ wt t ≤ 900 ∧ ∀ H', Same H H' → Q (.int (lvn t)) H'
def spDp : Nat → Sp
  | 0 => fun _ _ _ _ => False
  | 1 => fun _ _ _ _ => False
  | n + 2 => fun vs H Q _ => ∃ (v : V) (t : Tm), vs = [v] ∧ TAt H t v ∧ Fit n t ∧ wt t ≤ 900 ∧ ∀ H', Same H H' → Q (.int (dpn t)) H'
section
variable {P : Program} {w : World} {K : PySem.W.Frag} {mg : Str → Option Value} {base : Heap} {f : Addr} {fd : FuncData}
theorem ok_parts_of (bi : Bi mg) (F : Fun K "parts_of" "parts_of" s_parts_of f fd) : FnOk P w K mg base CX0 1 f fd ["t"] spPt := by
  refine F.ok sc_parts_of (fun vs H Q E h => ?_) (fun cdv A outer s H vs Q E hr h => ?_)
  · obtain ⟨v, t, rfl, _⟩ := h
    rfl
  obtain ⟨v, t, rfl, ht, hw, q⟩ := h
  refine ⟨_, (pss_one (ps_ret (pe_ifExp (pt_cmpR op_eq (pe_ix ix_tup (pv 0) pe_int (fun _ _ => rfl)) pe_str (nomark _)) (pe_tup pa_nil) (pe_slice sl_tup (pv 0) (po_some pe_int) po_none)))), ?_⟩
  cases t with
  | name x =>
    obtain ⟨a, rfl, ha⟩ := TAt.name ht
    simp only [tSeq, tFor_eq, tLC_eq, iRng1, iRng2, iList, iTup, iStr, tIfS, tRet, tRetN, tNext, tAsg, gName, tVar, tC, tOp, rI0, rI, tTest, tB, rEq, rNe, tCall, tCons, tNil, tCB, tLst, tTup, tAnd, tOr, tNot, tAndV, tOrV, tNotV, tIf, tDrop, tSl, tPart, tNoPart, tChain, tUn, rU, L2.start, cx_K, bk_K, cx_calm, bk_calm, lenV_str, and_assoc, Option.join, List.length_map, List.length_append, decide_eq_true_eq, Bool.false_eq_true, if_false, if_true, Bool.not_true, Bool.not_false, Bool.not_eq_true', decide_eq_false_iff_not, Bool.true_eq_false, List.length_cons, List.length_nil, List.map_cons, List.map_nil, List.replicate, List.cons_append, List.nil_append, List.append_nil, List.getElem?_cons_zero, List.getElem?_cons_succ, List.set_cons_zero, List.set_cons_succ, Nat.reduceSub, Nat.reduceAdd, Option.some.injEq, V.int.injEq, V.str.injEq, V.bl.injEq, V.ref.injEq, List.cons.injEq, and_true, true_and, exists_eq_left', exists_eq_left, exists_and_left, exists_eq_right, exists_const, tBM, tBM0, rAppend, rPop, rIxL, rIxT, rIxS, rSlL, rSlT, rSlS, rCat, rCatT, tKGet, cx_w, bk_w, tDGet, tDisp, tPairs, tDNewK]
    refine ⟨_, SqT.of ha, .str "name", at0, rfl, ?_⟩
    rw [if_pos rfl]
    exact ⟨small (by decide), fun p hp => q _ [] _ (same_new hp _) upd_same rfl⟩
  | node wd ts =>
    obtain ⟨a, us, rfl, ha, hu⟩ := TAt.node ht
    simp only [tSeq, tFor_eq, tLC_eq, iRng1, iRng2, iList, iTup, iStr, tIfS, tRet, tRetN, tNext, tAsg, gName, tVar, tC, tOp, rI0, rI, tTest, tB, rEq, rNe, tCall, tCons, tNil, tCB, tLst, tTup, tAnd, tOr, tNot, tAndV, tOrV, tNotV, tIf, tDrop, tSl, tPart, tNoPart, tChain, tUn, rU, L2.start, cx_K, bk_K, cx_calm, bk_calm, lenV_str, and_assoc, Option.join, List.length_map, List.length_append, decide_eq_true_eq, Bool.false_eq_true, if_false, if_true, Bool.not_true, Bool.not_false, Bool.not_eq_true', decide_eq_false_iff_not, Bool.true_eq_false, List.length_cons, List.length_nil, List.map_cons, List.map_nil, List.replicate, List.cons_append, List.nil_append, List.append_nil, List.getElem?_cons_zero, List.getElem?_cons_succ, List.set_cons_zero, List.set_cons_succ, Nat.reduceSub, Nat.reduceAdd, Option.some.injEq, V.int.injEq, V.str.injEq, V.bl.injEq, V.ref.injEq, List.cons.injEq, and_true, true_and, exists_eq_left', exists_eq_left, exists_and_left, exists_eq_right, exists_const, tBM, tBM0, rAppend, rPop, rIxL, rIxT, rIxS, rSlL, rSlT, rSlS, rCat, rCatT, tKGet, cx_w, bk_w, tDGet, tDisp, tPairs, tDNewK]
    refine ⟨_, SqT.of ha, .str wd, at0, rfl, ?_⟩
    rw [if_neg (fun e => (hw wd ts rfl).ne (V.str.inj e))]
    refine ⟨_, SqT.of ha, tail_not_whole _ _, fun p hp => ?_⟩
    rw [cut_tail]
    exact q p us _ (same_new hp _) upd_same (TAts.tups (same_new hp _).tups hu)
theorem ok_leaves (bi : Bi mg) (h_parts_of : Has P w K mg base 1 "parts_of" ["t"] spPt) (F : Fun K "leaves" "leaves" s_leaves f fd) (b : Binds K fd ["t"] []) (m : mg "leaves" = some (.ref f)) : ∀ n, FnOk P w K mg base CX0 n f fd ["t"] (spLv n) := by
  refine rec_ok F b m (fun vs H Q E h => h) (fun n h_leaves => ?_)
  cases n with
  | zero => exact ⟨fun vs H Q E h => h.elim, fun A outer s H args us vs Q E _ _ _ _ h => h.elim⟩
  | succ n =>
  refine F.ok sc_leaves (fun vs H Q E h => ?_) (fun cdv A outer s H vs Q E hr h => ?_)
  · obtain ⟨v, t, rfl, _⟩ := h
    rfl
  obtain ⟨v, t, rfl, ht, hf, hw, q⟩ := h
  refine ⟨_, (pss_cons (ps_set (i := 1) sc_leaves.nd rfl (Or.inl rfl) (pe_callH h_parts_of (hr.mono (by omega)) rfl (pa_cons (pv 0) pa_nil))) (pss_one (ps_ret (pe_ifExp (pt_truth (pv 1) (fun _ => rfl)) (pe_callB call_sumI rfl bi.sum bt_sum (pa_cons (pe_comp ["part"] [] [] (pi_tup (pv 1)) (fun _ _ _ _ nd => pg_name (i := 0) nd rfl (Or.inl rfl)) (fun _ _ _ _ => pif_nil) (fun _ _ _ _ => (pe_callH h_leaves hr rfl (pa_cons (pv 0) pa_nil)))) pa_nil)) pe_int)))), ?_⟩
  refine seq_abs fun N hN => ?_
  simp only [tSeq, tFor_eq, tLC_eq, iRng1, iRng2, iList, iTup, iStr, tIfS, tRet, tRetN, tNext, tAsg, gName, tVar, tC, tOp, rI0, rI, tTest, tB, rEq, rNe, tCall, tCons, tNil, tCB, tLst, tTup, tAnd, tOr, tNot, tAndV, tOrV, tNotV, tIf, tDrop, tSl, tPart, tNoPart, tChain, tUn, rU, L2.start, cx_K, bk_K, cx_calm, bk_calm, lenV_str, and_assoc, Option.join, List.length_map, List.length_append, decide_eq_true_eq, Bool.false_eq_true, if_false, if_true, Bool.not_true, Bool.not_false, Bool.not_eq_true', decide_eq_false_iff_not, Bool.true_eq_false, List.length_cons, List.length_nil, List.map_cons, List.map_nil, List.replicate, List.cons_append, List.nil_append, List.append_nil, List.getElem?_cons_zero, List.getElem?_cons_succ, List.set_cons_zero, List.set_cons_succ, Nat.reduceSub, Nat.reduceAdd, Option.some.injEq, V.int.injEq, V.str.injEq, V.bl.injEq, V.ref.injEq, List.cons.injEq, and_true, true_and, exists_eq_left', exists_eq_left, exists_and_left, exists_eq_right, exists_const, tBM, tBM0, rAppend, rPop, rIxL, rIxT, rIxS, rSlL, rSlT, rSlS, rCat, rCatT, tKGet, cx_w, bk_w, tDGet, tDisp, tPairs, tDNewK, spPt]
  refine ⟨t, ht, fun wd ts e => by subst e; exact hf.wrd, fun p us H1 e1 hp hu => hN _ _ ?_⟩
  have hl := hu.length
  have part : ∀ (i : Nat) (u : Tm), (prt t)[i]? = some u → ∃ m, n = m + 1 ∧ Fit m u ∧ wt u ≤ 900 := fun i u hi => by
    have hm := List.mem_of_getElem? hi
    cases t with
    | name x => cases hm
    | node wd ts =>
      have hm : u ∈ ts := hm
      have := wts_mem hm
      rw [wt] at hw
      cases n with
      | zero => rw [hf.2] at hm; cases hm
      | succ n => exact ⟨n, rfl, hf.part hm, by omega⟩
  have hwp : wts (prt t) ≤ wt t := by
    cases t with
    | name x => rw [prt, wts]; omega
    | node wd ts => rw [prt, wt]; omega
  have hwl := wts_len (prt t)
  have hlw := lvns_le (prt t)
  have hval : lvn t = if (prt t).isEmpty then 1 else lvns (prt t) := by
    cases t with
    | name x => rw [lvn, prt]; rfl
    | node wd ts => rw [lvn, prt]
  simp only [tSeq, tFor_eq, tLC_eq, iRng1, iRng2, iList, iTup, iStr, tIfS, tRet, tRetN, tNext, tAsg, gName, tVar, tC, tOp, rI0, rI, tTest, tB, rEq, rNe, tCall, tCons, tNil, tCB, tLst, tTup, tAnd, tOr, tNot, tAndV, tOrV, tNotV, tIf, tDrop, tSl, tPart, tNoPart, tChain, tUn, rU, L2.start, cx_K, bk_K, cx_calm, bk_calm, lenV_str, and_assoc, Option.join, List.length_map, List.length_append, decide_eq_true_eq, Bool.false_eq_true, if_false, if_true, Bool.not_true, Bool.not_false, Bool.not_eq_true', decide_eq_false_iff_not, Bool.true_eq_false, List.length_cons, List.length_nil, List.map_cons, List.map_nil, List.replicate, List.cons_append, List.nil_append, List.append_nil, List.getElem?_cons_zero, List.getElem?_cons_succ, List.set_cons_zero, List.set_cons_succ, Nat.reduceSub, Nat.reduceAdd, Option.some.injEq, V.int.injEq, V.str.injEq, V.bl.injEq, V.ref.injEq, List.cons.injEq, and_true, true_and, exists_eq_left', exists_eq_left, exists_and_left, exists_eq_right, exists_const, tBM, tBM0, rAppend, rPop, rIxL, rIxT, rIxS, rSlL, rSlT, rSlS, rCat, rCatT, tKGet, cx_w, bk_w, tDGet, tDisp, tPairs, tDNewK]
  refine ⟨!us.isEmpty, .inr (.inl ⟨_, SqT.of hp, rfl⟩), ?_⟩
  cases us with
  | nil =>
    have : prt t = [] := List.eq_nil_of_length_eq_zero (by simpa using hl.symm)
    rw [this] at hval
    have hq := q H1 e1
    rw [hval] at hq
    exact hq
  | cons u0 us0 =>
    generalize hus : u0 :: us0 = us at hp hu hl
    have hne : (prt t).isEmpty = false := by
      cases hpt : prt t with
      | nil => rw [hpt, ← hus] at hl; simp at hl
      | cons _ _ => rfl
    rw [hne] at hval
    rw [if_pos (by rw [← hus]; rfl)]
    refine ⟨⟨_, SqT.of hp⟩, ?_⟩
    refine lc_tup (xs := us) (fun i ys σ H' => Same H1 H' ∧ (∃ ms : List Nat, ys = (ms.map (fun m : Nat => (m : Int))).map V.int ∧ ms.length = i ∧ ms.sum = lvns ((prt t).take i)) ∧ ∃ o, σ = [o]) ⟨Same.refl _, ⟨[], rfl, rfl, rfl⟩, _, rfl⟩ (small (by omega)) (fun i ys σ H' e => ?_) (fun i ys σ H' e => SqT.of (e.1 _ _ hp)) (fun i x ys σ H' C hx e hC => ?_) (fun ys σ H' e p3 hp3 => ?_)
    · obtain ⟨_, ⟨ms, rfl, h2, _⟩, _⟩ := e
      rw [List.length_map, List.length_map, h2]
      exact Nat.le_refl _
    · obtain ⟨es, ⟨ms, rfl, h2, h3⟩, o, rfl⟩ := e
      obtain ⟨u, hu', hx'⟩ := hu.getV hx
      obtain ⟨m', rfl, f1, f2⟩ := part i u hu'
      simp only [tSeq, tFor_eq, tLC_eq, iRng1, iRng2, iList, iTup, iStr, tIfS, tRet, tRetN, tNext, tAsg, gName, tVar, tC, tOp, rI0, rI, tTest, tB, rEq, rNe, tCall, tCons, tNil, tCB, tLst, tTup, tAnd, tOr, tNot, tAndV, tOrV, tNotV, tIf, tDrop, tSl, tPart, tNoPart, tChain, tUn, rU, L2.start, cx_K, bk_K, cx_calm, bk_calm, lenV_str, and_assoc, Option.join, List.length_map, List.length_append, decide_eq_true_eq, Bool.false_eq_true, if_false, if_true, Bool.not_true, Bool.not_false, Bool.not_eq_true', decide_eq_false_iff_not, Bool.true_eq_false, List.length_cons, List.length_nil, List.map_cons, List.map_nil, List.replicate, List.cons_append, List.nil_append, List.append_nil, List.getElem?_cons_zero, List.getElem?_cons_succ, List.set_cons_zero, List.set_cons_succ, Nat.reduceSub, Nat.reduceAdd, Option.some.injEq, V.int.injEq, V.str.injEq, V.bl.injEq, V.ref.injEq, List.cons.injEq, and_true, true_and, exists_eq_left', exists_eq_left, exists_and_left, exists_eq_right, exists_const, tBM, tBM0, rAppend, rPop, rIxL, rIxT, rIxS, rSlL, rSlT, rSlS, rCat, rCatT, tKGet, cx_w, bk_w, tDGet, tDisp, tPairs, tDNewK, spLv]
      refine ⟨u, TAt.tups es.tups hx', f1, f2, fun H3 e3 => hC _ _ _ ⟨es.trans e3, ⟨ms ++ [lvn u], by rw [List.map_append, List.map_append]; rfl, by rw [List.length_append, h2]; rfl, ?_⟩, _, rfl⟩⟩
      rw [lvns_take hu', List.sum_append, h3]
      simp
    · obtain ⟨es, ⟨ms, rfl, h2, h3⟩, o, rfl⟩ := e
      rw [List.take_of_length_le (by omega)] at h3
      refine ⟨p3, rfl, _, SqL.of upd_same, fun k _ => ?_, fun k hk => ?_, ?_⟩
      · rw [← List.map_take, nat_sum]
        have := sum_take_le ms k
        constructor <;> omega
      · obtain ⟨m0, hm0, rfl⟩ := List.mem_map.mp hk
        have := mem_sum hm0
        constructor <;> omega
      · rw [nat_sum, h3]
        have hq := q _ ((e1.trans es).trans (same_new hp3 (.lst ((ms.map (fun m : Nat => (m : Int))).map V.int))))
        rw [hval] at hq
        exact hq
theorem ok_law_leaves (bi : Bi mg) (F : Fun K "_law_leaves" "_law_leaves" s_law_leaves f fd) (b : Binds K fd ["t"] []) (m : mg "_law_leaves" = some (.ref f)) : ∀ n, FnOk P w K mg base CX0 n f fd ["t"] (spLv n) := by
  refine rec_ok F b m (fun vs H Q E h => h) (fun n h_law_leaves => ?_)
  cases n with
  | zero => exact ⟨fun vs H Q E h => h.elim, fun A outer s H args us vs Q E _ _ _ _ h => h.elim⟩
  | succ n =>
  refine F.ok sc_law_leaves (fun vs H Q E h => ?_) (fun cdv A outer s H vs Q E hr h => ?_)
  · obtain ⟨v, t, rfl, _⟩ := h
    rfl
  obtain ⟨v, t, rfl, ht, hf, hw, q⟩ := h
  refine ⟨_, (pss_cons (ps_if (PW.pt (pw_or (pt_cmpR op_eq (pe_ix ix_tup (pv 0) pe_int (fun _ _ => rfl)) pe_str (nomark _)) (pw_or1 (pt_cmpR op_eq (pe_callB call_len rfl bi.len bt_len (pa_cons (pv 0) pa_nil)) pe_int (nomark _))))) (pss_one (ps_ret pe_int)) pss_nil) (pss_cons (ps_set (i := 1) sc_law_leaves.nd rfl (Or.inl rfl) pe_int) (pss_cons (ps_for PassesOwn.never rfl (pi_tup (pe_slice sl_tup (pv 0) (po_some pe_int) po_none)) (pg_name (i := 2) sc_law_leaves.nd rfl (Or.inl rfl)) (pss_one (ps_set (i := 1) sc_law_leaves.nd rfl (Or.inl rfl) (pe_op op_add (pv 1) (pe_callH h_law_leaves hr rfl (pa_cons (pv 2) pa_nil)))))) (pss_one (ps_ret (pv 1)))))), ?_⟩
  cases t with
  | name x =>
    obtain ⟨a, rfl, ha⟩ := TAt.name ht
    refine seq_abs fun N hN => ?_
    simp only [tSeq, tFor_eq, tLC_eq, iRng1, iRng2, iList, iTup, iStr, tIfS, tRet, tRetN, tNext, tAsg, gName, tVar, tC, tOp, rI0, rI, tTest, tB, rEq, rNe, tCall, tCons, tNil, tCB, tLst, tTup, tAnd, tOr, tNot, tAndV, tOrV, tNotV, tIf, tDrop, tSl, tPart, tNoPart, tChain, tUn, rU, L2.start, cx_K, bk_K, cx_calm, bk_calm, lenV_str, and_assoc, Option.join, List.length_map, List.length_append, decide_eq_true_eq, Bool.false_eq_true, if_false, if_true, Bool.not_true, Bool.not_false, Bool.not_eq_true', decide_eq_false_iff_not, Bool.true_eq_false, List.length_cons, List.length_nil, List.map_cons, List.map_nil, List.replicate, List.cons_append, List.nil_append, List.append_nil, List.getElem?_cons_zero, List.getElem?_cons_succ, List.set_cons_zero, List.set_cons_succ, Nat.reduceSub, Nat.reduceAdd, Option.some.injEq, V.int.injEq, V.str.injEq, V.bl.injEq, V.ref.injEq, List.cons.injEq, and_true, true_and, exists_eq_left', exists_eq_left, exists_and_left, exists_eq_right, exists_const, tBM, tBM0, rAppend, rPop, rIxL, rIxT, rIxS, rSlL, rSlT, rSlS, rCat, rCatT, tKGet, cx_w, bk_w, tDGet, tDisp, tPairs, tDNewK]
    refine ⟨_, SqT.of ha, .str "name", at0, rfl, ?_⟩
    rw [if_pos rfl]
    have hq := q _ (Same.refl H)
    rw [lvn] at hq
    exact hq
  | node wd ts =>
    obtain ⟨a, us, rfl, ha, hu⟩ := TAt.node ht
    have hwd := hf.wrd
    have hl := hu.length
    have hll := wts_len ts
    rw [wt] at hw
    refine seq_abs fun N hN => ?_
    simp only [tSeq, tFor_eq, tLC_eq, iRng1, iRng2, iList, iTup, iStr, tIfS, tRet, tRetN, tNext, tAsg, gName, tVar, tC, tOp, rI0, rI, tTest, tB, rEq, rNe, tCall, tCons, tNil, tCB, tLst, tTup, tAnd, tOr, tNot, tAndV, tOrV, tNotV, tIf, tDrop, tSl, tPart, tNoPart, tChain, tUn, rU, L2.start, cx_K, bk_K, cx_calm, bk_calm, lenV_str, and_assoc, Option.join, List.length_map, List.length_append, decide_eq_true_eq, Bool.false_eq_true, if_false, if_true, Bool.not_true, Bool.not_false, Bool.not_eq_true', decide_eq_false_iff_not, Bool.true_eq_false, List.length_cons, List.length_nil, List.map_cons, List.map_nil, List.replicate, List.cons_append, List.nil_append, List.append_nil, List.getElem?_cons_zero, List.getElem?_cons_succ, List.set_cons_zero, List.set_cons_succ, Nat.reduceSub, Nat.reduceAdd, Option.some.injEq, V.int.injEq, V.str.injEq, V.bl.injEq, V.ref.injEq, List.cons.injEq, and_true, true_and, exists_eq_left', exists_eq_left, exists_and_left, exists_eq_right, exists_const, tBM, tBM0, rAppend, rPop, rIxL, rIxT, rIxS, rSlL, rSlT, rSlS, rCat, rCatT, tKGet, cx_w, bk_w, tDGet, tDisp, tPairs, tDNewK]
    refine ⟨_, SqT.of ha, .str wd, at0, rfl, ?_⟩
    rw [if_neg (fun e => hwd.ne (V.str.inj e))]
    refine ⟨_, .inr ⟨_, SqT.of ha, rfl⟩, rfl, ?_⟩
    by_cases h0 : ts = []
    · subst h0
      have : us = [] := List.eq_nil_of_length_eq_zero (by simpa using hl)
      subst this
      rw [if_pos (by rfl)]
      have hq := q _ (Same.refl H)
      rw [lvn] at hq
      exact hq
    have hus : us.length ≠ 0 := fun z => h0 (List.eq_nil_of_length_eq_zero (by omega))
    rw [if_neg (by rw [List.length_cons]; omega)]
    have hval : lvn (.node wd ts) = lvns ts := by
      rw [lvn, if_neg (by cases ts with | nil => exact absurd rfl h0 | cons _ _ => simp)]
    have hlw := lvns_le ts
    refine hN _ _ ?_
    refine seq_abs fun N hN => ?_
    simp only [tSeq, tFor_eq, tLC_eq, iRng1, iRng2, iList, iTup, iStr, tIfS, tRet, tRetN, tNext, tAsg, gName, tVar, tC, tOp, rI0, rI, tTest, tB, rEq, rNe, tCall, tCons, tNil, tCB, tLst, tTup, tAnd, tOr, tNot, tAndV, tOrV, tNotV, tIf, tDrop, tSl, tPart, tNoPart, tChain, tUn, rU, L2.start, cx_K, bk_K, cx_calm, bk_calm, lenV_str, and_assoc, Option.join, List.length_map, List.length_append, decide_eq_true_eq, Bool.false_eq_true, if_false, if_true, Bool.not_true, Bool.not_false, Bool.not_eq_true', decide_eq_false_iff_not, Bool.true_eq_false, List.length_cons, List.length_nil, List.map_cons, List.map_nil, List.replicate, List.cons_append, List.nil_append, List.append_nil, List.getElem?_cons_zero, List.getElem?_cons_succ, List.set_cons_zero, List.set_cons_succ, Nat.reduceSub, Nat.reduceAdd, Option.some.injEq, V.int.injEq, V.str.injEq, V.bl.injEq, V.ref.injEq, List.cons.injEq, and_true, true_and, exists_eq_left', exists_eq_left, exists_and_left, exists_eq_right, exists_const, tBM, tBM0, rAppend, rPop, rIxL, rIxT, rIxS, rSlL, rSlT, rSlS, rCat, rCatT, tKGet, cx_w, bk_w, tDGet, tDisp, tPairs, tDNewK]
    refine hN _ _ ?_
    refine seq_join (fun σ H' => Same H H' ∧ ∃ o1 o2, σ = [o1, some (V.int (lvns ts)), o2]) (fun N hN => ?_) (fun σ H' h => ?_)
    · simp only [tSeq, tFor_eq, tLC_eq, iRng1, iRng2, iList, iTup, iStr, tIfS, tRet, tRetN, tNext, tAsg, gName, tVar, tC, tOp, rI0, rI, tTest, tB, rEq, rNe, tCall, tCons, tNil, tCB, tLst, tTup, tAnd, tOr, tNot, tAndV, tOrV, tNotV, tIf, tDrop, tSl, tPart, tNoPart, tChain, tUn, rU, L2.start, cx_K, bk_K, cx_calm, bk_calm, lenV_str, and_assoc, Option.join, List.length_map, List.length_append, decide_eq_true_eq, Bool.false_eq_true, if_false, if_true, Bool.not_true, Bool.not_false, Bool.not_eq_true', decide_eq_false_iff_not, Bool.true_eq_false, List.length_cons, List.length_nil, List.map_cons, List.map_nil, List.replicate, List.cons_append, List.nil_append, List.append_nil, List.getElem?_cons_zero, List.getElem?_cons_succ, List.set_cons_zero, List.set_cons_succ, Nat.reduceSub, Nat.reduceAdd, Option.some.injEq, V.int.injEq, V.str.injEq, V.bl.injEq, V.ref.injEq, List.cons.injEq, and_true, true_and, exists_eq_left', exists_eq_left, exists_and_left, exists_eq_right, exists_const, tBM, tBM0, rAppend, rPop, rIxL, rIxT, rIxS, rSlL, rSlT, rSlS, rCat, rCatT, tKGet, cx_w, bk_w, tDGet, tDisp, tPairs, tDNewK]
      refine ⟨_, SqT.of ha, tail_not_whole _ _, fun p3 hp3 => ?_⟩
      rw [cut_tail]
      have e3 : Same H (upd H p3 (.tup us)) := same_new hp3 _
      have h3 : upd H p3 (.tup us) p3 = some (.tup us) := upd_same
      generalize upd H p3 (.tup us) = H3 at e3 h3 ⊢
      refine ⟨⟨_, SqT.of h3⟩, ?_⟩
      refine fw_tup (xs := us) (fun i σ H' => Same H3 H' ∧ ∃ o1 o2, σ = [o1, some (V.int (lvns (ts.take i))), o2]) ?_ (fun i σ H' _ h => SqT.of (h.1 _ _ h3)) (fun i x σ H' hx h => ?_) (fun σ H' h => ?_)
      · exact ⟨Same.refl _, _, _, rfl⟩
      · obtain ⟨es, o1, o2, rfl⟩ := h
        obtain ⟨t, ht', hx'⟩ := hu.getV hx
        have hmem := List.mem_of_getElem? ht'
        have hmt := wts_mem hmem
        cases n with
        | zero => have := hf.2; subst this; cases hmem
        | succ n =>
          simp only [tSeq, tFor_eq, tLC_eq, iRng1, iRng2, iList, iTup, iStr, tIfS, tRet, tRetN, tNext, tAsg, gName, tVar, tC, tOp, rI0, rI, tTest, tB, rEq, rNe, tCall, tCons, tNil, tCB, tLst, tTup, tAnd, tOr, tNot, tAndV, tOrV, tNotV, tIf, tDrop, tSl, tPart, tNoPart, tChain, tUn, rU, L2.start, cx_K, bk_K, cx_calm, bk_calm, lenV_str, and_assoc, Option.join, List.length_map, List.length_append, decide_eq_true_eq, Bool.false_eq_true, if_false, if_true, Bool.not_true, Bool.not_false, Bool.not_eq_true', decide_eq_false_iff_not, Bool.true_eq_false, List.length_cons, List.length_nil, List.map_cons, List.map_nil, List.replicate, List.cons_append, List.nil_append, List.append_nil, List.getElem?_cons_zero, List.getElem?_cons_succ, List.set_cons_zero, List.set_cons_succ, Nat.reduceSub, Nat.reduceAdd, Option.some.injEq, V.int.injEq, V.str.injEq, V.bl.injEq, V.ref.injEq, List.cons.injEq, and_true, true_and, exists_eq_left', exists_eq_left, exists_and_left, exists_eq_right, exists_const, tBM, tBM0, rAppend, rPop, rIxL, rIxT, rIxS, rSlL, rSlT, rSlS, rCat, rCatT, tKGet, cx_w, bk_w, tDGet, tDisp, tPairs, tDNewK, spLv]
          refine ⟨t, TAt.tups (e3.trans es).tups hx', hf.part hmem, by omega, fun H4 e4 => ?_⟩
          refine ⟨es.trans e4, ?_⟩
          rw [lvns_take ht']
          exact ⟨by omega, _, rfl⟩
      · obtain ⟨es, o1, o2, rfl⟩ := h
        rw [List.take_of_length_le (by omega)]
        exact hN _ _ ⟨e3.trans es, _, _, rfl⟩
    · obtain ⟨es, o1, o2, rfl⟩ := h
      simp only [tSeq, tFor_eq, tLC_eq, iRng1, iRng2, iList, iTup, iStr, tIfS, tRet, tRetN, tNext, tAsg, gName, tVar, tC, tOp, rI0, rI, tTest, tB, rEq, rNe, tCall, tCons, tNil, tCB, tLst, tTup, tAnd, tOr, tNot, tAndV, tOrV, tNotV, tIf, tDrop, tSl, tPart, tNoPart, tChain, tUn, rU, L2.start, cx_K, bk_K, cx_calm, bk_calm, lenV_str, and_assoc, Option.join, List.length_map, List.length_append, decide_eq_true_eq, Bool.false_eq_true, if_false, if_true, Bool.not_true, Bool.not_false, Bool.not_eq_true', decide_eq_false_iff_not, Bool.true_eq_false, List.length_cons, List.length_nil, List.map_cons, List.map_nil, List.replicate, List.cons_append, List.nil_append, List.append_nil, List.getElem?_cons_zero, List.getElem?_cons_succ, List.set_cons_zero, List.set_cons_succ, Nat.reduceSub, Nat.reduceAdd, Option.some.injEq, V.int.injEq, V.str.injEq, V.bl.injEq, V.ref.injEq, List.cons.injEq, and_true, true_and, exists_eq_left', exists_eq_left, exists_and_left, exists_eq_right, exists_const, tBM, tBM0, rAppend, rPop, rIxL, rIxT, rIxS, rSlL, rSlT, rSlS, rCat, rCatT, tKGet, cx_w, bk_w, tDGet, tDisp, tPairs, tDNewK]
      have hq := q _ es
      rw [hval] at hq
      exact hq
theorem ok_depth (bi : Bi mg) (h_parts_of : Has P w K mg base 1 "parts_of" ["t"] spPt) (F : Fun K "depth" "depth" s_depth f fd) (b : Binds K fd ["t"] []) (m : mg "depth" = some (.ref f)) : ∀ n, FnOk P w K mg base CX0 n f fd ["t"] (spDp n) := by
  refine rec_ok F b m (fun vs H Q E h => h) (fun n h_depth => ?_)
  cases n with
  | zero => exact ⟨fun vs H Q E h => h.elim, fun A outer s H args us vs Q E _ _ _ _ h => h.elim⟩
  | succ n =>
  refine F.ok sc_depth (fun vs H Q E h => ?_) (fun cdv A outer s H vs Q E hr h => ?_)
  · obtain ⟨v, t, rfl, _⟩ := h
    rfl
  obtain ⟨v, t, rfl, ht, hf, hw, q⟩ := h
  refine ⟨_, (pss_cons (ps_set (i := 1) sc_depth.nd rfl (Or.inl rfl) (pe_callH h_parts_of (hr.mono (by omega)) rfl (pa_cons (pv 0) pa_nil))) (pss_one (ps_ret (pe_ifExp (pt_truth (pv 1) (fun _ => rfl)) (pe_op op_add pe_int (pe_callB call_maxI rfl bi.max bt_max (pa_cons (pe_comp ["part"] [] [] (pi_tup (pv 1)) (fun _ _ _ _ nd => pg_name (i := 0) nd rfl (Or.inl rfl)) (fun _ _ _ _ => pif_nil) (fun _ _ _ _ => (pe_callH h_depth hr rfl (pa_cons (pv 0) pa_nil)))) pa_nil))) pe_int)))), ?_⟩
  refine seq_abs fun N hN => ?_
  simp only [tSeq, tFor_eq, tLC_eq, iRng1, iRng2, iList, iTup, iStr, tIfS, tRet, tRetN, tNext, tAsg, gName, tVar, tC, tOp, rI0, rI, tTest, tB, rEq, rNe, tCall, tCons, tNil, tCB, tLst, tTup, tAnd, tOr, tNot, tAndV, tOrV, tNotV, tIf, tDrop, tSl, tPart, tNoPart, tChain, tUn, rU, L2.start, cx_K, bk_K, cx_calm, bk_calm, lenV_str, and_assoc, Option.join, List.length_map, List.length_append, decide_eq_true_eq, Bool.false_eq_true, if_false, if_true, Bool.not_true, Bool.not_false, Bool.not_eq_true', decide_eq_false_iff_not, Bool.true_eq_false, List.length_cons, List.length_nil, List.map_cons, List.map_nil, List.replicate, List.cons_append, List.nil_append, List.append_nil, List.getElem?_cons_zero, List.getElem?_cons_succ, List.set_cons_zero, List.set_cons_succ, Nat.reduceSub, Nat.reduceAdd, Option.some.injEq, V.int.injEq, V.str.injEq, V.bl.injEq, V.ref.injEq, List.cons.injEq, and_true, true_and, exists_eq_left', exists_eq_left, exists_and_left, exists_eq_right, exists_const, tBM, tBM0, rAppend, rPop, rIxL, rIxT, rIxS, rSlL, rSlT, rSlS, rCat, rCatT, tKGet, cx_w, bk_w, tDGet, tDisp, tPairs, tDNewK, spPt]
  refine ⟨t, ht, fun wd ts e => by subst e; exact hf.wrd, fun p us H1 e1 hp hu => hN _ _ ?_⟩
  have hl := hu.length
  have part : ∀ (i : Nat) (u : Tm), (prt t)[i]? = some u → ∃ m, n = m + 1 ∧ Fit m u ∧ wt u ≤ 900 := fun i u hi => by
    have hm := List.mem_of_getElem? hi
    cases t with
    | name x => cases hm
    | node wd ts =>
      have hm : u ∈ ts := hm
      have := wts_mem hm
      rw [wt] at hw
      cases n with
      | zero => rw [hf.2] at hm; cases hm
      | succ n => exact ⟨n, rfl, hf.part hm, by omega⟩
  have hwp : wts (prt t) ≤ wt t := by
    cases t with
    | name x => rw [prt, wts]; omega
    | node wd ts => rw [prt, wt]; omega
  have hwl := wts_len (prt t)
  have hlw := dpns_le (prt t)
  have hval : dpn t = if (prt t).isEmpty then 0 else dpns (prt t) + 1 := by
    cases t with
    | name x => rw [dpn, prt]; rfl
    | node wd ts => rw [dpn, prt]
  simp only [tSeq, tFor_eq, tLC_eq, iRng1, iRng2, iList, iTup, iStr, tIfS, tRet, tRetN, tNext, tAsg, gName, tVar, tC, tOp, rI0, rI, tTest, tB, rEq, rNe, tCall, tCons, tNil, tCB, tLst, tTup, tAnd, tOr, tNot, tAndV, tOrV, tNotV, tIf, tDrop, tSl, tPart, tNoPart, tChain, tUn, rU, L2.start, cx_K, bk_K, cx_calm, bk_calm, lenV_str, and_assoc, Option.join, List.length_map, List.length_append, decide_eq_true_eq, Bool.false_eq_true, if_false, if_true, Bool.not_true, Bool.not_false, Bool.not_eq_true', decide_eq_false_iff_not, Bool.true_eq_false, List.length_cons, List.length_nil, List.map_cons, List.map_nil, List.replicate, List.cons_append, List.nil_append, List.append_nil, List.getElem?_cons_zero, List.getElem?_cons_succ, List.set_cons_zero, List.set_cons_succ, Nat.reduceSub, Nat.reduceAdd, Option.some.injEq, V.int.injEq, V.str.injEq, V.bl.injEq, V.ref.injEq, List.cons.injEq, and_true, true_and, exists_eq_left', exists_eq_left, exists_and_left, exists_eq_right, exists_const, tBM, tBM0, rAppend, rPop, rIxL, rIxT, rIxS, rSlL, rSlT, rSlS, rCat, rCatT, tKGet, cx_w, bk_w, tDGet, tDisp, tPairs, tDNewK]
  refine ⟨!us.isEmpty, .inr (.inl ⟨_, SqT.of hp, rfl⟩), ?_⟩
  cases us with
  | nil =>
    have : prt t = [] := List.eq_nil_of_length_eq_zero (by simpa using hl.symm)
    rw [this] at hval
    have hq := q H1 e1
    rw [hval] at hq
    exact hq
  | cons u0 us0 =>
    generalize hus : u0 :: us0 = us at hp hu hl
    have hne : (prt t).isEmpty = false := by
      cases hpt : prt t with
      | nil => rw [hpt, ← hus] at hl; simp at hl
      | cons _ _ => rfl
    rw [hne] at hval
    rw [if_pos (by rw [← hus]; rfl)]
    refine ⟨⟨_, SqT.of hp⟩, ?_⟩
    refine lc_tup (xs := us) (fun i ys σ H' => Same H1 H' ∧ (∃ ms : List Nat, ys = (ms.map (fun m : Nat => (m : Int))).map V.int ∧ ms.length = i ∧ maxN ms = dpns ((prt t).take i)) ∧ ∃ o, σ = [o]) ⟨Same.refl _, ⟨[], rfl, rfl, rfl⟩, _, rfl⟩ (small (by omega)) (fun i ys σ H' e => ?_) (fun i ys σ H' e => SqT.of (e.1 _ _ hp)) (fun i x ys σ H' C hx e hC => ?_) (fun ys σ H' e p3 hp3 => ?_)
    · obtain ⟨_, ⟨ms, rfl, h2, _⟩, _⟩ := e
      rw [List.length_map, List.length_map, h2]
      exact Nat.le_refl _
    · obtain ⟨es, ⟨ms, rfl, h2, h3⟩, o, rfl⟩ := e
      obtain ⟨u, hu', hx'⟩ := hu.getV hx
      obtain ⟨m', rfl, f1, f2⟩ := part i u hu'
      simp only [tSeq, tFor_eq, tLC_eq, iRng1, iRng2, iList, iTup, iStr, tIfS, tRet, tRetN, tNext, tAsg, gName, tVar, tC, tOp, rI0, rI, tTest, tB, rEq, rNe, tCall, tCons, tNil, tCB, tLst, tTup, tAnd, tOr, tNot, tAndV, tOrV, tNotV, tIf, tDrop, tSl, tPart, tNoPart, tChain, tUn, rU, L2.start, cx_K, bk_K, cx_calm, bk_calm, lenV_str, and_assoc, Option.join, List.length_map, List.length_append, decide_eq_true_eq, Bool.false_eq_true, if_false, if_true, Bool.not_true, Bool.not_false, Bool.not_eq_true', decide_eq_false_iff_not, Bool.true_eq_false, List.length_cons, List.length_nil, List.map_cons, List.map_nil, List.replicate, List.cons_append, List.nil_append, List.append_nil, List.getElem?_cons_zero, List.getElem?_cons_succ, List.set_cons_zero, List.set_cons_succ, Nat.reduceSub, Nat.reduceAdd, Option.some.injEq, V.int.injEq, V.str.injEq, V.bl.injEq, V.ref.injEq, List.cons.injEq, and_true, true_and, exists_eq_left', exists_eq_left, exists_and_left, exists_eq_right, exists_const, tBM, tBM0, rAppend, rPop, rIxL, rIxT, rIxS, rSlL, rSlT, rSlS, rCat, rCatT, tKGet, cx_w, bk_w, tDGet, tDisp, tPairs, tDNewK, spDp]
      refine ⟨u, TAt.tups es.tups hx', f1, f2, fun H3 e3 => hC _ _ _ ⟨es.trans e3, ⟨ms ++ [dpn u], by rw [List.map_append, List.map_append]; rfl, by rw [List.length_append, h2]; rfl, ?_⟩, _, rfl⟩⟩
      rw [dpns_take hu', maxN_snoc, h3]
    · obtain ⟨es, ⟨ms, rfl, h2, h3⟩, o, rfl⟩ := e
      rw [List.take_of_length_le (by omega)] at h3
      have hne2 : ms ≠ [] := fun z => by rw [z, ← hus] at h2; simp at h2
      refine ⟨p3, rfl, _, SqL.of upd_same, by simpa using hne2, ?_⟩
      rw [maxI_nat hne2, h3]
      have hq := q _ ((e1.trans es).trans (same_new hp3 (.lst ((ms.map (fun m : Nat => (m : Int))).map V.int))))
      rw [hval] at hq
      rw [show (1 : Int) + (dpns (prt t) : Nat) = ((dpns (prt t) + 1 : Nat) : Int) by omega]
      exact hq
theorem ok_law_depth (bi : Bi mg) (F : Fun K "_law_depth" "_law_depth" s_law_depth f fd) (b : Binds K fd ["t"] []) (m : mg "_law_depth" = some (.ref f)) : ∀ n, FnOk P w K mg base CX0 n f fd ["t"] (spDp n) := by
  refine rec_ok F b m (fun vs H Q E h => h) (fun n h_law_depth => ?_)
  cases n with
  | zero => exact ⟨fun vs H Q E h => h.elim, fun A outer s H args us vs Q E _ _ _ _ h => h.elim⟩
  | succ n =>
  refine F.ok sc_law_depth (fun vs H Q E h => ?_) (fun cdv A outer s H vs Q E hr h => ?_)
  · obtain ⟨v, t, rfl, _⟩ := h
    rfl
  obtain ⟨v, t, rfl, ht, hf, hw, q⟩ := h
  refine ⟨_, (pss_cons (ps_if (PW.pt (pw_or (pt_cmpR op_eq (pe_ix ix_tup (pv 0) pe_int (fun _ _ => rfl)) pe_str (nomark _)) (pw_or1 (pt_cmpR op_eq (pe_callB call_len rfl bi.len bt_len (pa_cons (pv 0) pa_nil)) pe_int (nomark _))))) (pss_one (ps_ret pe_int)) pss_nil) (pss_cons (ps_set (i := 1) sc_law_depth.nd rfl (Or.inl rfl) pe_int) (pss_cons (ps_for PassesOwn.never rfl (pi_tup (pe_slice sl_tup (pv 0) (po_some pe_int) po_none)) (pg_name (i := 2) sc_law_depth.nd rfl (Or.inl rfl)) (pss_one (ps_set (i := 1) sc_law_depth.nd rfl (Or.inl rfl) (pe_callB (call_max2 rfl) rfl bi.max bt_max (pa_cons (pv 1) (pa_cons (pe_callH h_law_depth hr rfl (pa_cons (pv 2) pa_nil)) pa_nil)))))) (pss_one (ps_ret (pe_op op_add (pv 1) pe_int)))))), ?_⟩
  cases t with
  | name x =>
    obtain ⟨a, rfl, ha⟩ := TAt.name ht
    refine seq_abs fun N hN => ?_
    simp only [tSeq, tFor_eq, tLC_eq, iRng1, iRng2, iList, iTup, iStr, tIfS, tRet, tRetN, tNext, tAsg, gName, tVar, tC, tOp, rI0, rI, tTest, tB, rEq, rNe, tCall, tCons, tNil, tCB, tLst, tTup, tAnd, tOr, tNot, tAndV, tOrV, tNotV, tIf, tDrop, tSl, tPart, tNoPart, tChain, tUn, rU, L2.start, cx_K, bk_K, cx_calm, bk_calm, lenV_str, and_assoc, Option.join, List.length_map, List.length_append, decide_eq_true_eq, Bool.false_eq_true, if_false, if_true, Bool.not_true, Bool.not_false, Bool.not_eq_true', decide_eq_false_iff_not, Bool.true_eq_false, List.length_cons, List.length_nil, List.map_cons, List.map_nil, List.replicate, List.cons_append, List.nil_append, List.append_nil, List.getElem?_cons_zero, List.getElem?_cons_succ, List.set_cons_zero, List.set_cons_succ, Nat.reduceSub, Nat.reduceAdd, Option.some.injEq, V.int.injEq, V.str.injEq, V.bl.injEq, V.ref.injEq, List.cons.injEq, and_true, true_and, exists_eq_left', exists_eq_left, exists_and_left, exists_eq_right, exists_const, tBM, tBM0, rAppend, rPop, rIxL, rIxT, rIxS, rSlL, rSlT, rSlS, rCat, rCatT, tKGet, cx_w, bk_w, tDGet, tDisp, tPairs, tDNewK]
    refine ⟨_, SqT.of ha, .str "name", at0, rfl, ?_⟩
    rw [if_pos rfl]
    have hq := q _ (Same.refl H)
    rw [dpn] at hq
    exact hq
  | node wd ts =>
    obtain ⟨a, us, rfl, ha, hu⟩ := TAt.node ht
    have hwd := hf.wrd
    have hl := hu.length
    have hll := wts_len ts
    rw [wt] at hw
    refine seq_abs fun N hN => ?_
    simp only [tSeq, tFor_eq, tLC_eq, iRng1, iRng2, iList, iTup, iStr, tIfS, tRet, tRetN, tNext, tAsg, gName, tVar, tC, tOp, rI0, rI, tTest, tB, rEq, rNe, tCall, tCons, tNil, tCB, tLst, tTup, tAnd, tOr, tNot, tAndV, tOrV, tNotV, tIf, tDrop, tSl, tPart, tNoPart, tChain, tUn, rU, L2.start, cx_K, bk_K, cx_calm, bk_calm, lenV_str, and_assoc, Option.join, List.length_map, List.length_append, decide_eq_true_eq, Bool.false_eq_true, if_false, if_true, Bool.not_true, Bool.not_false, Bool.not_eq_true', decide_eq_false_iff_not, Bool.true_eq_false, List.length_cons, List.length_nil, List.map_cons, List.map_nil, List.replicate, List.cons_append, List.nil_append, List.append_nil, List.getElem?_cons_zero, List.getElem?_cons_succ, List.set_cons_zero, List.set_cons_succ, Nat.reduceSub, Nat.reduceAdd, Option.some.injEq, V.int.injEq, V.str.injEq, V.bl.injEq, V.ref.injEq, List.cons.injEq, and_true, true_and, exists_eq_left', exists_eq_left, exists_and_left, exists_eq_right, exists_const, tBM, tBM0, rAppend, rPop, rIxL, rIxT, rIxS, rSlL, rSlT, rSlS, rCat, rCatT, tKGet, cx_w, bk_w, tDGet, tDisp, tPairs, tDNewK]
    refine ⟨_, SqT.of ha, .str wd, at0, rfl, ?_⟩
    rw [if_neg (fun e => hwd.ne (V.str.inj e))]
    refine ⟨_, .inr ⟨_, SqT.of ha, rfl⟩, rfl, ?_⟩
    by_cases h0 : ts = []
    · subst h0
      have : us = [] := List.eq_nil_of_length_eq_zero (by simpa using hl)
      subst this
      rw [if_pos (by rfl)]
      have hq := q _ (Same.refl H)
      rw [dpn] at hq
      exact hq
    have hus : us.length ≠ 0 := fun z => h0 (List.eq_nil_of_length_eq_zero (by omega))
    rw [if_neg (by rw [List.length_cons]; omega)]
    have hval : dpn (.node wd ts) = dpns ts + 1 := by
      rw [dpn, if_neg (by cases ts with | nil => exact absurd rfl h0 | cons _ _ => simp)]
    have hlw := dpns_le ts
    refine hN _ _ ?_
    refine seq_abs fun N hN => ?_
    simp only [tSeq, tFor_eq, tLC_eq, iRng1, iRng2, iList, iTup, iStr, tIfS, tRet, tRetN, tNext, tAsg, gName, tVar, tC, tOp, rI0, rI, tTest, tB, rEq, rNe, tCall, tCons, tNil, tCB, tLst, tTup, tAnd, tOr, tNot, tAndV, tOrV, tNotV, tIf, tDrop, tSl, tPart, tNoPart, tChain, tUn, rU, L2.start, cx_K, bk_K, cx_calm, bk_calm, lenV_str, and_assoc, Option.join, List.length_map, List.length_append, decide_eq_true_eq, Bool.false_eq_true, if_false, if_true, Bool.not_true, Bool.not_false, Bool.not_eq_true', decide_eq_false_iff_not, Bool.true_eq_false, List.length_cons, List.length_nil, List.map_cons, List.map_nil, List.replicate, List.cons_append, List.nil_append, List.append_nil, List.getElem?_cons_zero, List.getElem?_cons_succ, List.set_cons_zero, List.set_cons_succ, Nat.reduceSub, Nat.reduceAdd, Option.some.injEq, V.int.injEq, V.str.injEq, V.bl.injEq, V.ref.injEq, List.cons.injEq, and_true, true_and, exists_eq_left', exists_eq_left, exists_and_left, exists_eq_right, exists_const, tBM, tBM0, rAppend, rPop, rIxL, rIxT, rIxS, rSlL, rSlT, rSlS, rCat, rCatT, tKGet, cx_w, bk_w, tDGet, tDisp, tPairs, tDNewK]
    refine hN _ _ ?_
    refine seq_join (fun σ H' => Same H H' ∧ ∃ o1 o2, σ = [o1, some (V.int (dpns ts)), o2]) (fun N hN => ?_) (fun σ H' h => ?_)
    · simp only [tSeq, tFor_eq, tLC_eq, iRng1, iRng2, iList, iTup, iStr, tIfS, tRet, tRetN, tNext, tAsg, gName, tVar, tC, tOp, rI0, rI, tTest, tB, rEq, rNe, tCall, tCons, tNil, tCB, tLst, tTup, tAnd, tOr, tNot, tAndV, tOrV, tNotV, tIf, tDrop, tSl, tPart, tNoPart, tChain, tUn, rU, L2.start, cx_K, bk_K, cx_calm, bk_calm, lenV_str, and_assoc, Option.join, List.length_map, List.length_append, decide_eq_true_eq, Bool.false_eq_true, if_false, if_true, Bool.not_true, Bool.not_false, Bool.not_eq_true', decide_eq_false_iff_not, Bool.true_eq_false, List.length_cons, List.length_nil, List.map_cons, List.map_nil, List.replicate, List.cons_append, List.nil_append, List.append_nil, List.getElem?_cons_zero, List.getElem?_cons_succ, List.set_cons_zero, List.set_cons_succ, Nat.reduceSub, Nat.reduceAdd, Option.some.injEq, V.int.injEq, V.str.injEq, V.bl.injEq, V.ref.injEq, List.cons.injEq, and_true, true_and, exists_eq_left', exists_eq_left, exists_and_left, exists_eq_right, exists_const, tBM, tBM0, rAppend, rPop, rIxL, rIxT, rIxS, rSlL, rSlT, rSlS, rCat, rCatT, tKGet, cx_w, bk_w, tDGet, tDisp, tPairs, tDNewK]
      refine ⟨_, SqT.of ha, tail_not_whole _ _, fun p3 hp3 => ?_⟩
      rw [cut_tail]
      have e3 : Same H (upd H p3 (.tup us)) := same_new hp3 _
      have h3 : upd H p3 (.tup us) p3 = some (.tup us) := upd_same
      generalize upd H p3 (.tup us) = H3 at e3 h3 ⊢
      refine ⟨⟨_, SqT.of h3⟩, ?_⟩
      refine fw_tup (xs := us) (fun i σ H' => Same H3 H' ∧ ∃ o1 o2, σ = [o1, some (V.int (dpns (ts.take i))), o2]) ?_ (fun i σ H' _ h => SqT.of (h.1 _ _ h3)) (fun i x σ H' hx h => ?_) (fun σ H' h => ?_)
      · exact ⟨Same.refl _, _, _, rfl⟩
      · obtain ⟨es, o1, o2, rfl⟩ := h
        obtain ⟨t, ht', hx'⟩ := hu.getV hx
        have hmem := List.mem_of_getElem? ht'
        have hmt := wts_mem hmem
        cases n with
        | zero => have := hf.2; subst this; cases hmem
        | succ n =>
          simp only [tSeq, tFor_eq, tLC_eq, iRng1, iRng2, iList, iTup, iStr, tIfS, tRet, tRetN, tNext, tAsg, gName, tVar, tC, tOp, rI0, rI, tTest, tB, rEq, rNe, tCall, tCons, tNil, tCB, tLst, tTup, tAnd, tOr, tNot, tAndV, tOrV, tNotV, tIf, tDrop, tSl, tPart, tNoPart, tChain, tUn, rU, L2.start, cx_K, bk_K, cx_calm, bk_calm, lenV_str, and_assoc, Option.join, List.length_map, List.length_append, decide_eq_true_eq, Bool.false_eq_true, if_false, if_true, Bool.not_true, Bool.not_false, Bool.not_eq_true', decide_eq_false_iff_not, Bool.true_eq_false, List.length_cons, List.length_nil, List.map_cons, List.map_nil, List.replicate, List.cons_append, List.nil_append, List.append_nil, List.getElem?_cons_zero, List.getElem?_cons_succ, List.set_cons_zero, List.set_cons_succ, Nat.reduceSub, Nat.reduceAdd, Option.some.injEq, V.int.injEq, V.str.injEq, V.bl.injEq, V.ref.injEq, List.cons.injEq, and_true, true_and, exists_eq_left', exists_eq_left, exists_and_left, exists_eq_right, exists_const, tBM, tBM0, rAppend, rPop, rIxL, rIxT, rIxS, rSlL, rSlT, rSlS, rCat, rCatT, tKGet, cx_w, bk_w, tDGet, tDisp, tPairs, tDNewK, spDp]
          refine ⟨t, TAt.tups (e3.trans es).tups hx', hf.part hmem, by omega, fun H4 e4 => ?_⟩
          refine ⟨es.trans e4, ?_⟩
          rw [dpns_take ht']
          exact ⟨by split <;> omega, _, rfl⟩
      · obtain ⟨es, o1, o2, rfl⟩ := h
        rw [List.take_of_length_le (by omega)]
        exact hN _ _ ⟨e3.trans es, _, _, rfl⟩
    · obtain ⟨es, o1, o2, rfl⟩ := h
      simp only [tSeq, tFor_eq, tLC_eq, iRng1, iRng2, iList, iTup, iStr, tIfS, tRet, tRetN, tNext, tAsg, gName, tVar, tC, tOp, rI0, rI, tTest, tB, rEq, rNe, tCall, tCons, tNil, tCB, tLst, tTup, tAnd, tOr, tNot, tAndV, tOrV, tNotV, tIf, tDrop, tSl, tPart, tNoPart, tChain, tUn, rU, L2.start, cx_K, bk_K, cx_calm, bk_calm, lenV_str, and_assoc, Option.join, List.length_map, List.length_append, decide_eq_true_eq, Bool.false_eq_true, if_false, if_true, Bool.not_true, Bool.not_false, Bool.not_eq_true', decide_eq_false_iff_not, Bool.true_eq_false, List.length_cons, List.length_nil, List.map_cons, List.map_nil, List.replicate, List.cons_append, List.nil_append, List.append_nil, List.getElem?_cons_zero, List.getElem?_cons_succ, List.set_cons_zero, List.set_cons_succ, Nat.reduceSub, Nat.reduceAdd, Option.some.injEq, V.int.injEq, V.str.injEq, V.bl.injEq, V.ref.injEq, List.cons.injEq, and_true, true_and, exists_eq_left', exists_eq_left, exists_and_left, exists_eq_right, exists_const, tBM, tBM0, rAppend, rPop, rIxL, rIxT, rIxS, rSlL, rSlT, rSlS, rCat, rCatT, tKGet, cx_w, bk_w, tDGet, tDisp, tPairs, tDNewK]
      have hq := q _ es
      rw [hval] at hq
      exact hq
end

end C
set_option Elab.async false
set_option linter.all false
set_option maxRecDepth 100000
set_option maxHeartbeats 8000000
namespace C
open PySem L2
seal PE PT PW PA PS PSs PG PGs PI PPs PO PSet PIf
abbrev s_gather_names : Stmt := top 4
theorem sc_gather_names : FnScope ["t", "found", "part"] ["t", "found"] (defScope s_gather_names) := ⟨rfl, rfl, rfl, by decide +kernel, rfl, by decide +kernel, by decide +kernel⟩
abbrev s_names_of_all : Stmt := top 5
theorem sc_names_of_all : FnScope ["terms", "found", "t"] ["terms"] (defScope s_names_of_all) := ⟨rfl, rfl, rfl, by decide +kernel, rfl, by decide +kernel, by decide +kernel⟩
abbrev s_names_of : Stmt := top 6
theorem sc_names_of : FnScope ["t"] ["t"] (defScope s_names_of) := ⟨rfl, rfl, rfl, by decide +kernel, rfl, by decide +kernel, by decide +kernel⟩
abbrev s_law_names : Stmt := top 17
theorem sc_law_names : FnScope ["t", "made", "part"] ["t"] (defScope s_law_names) := ⟨rfl, rfl, rfl, by decide +kernel, rfl, by decide +kernel, by decide +kernel⟩
def addN (zs : List Str) (x : Str) : List Str := if x ∈ zs then zs else zs ++ [x]
def addAll (zs : List Str) (xs : List Str) : List Str := xs.foldl addN zs
theorem addAll_app (zs xs ys : List Str) : addAll zs (xs ++ ys) = addAll (addAll zs xs) ys := by unfold addAll; rw [List.foldl_append]
theorem addAll_len : ∀ (xs zs : List Str), (addAll zs xs).length ≤ zs.length + xs.length
  | [], zs => by simp [addAll]
  | x :: xs, zs => by
    have := addAll_len xs (addN zs x)
    have h2 : (addN zs x).length ≤ zs.length + 1 := by unfold addN; split <;> simp
    show (addAll (addN zs x) xs).length ≤ _
    rw [List.length_cons]
    omega
def dz (zs : List Str) : List (Key × V) := zs.map fun x => (.inr x, .bl true)
theorem putK_dz (zs : List Str) (x : Str) : putK (dz zs) (.inr x : Key) (.bl true) = dz (addN zs x) := by
  have e : ((dz zs).any fun kv => decide (kv.1 = (.inr x : Key))) = decide (x ∈ zs) := by
    rw [Bool.eq_iff_iff, List.any_eq_true, decide_eq_true_eq]
    unfold dz
    constructor
    · rintro ⟨p, hp, h⟩
      obtain ⟨y, hy, rfl⟩ := List.mem_map.mp hp
      have h : (Sum.inr y : Key) = .inr x := by simpa using h
      rw [← Sum.inr.inj h]
      exact hy
    · intro h
      exact ⟨_, List.mem_map.mpr ⟨x, h, rfl⟩, by simp⟩
  unfold putK addN
  rw [e]
  by_cases h : x ∈ zs
  · rw [if_pos (by simpa using h), if_pos h]
    unfold dz
    rw [List.map_map]
    apply List.map_congr_left
    intro y hy
    simp only [Function.comp]
    split <;> rfl
  · rw [if_neg (by simpa using h), if_neg h]
    unfold dz
    rw [List.map_append]
    rfl
/-- all but the object at d as it was -/
def SameD (d : Addr) (H H' : Hp) : Prop := ∀ b o, H b = some o → b ≠ d → H' b = some o
theorem SameD.refl (d : Addr) (H : Hp) : SameD d H H := fun _ _ h _ => h
theorem SameD.trans {d : Addr} {H H1 H2 : Hp} (a : SameD d H H1) (b : SameD d H1 H2) : SameD d H H2 := fun c o h n => b c o (a c o h n) n
theorem SameD.of {d : Addr} {H H' : Hp} (a : Same H H') : SameD d H H' := fun c o h _ => a c o h
theorem SameD.upd {d : Addr} {H H1 : Hp} {o : HO} (a : SameD d H H1) : SameD d H (L2.upd H1 d o) := fun c o' h n => by
  rw [upd_ne n]
  exact a c o' h n
theorem SameD.tups {d : Addr} {H H' : Hp} {kvs : List (Key × V)} (a : SameD d H H') (h : H d = some (.dK kvs)) : TupSame H H' := fun b xs e => a b _ e (ne_of e h (by intro z; cases z))
def hdn : Tm → List Str
  | .name x => [x]
  | .node _ _ => []
def spGa : Nat → Sp
  | 0 => fun _ _ _ _ => False
  | 1 => fun _ _ _ _ => False
  | n + 2 => fun vs H Q _ => ∃ (v : V) (d : Addr) (t : Tm) (zs : List Str), vs = [v, .ref d] ∧ TAt H t v ∧ Fit n t ∧ wt t ≤ 900 ∧ H d = some (.dK (dz zs)) ∧ zs.length + wt t ≤ 100000 ∧ ∀ H', SameD d H H' → H' d = some (.dK (dz (addAll zs (nms t)))) → Q .non H'
def spNA : Sp := fun vs H Q _ => ∃ (a : Addr) (us : List V) (ts : List Tm), vs = [.ref a] ∧ H a = some (.lst us) ∧ TAts H ts us ∧ (∀ t ∈ ts, Fit 20 t ∧ wt t ≤ 900) ∧ wts ts ≤ 20000 ∧ (addAll [] (nmss ts)).length < 64 ∧
  ∀ p zs' H', Same H H' → H' p = some (.lst (zs'.map V.str)) → zs'.Perm (addAll [] (nmss ts)) → PyProof.Rows.sortedS zs' = true → Q (.ref p) H'
def spNO : Sp := fun vs H Q _ => ∃ (v : V) (t : Tm), vs = [v] ∧ TAt H t v ∧ Fit 20 t ∧ wt t ≤ 900 ∧ (addAll [] (nms t)).length < 64 ∧ ∀ p zs' H', Same H H' → H' p = some (.lst (zs'.map V.str)) → zs'.Perm (addAll [] (nms t)) → PyProof.Rows.sortedS zs' = true → Q (.ref p) H'
def spLN : Nat → Sp
  | 0 => fun _ _ _ _ => False
  | n + 1 => fun vs H Q _ => ∃ (v : V) (t : Tm), vs = [v] ∧ TAt H t v ∧ Fit n t ∧ wt t ≤ 900 ∧ ∀ p H', Same H H' → H' p = some (.lst ((nms t).map V.str)) → Q (.ref p) H'
section
variable {P : Program} {w : World} {K : PySem.W.Frag} {mg : Str → Option Value} {base : Heap} {f : Addr} {fd : FuncData}
theorem ok_law_names (bi : Bi mg) (F : Fun K "_law_names" "_law_names" s_law_names f fd) (b : Binds K fd ["t"] []) (m : mg "_law_names" = some (.ref f)) : ∀ n, FnOk P w K mg base CX0 n f fd ["t"] (spLN n) := by
  refine rec_ok F b m (fun vs H Q E h => h) (fun n h_law_names => ?_)
  refine F.ok sc_law_names (fun vs H Q E h => ?_) (fun cdv A outer s H vs Q E hr h => ?_)
  · obtain ⟨v, t, rfl, _⟩ := h
    rfl
  obtain ⟨v, t, rfl, ht, hf, hw, q⟩ := h
  refine ⟨_, (pss_cons (ps_if (pt_cmpR op_eq (pe_ix ix_tup (pv 0) pe_int (fun _ _ => rfl)) pe_str (nomark _)) (pss_one (ps_ret (pe_lst (pa_cons (pe_ix ix_tup (pv 0) pe_int (fun _ _ => rfl)) pa_nil)))) pss_nil) (pss_cons (ps_set (i := 1) sc_law_names.nd rfl (Or.inl rfl) (pe_lst pa_nil)) (pss_cons (ps_for PassesOwn.never rfl (pi_tup (pe_slice sl_tup (pv 0) (po_some pe_int) po_none)) (pg_name (i := 2) sc_law_names.nd rfl (Or.inl rfl)) (pss_one (ps_set (i := 1) sc_law_names.nd rfl (Or.inl rfl) (pe_op op_cat (pv 1) (pe_callH h_law_names hr rfl (pa_cons (pv 2) pa_nil)))))) (pss_one (ps_ret (pv 1)))))), ?_⟩
  cases t with
  | name x =>
    obtain ⟨a, rfl, ha⟩ := TAt.name ht
    refine seq_abs fun N hN => ?_
    simp only [tSeq, tFor_eq, tLC_eq, iRng1, iRng2, iList, iTup, iStr, tIfS, tRet, tRetN, tNext, tAsg, gName, tVar, tC, tOp, rI0, rI, tTest, tB, rEq, rNe, tCall, tCons, tNil, tCB, tLst, tTup, tAnd, tOr, tNot, tAndV, tOrV, tNotV, tIf, tDrop, tSl, tPart, tNoPart, tChain, tUn, rU, L2.start, cx_K, bk_K, cx_calm, bk_calm, lenV_str, and_assoc, Option.join, List.length_map, List.length_append, decide_eq_true_eq, Bool.false_eq_true, if_false, if_true, Bool.not_true, Bool.not_false, Bool.not_eq_true', decide_eq_false_iff_not, Bool.true_eq_false, List.length_cons, List.length_nil, List.map_cons, List.map_nil, List.replicate, List.cons_append, List.nil_append, List.append_nil, List.getElem?_cons_zero, List.getElem?_cons_succ, List.set_cons_zero, List.set_cons_succ, Nat.reduceSub, Nat.reduceAdd, Option.some.injEq, V.int.injEq, V.str.injEq, V.bl.injEq, V.ref.injEq, List.cons.injEq, and_true, true_and, exists_eq_left', exists_eq_left, exists_and_left, exists_eq_right, exists_const, tBM, tBM0, rAppend, rPop, rIxL, rIxT, rIxS, rSlL, rSlT, rSlS, rCat, rCatT, tKGet, cx_w, bk_w, tDGet, tDisp, tPairs, tDNewK]
    refine ⟨_, SqT.of ha, .str "name", at0, rfl, ?_⟩
    rw [if_pos rfl]
    refine ⟨_, SqT.of ha, .str x, at1, small (by decide), fun p hp => q _ _ (same_new hp _) ?_⟩
    rw [nms]
    exact upd_same
  | node wd ts =>
    obtain ⟨a, us, rfl, ha, hu⟩ := TAt.node ht
    have hwd := hf.wrd
    have hl := hu.length
    have hll := wts_len ts
    have hnl := nmss_len ts
    rw [wt] at hw
    refine seq_abs fun N hN => ?_
    simp only [tSeq, tFor_eq, tLC_eq, iRng1, iRng2, iList, iTup, iStr, tIfS, tRet, tRetN, tNext, tAsg, gName, tVar, tC, tOp, rI0, rI, tTest, tB, rEq, rNe, tCall, tCons, tNil, tCB, tLst, tTup, tAnd, tOr, tNot, tAndV, tOrV, tNotV, tIf, tDrop, tSl, tPart, tNoPart, tChain, tUn, rU, L2.start, cx_K, bk_K, cx_calm, bk_calm, lenV_str, and_assoc, Option.join, List.length_map, List.length_append, decide_eq_true_eq, Bool.false_eq_true, if_false, if_true, Bool.not_true, Bool.not_false, Bool.not_eq_true', decide_eq_false_iff_not, Bool.true_eq_false, List.length_cons, List.length_nil, List.map_cons, List.map_nil, List.replicate, List.cons_append, List.nil_append, List.append_nil, List.getElem?_cons_zero, List.getElem?_cons_succ, List.set_cons_zero, List.set_cons_succ, Nat.reduceSub, Nat.reduceAdd, Option.some.injEq, V.int.injEq, V.str.injEq, V.bl.injEq, V.ref.injEq, List.cons.injEq, and_true, true_and, exists_eq_left', exists_eq_left, exists_and_left, exists_eq_right, exists_const, tBM, tBM0, rAppend, rPop, rIxL, rIxT, rIxS, rSlL, rSlT, rSlS, rCat, rCatT, tKGet, cx_w, bk_w, tDGet, tDisp, tPairs, tDNewK]
    refine ⟨_, SqT.of ha, .str wd, at0, rfl, ?_⟩
    rw [if_neg (fun e => hwd.ne (V.str.inj e))]
    refine hN _ _ ?_
    refine seq_abs fun N hN => ?_
    simp only [tSeq, tFor_eq, tLC_eq, iRng1, iRng2, iList, iTup, iStr, tIfS, tRet, tRetN, tNext, tAsg, gName, tVar, tC, tOp, rI0, rI, tTest, tB, rEq, rNe, tCall, tCons, tNil, tCB, tLst, tTup, tAnd, tOr, tNot, tAndV, tOrV, tNotV, tIf, tDrop, tSl, tPart, tNoPart, tChain, tUn, rU, L2.start, cx_K, bk_K, cx_calm, bk_calm, lenV_str, and_assoc, Option.join, List.length_map, List.length_append, decide_eq_true_eq, Bool.false_eq_true, if_false, if_true, Bool.not_true, Bool.not_false, Bool.not_eq_true', decide_eq_false_iff_not, Bool.true_eq_false, List.length_cons, List.length_nil, List.map_cons, List.map_nil, List.replicate, List.cons_append, List.nil_append, List.append_nil, List.getElem?_cons_zero, List.getElem?_cons_succ, List.set_cons_zero, List.set_cons_succ, Nat.reduceSub, Nat.reduceAdd, Option.some.injEq, V.int.injEq, V.str.injEq, V.bl.injEq, V.ref.injEq, List.cons.injEq, and_true, true_and, exists_eq_left', exists_eq_left, exists_and_left, exists_eq_right, exists_const, tBM, tBM0, rAppend, rPop, rIxL, rIxT, rIxS, rSlL, rSlT, rSlS, rCat, rCatT, tKGet, cx_w, bk_w, tDGet, tDisp, tPairs, tDNewK]
    refine ⟨small (by decide), fun p2 hp2 => hN _ _ ?_⟩
    have e2 := same_new hp2 (.lst [])
    have h2 : upd H p2 (.lst []) p2 = some (.lst []) := upd_same
    generalize upd H p2 (.lst []) = H2 at e2 h2 ⊢
    refine seq_join (fun σ H' => Same H H' ∧ ∃ pl o1 o2, H' pl = some (.lst ((nmss ts).map V.str)) ∧ σ = [o1, some (V.ref pl), o2]) (fun N hN => ?_) (fun σ H' h => ?_)
    · simp only [tSeq, tFor_eq, tLC_eq, iRng1, iRng2, iList, iTup, iStr, tIfS, tRet, tRetN, tNext, tAsg, gName, tVar, tC, tOp, rI0, rI, tTest, tB, rEq, rNe, tCall, tCons, tNil, tCB, tLst, tTup, tAnd, tOr, tNot, tAndV, tOrV, tNotV, tIf, tDrop, tSl, tPart, tNoPart, tChain, tUn, rU, L2.start, cx_K, bk_K, cx_calm, bk_calm, lenV_str, and_assoc, Option.join, List.length_map, List.length_append, decide_eq_true_eq, Bool.false_eq_true, if_false, if_true, Bool.not_true, Bool.not_false, Bool.not_eq_true', decide_eq_false_iff_not, Bool.true_eq_false, List.length_cons, List.length_nil, List.map_cons, List.map_nil, List.replicate, List.cons_append, List.nil_append, List.append_nil, List.getElem?_cons_zero, List.getElem?_cons_succ, List.set_cons_zero, List.set_cons_succ, Nat.reduceSub, Nat.reduceAdd, Option.some.injEq, V.int.injEq, V.str.injEq, V.bl.injEq, V.ref.injEq, List.cons.injEq, and_true, true_and, exists_eq_left', exists_eq_left, exists_and_left, exists_eq_right, exists_const, tBM, tBM0, rAppend, rPop, rIxL, rIxT, rIxS, rSlL, rSlT, rSlS, rCat, rCatT, tKGet, cx_w, bk_w, tDGet, tDisp, tPairs, tDNewK]
      refine ⟨_, SqT.of (e2 _ _ ha), tail_not_whole _ _, fun p3 hp3 => ?_⟩
      rw [cut_tail]
      have e3 : Same H2 (upd H2 p3 (.tup us)) := same_new hp3 _
      have h3 : upd H2 p3 (.tup us) p3 = some (.tup us) := upd_same
      generalize upd H2 p3 (.tup us) = H3 at e3 h3 ⊢
      refine ⟨⟨_, SqT.of h3⟩, ?_⟩
      refine fw_tup (xs := us) (fun i σ H' => Same H3 H' ∧ ∃ pl o1 o2, H' pl = some (.lst ((nmss (ts.take i)).map V.str)) ∧ σ = [o1, some (V.ref pl), o2]) ?_ (fun i σ H' _ h => SqT.of (h.1 _ _ h3)) (fun i x σ H' hx h => ?_) (fun σ H' h => ?_)
      · exact ⟨Same.refl _, p2, _, _, e3 _ _ h2, rfl⟩
      · obtain ⟨es, pl, o1, o2, hpl, rfl⟩ := h
        obtain ⟨t, ht', hx'⟩ := hu.getV hx
        have hmem := List.mem_of_getElem? ht'
        have hmt := wts_mem hmem
        cases n with
        | zero => have := hf.2; subst this; cases hmem
        | succ n =>
          simp only [tSeq, tFor_eq, tLC_eq, iRng1, iRng2, iList, iTup, iStr, tIfS, tRet, tRetN, tNext, tAsg, gName, tVar, tC, tOp, rI0, rI, tTest, tB, rEq, rNe, tCall, tCons, tNil, tCB, tLst, tTup, tAnd, tOr, tNot, tAndV, tOrV, tNotV, tIf, tDrop, tSl, tPart, tNoPart, tChain, tUn, rU, L2.start, cx_K, bk_K, cx_calm, bk_calm, lenV_str, and_assoc, Option.join, List.length_map, List.length_append, decide_eq_true_eq, Bool.false_eq_true, if_false, if_true, Bool.not_true, Bool.not_false, Bool.not_eq_true', decide_eq_false_iff_not, Bool.true_eq_false, List.length_cons, List.length_nil, List.map_cons, List.map_nil, List.replicate, List.cons_append, List.nil_append, List.append_nil, List.getElem?_cons_zero, List.getElem?_cons_succ, List.set_cons_zero, List.set_cons_succ, Nat.reduceSub, Nat.reduceAdd, Option.some.injEq, V.int.injEq, V.str.injEq, V.bl.injEq, V.ref.injEq, List.cons.injEq, and_true, true_and, exists_eq_left', exists_eq_left, exists_and_left, exists_eq_right, exists_const, tBM, tBM0, rAppend, rPop, rIxL, rIxT, rIxS, rSlL, rSlT, rSlS, rCat, rCatT, tKGet, cx_w, bk_w, tDGet, tDisp, tPairs, tDNewK, spLN]
          refine ⟨t, TAt.tups ((e2.trans e3).trans es).tups hx', hf.part hmem, by omega, fun p4 H4 e4 h4 => ?_⟩
          have hA := nmss_len (ts.take i)
          have hB := nms_len t
          have hC : wts (ts.take i) ≤ wts ts := by
            have := congrArg wts (List.take_append_drop i ts)
            rw [wts_append] at this
            omega
          refine ⟨_, e4 _ _ hpl, _, h4, Nat.le_trans (m := 1000000) (by rw [List.length_map, List.length_map]; omega) (by decide), fun p hp => ⟨(es.trans e4).trans (same_new hp _), p, ?_, rfl, _, rfl⟩⟩
          rw [upd_same, nmss_take ht', List.map_append]
      · obtain ⟨es, pl, o1, o2, hpl, rfl⟩ := h
        rw [List.take_of_length_le (by omega)] at hpl
        exact hN _ _ ⟨(e2.trans e3).trans es, pl, _, _, hpl, rfl⟩
    · obtain ⟨es, pl, o1, o2, hpl, rfl⟩ := h
      simp only [tSeq, tFor_eq, tLC_eq, iRng1, iRng2, iList, iTup, iStr, tIfS, tRet, tRetN, tNext, tAsg, gName, tVar, tC, tOp, rI0, rI, tTest, tB, rEq, rNe, tCall, tCons, tNil, tCB, tLst, tTup, tAnd, tOr, tNot, tAndV, tOrV, tNotV, tIf, tDrop, tSl, tPart, tNoPart, tChain, tUn, rU, L2.start, cx_K, bk_K, cx_calm, bk_calm, lenV_str, and_assoc, Option.join, List.length_map, List.length_append, decide_eq_true_eq, Bool.false_eq_true, if_false, if_true, Bool.not_true, Bool.not_false, Bool.not_eq_true', decide_eq_false_iff_not, Bool.true_eq_false, List.length_cons, List.length_nil, List.map_cons, List.map_nil, List.replicate, List.cons_append, List.nil_append, List.append_nil, List.getElem?_cons_zero, List.getElem?_cons_succ, List.set_cons_zero, List.set_cons_succ, Nat.reduceSub, Nat.reduceAdd, Option.some.injEq, V.int.injEq, V.str.injEq, V.bl.injEq, V.ref.injEq, List.cons.injEq, and_true, true_and, exists_eq_left', exists_eq_left, exists_and_left, exists_eq_right, exists_const, tBM, tBM0, rAppend, rPop, rIxL, rIxT, rIxS, rSlL, rSlT, rSlS, rCat, rCatT, tKGet, cx_w, bk_w, tDGet, tDisp, tPairs, tDNewK]
      refine q _ _ es ?_
      rw [nms]
      exact hpl
theorem ok_gather_names (bi : Bi mg) (h_parts_of : Has P w K mg base 1 "parts_of" ["t"] spPt) (F : Fun K "gather_names" "gather_names" s_gather_names f fd) (b : Binds K fd ["t", "found"] []) (m : mg "gather_names" = some (.ref f)) : ∀ n, FnOk P w K mg base CX0 n f fd ["t", "found"] (spGa n) := by
  refine rec_ok F b m (fun vs H Q E h => h) (fun n h_gather_names => ?_)
  cases n with
  | zero => exact ⟨fun vs H Q E h => h.elim, fun A outer s H args us vs Q E _ _ _ _ h => h.elim⟩
  | succ n =>
  refine F.ok sc_gather_names (fun vs H Q E h => ?_) (fun cdv A outer s H vs Q E hr h => ?_)
  · obtain ⟨v, d, t, zs, rfl, _⟩ := h
    rfl
  obtain ⟨v, d, t, zs, rfl, ht, hf, hw, hd, hz, q⟩ := h
  refine ⟨_, (pss_cons (ps_if (pt_cmpR op_eq (pe_ix ix_tup (pv 0) pe_int (fun _ _ => rfl)) pe_str (nomark _)) (pss_one (ps_dput (hu_of hr) (pv 1) (pe_ix ix_tup (pv 0) pe_int (fun _ _ => rfl)) pe_bl rfl)) pss_nil) (pss_one (ps_for PassesOwn.never rfl (pi_tup (pe_callH h_parts_of (hr.mono (by omega)) rfl (pa_cons (pv 0) pa_nil))) (pg_name (i := 2) sc_gather_names.nd rfl (Or.inl rfl)) (pss_one (ps_expr (pe_callH h_gather_names hr rfl (pa_cons (pv 2) (pa_cons (pv 1) pa_nil)))))))), ?_⟩
  have hnm : nms t = hdn t ++ nmss (prt t) := by
    cases t with
    | name x => rw [nms, hdn, prt, nmss]; rfl
    | node wd ts => rw [nms, hdn, prt]; rfl
  have hwp : wts (prt t) ≤ wt t ∧ (hdn t).length + wts (prt t) ≤ wt t := by
    cases t with
    | name x => rw [prt, wts, hdn, wt]; exact ⟨by omega, by simp⟩
    | node wd ts => rw [prt, wt, hdn]; exact ⟨by omega, by simp⟩
  have hwr : ∀ w ts, t = .node w ts → Wrd w := fun w ts e => by subst e; exact hf.wrd
  have part : ∀ (i : Nat) (u : Tm), (prt t)[i]? = some u → ∃ m, n = m + 1 ∧ Fit m u ∧ wt u ≤ wts (prt t) := fun i u hi => by
    have hm := List.mem_of_getElem? hi
    have := wts_mem hm
    cases t with
    | name x => cases hm
    | node wd ts =>
      have hm : u ∈ ts := hm
      cases n with
      | zero => rw [hf.2] at hm; cases hm
      | succ n => exact ⟨n, rfl, hf.part hm, this⟩
  refine seq_join (fun σ H' => SameD d H H' ∧ H' d = some (.dK (dz (addAll zs (hdn t)))) ∧ ∃ o, σ = [some v, some (V.ref d), o]) (fun N hN => ?_) (fun σ H' h => ?_)
  · simp only [tSeq, tFor_eq, tLC_eq, iRng1, iRng2, iList, iTup, iStr, tIfS, tRet, tRetN, tNext, tAsg, gName, tVar, tC, tOp, rI0, rI, tTest, tB, rEq, rNe, tCall, tCons, tNil, tCB, tLst, tTup, tAnd, tOr, tNot, tAndV, tOrV, tNotV, tIf, tDrop, tSl, tPart, tNoPart, tChain, tUn, rU, L2.start, cx_K, bk_K, cx_calm, bk_calm, lenV_str, and_assoc, Option.join, List.length_map, List.length_append, decide_eq_true_eq, Bool.false_eq_true, if_false, if_true, Bool.not_true, Bool.not_false, Bool.not_eq_true', decide_eq_false_iff_not, Bool.true_eq_false, List.length_cons, List.length_nil, List.map_cons, List.map_nil, List.replicate, List.cons_append, List.nil_append, List.append_nil, List.getElem?_cons_zero, List.getElem?_cons_succ, List.set_cons_zero, List.set_cons_succ, Nat.reduceSub, Nat.reduceAdd, Option.some.injEq, V.int.injEq, V.str.injEq, V.bl.injEq, V.ref.injEq, List.cons.injEq, and_true, true_and, exists_eq_left', exists_eq_left, exists_and_left, exists_eq_right, exists_const, tBM, tBM0, rAppend, rPop, rIxL, rIxT, rIxS, rSlL, rSlT, rSlS, rCat, rCatT, tKGet, cx_w, bk_w, tDGet, tDisp, tPairs, tDNewK, sDPut]
    cases t with
    | name x =>
      obtain ⟨a, rfl, ha⟩ := TAt.name ht
      refine ⟨_, rfl, _, SqT.of ha, .str "name", at0, rfl, ?_⟩
      rw [if_pos rfl]
      refine ⟨_, rfl, _, SqT.of ha, .str x, at1, _, DPut.k (k := .inr x) hd (Nat.lt_of_le_of_lt (show (dz zs).length ≤ 1000000 by unfold dz; rw [List.length_map]; omega) (by decide)), hN _ _ ?_⟩
      rw [putK_dz]
      exact ⟨(SameD.refl d H).upd, upd_same, _, rfl⟩
    | node wd ts =>
      obtain ⟨a, us, rfl, ha, hu⟩ := TAt.node ht
      refine ⟨_, rfl, _, SqT.of ha, .str wd, at0, rfl, ?_⟩
      rw [if_neg (fun e => hf.wrd.ne (V.str.inj e))]
      exact hN _ _ ⟨SameD.refl d H, hd, _, rfl⟩
  · obtain ⟨es, hd1, o, rfl⟩ := h
    have ht1 := TAt.tups (es.tups hd) ht
    simp only [tSeq, tFor_eq, tLC_eq, iRng1, iRng2, iList, iTup, iStr, tIfS, tRet, tRetN, tNext, tAsg, gName, tVar, tC, tOp, rI0, rI, tTest, tB, rEq, rNe, tCall, tCons, tNil, tCB, tLst, tTup, tAnd, tOr, tNot, tAndV, tOrV, tNotV, tIf, tDrop, tSl, tPart, tNoPart, tChain, tUn, rU, L2.start, cx_K, bk_K, cx_calm, bk_calm, lenV_str, and_assoc, Option.join, List.length_map, List.length_append, decide_eq_true_eq, Bool.false_eq_true, if_false, if_true, Bool.not_true, Bool.not_false, Bool.not_eq_true', decide_eq_false_iff_not, Bool.true_eq_false, List.length_cons, List.length_nil, List.map_cons, List.map_nil, List.replicate, List.cons_append, List.nil_append, List.append_nil, List.getElem?_cons_zero, List.getElem?_cons_succ, List.set_cons_zero, List.set_cons_succ, Nat.reduceSub, Nat.reduceAdd, Option.some.injEq, V.int.injEq, V.str.injEq, V.bl.injEq, V.ref.injEq, List.cons.injEq, and_true, true_and, exists_eq_left', exists_eq_left, exists_and_left, exists_eq_right, exists_const, tBM, tBM0, rAppend, rPop, rIxL, rIxT, rIxS, rSlL, rSlT, rSlS, rCat, rCatT, tKGet, cx_w, bk_w, tDGet, tDisp, tPairs, tDNewK, spPt]
    refine ⟨t, ht1, hwr, fun p us H2 e2 hp hu => ⟨⟨_, SqT.of hp⟩, ?_⟩⟩
    have hl := hu.length
    have hpd : p ≠ d := ne_of hp (e2 _ _ hd1) (by intro z; cases z)
    refine fw_tup (xs := us) (fun i σ H' => SameD d H2 H' ∧ H' p = some (.tup us) ∧ H' d = some (.dK (dz (addAll (addAll zs (hdn t)) (nmss ((prt t).take i))))) ∧ ∃ o, σ = [some v, some (V.ref d), o]) ?_ (fun i σ H' _ h => SqT.of h.2.1) (fun i x σ H' hx h => ?_) (fun σ H' h => ?_)
    · exact ⟨SameD.refl _ _, hp, e2 _ _ hd1, _, rfl⟩
    · obtain ⟨es3, hp3, hd3, o', rfl⟩ := h
      obtain ⟨u, hu', hx'⟩ := hu.getV hx
      obtain ⟨m', rfl, f1, f2⟩ := part i u hu'
      have l1 := addAll_len (hdn t) zs
      have l2 := addAll_len (nmss ((prt t).take i)) (addAll zs (hdn t))
      have l3 := nmss_len ((prt t).take i)
      have l4 : wts ((prt t).take (i + 1)) ≤ wts (prt t) := by
        have := congrArg wts (List.take_append_drop (i + 1) (prt t))
        rw [wts_append] at this
        omega
      have l5 : wts ((prt t).take (i + 1)) = wts ((prt t).take i) + wt u := by
        obtain ⟨il, ie⟩ := List.getElem?_eq_some_iff.mp hu'
        rw [List.take_succ_eq_append_getElem il, ie, wts_append]
        show _ + (wt u + wts []) = _
        rw [wts]
        omega
      simp only [tSeq, tFor_eq, tLC_eq, iRng1, iRng2, iList, iTup, iStr, tIfS, tRet, tRetN, tNext, tAsg, gName, tVar, tC, tOp, rI0, rI, tTest, tB, rEq, rNe, tCall, tCons, tNil, tCB, tLst, tTup, tAnd, tOr, tNot, tAndV, tOrV, tNotV, tIf, tDrop, tSl, tPart, tNoPart, tChain, tUn, rU, L2.start, cx_K, bk_K, cx_calm, bk_calm, lenV_str, and_assoc, Option.join, List.length_map, List.length_append, decide_eq_true_eq, Bool.false_eq_true, if_false, if_true, Bool.not_true, Bool.not_false, Bool.not_eq_true', decide_eq_false_iff_not, Bool.true_eq_false, List.length_cons, List.length_nil, List.map_cons, List.map_nil, List.replicate, List.cons_append, List.nil_append, List.append_nil, List.getElem?_cons_zero, List.getElem?_cons_succ, List.set_cons_zero, List.set_cons_succ, Nat.reduceSub, Nat.reduceAdd, Option.some.injEq, V.int.injEq, V.str.injEq, V.bl.injEq, V.ref.injEq, List.cons.injEq, and_true, true_and, exists_eq_left', exists_eq_left, exists_and_left, exists_eq_right, exists_const, tBM, tBM0, rAppend, rPop, rIxL, rIxT, rIxS, rSlL, rSlT, rSlS, rCat, rCatT, tKGet, cx_w, bk_w, tDGet, tDisp, tPairs, tDNewK, spGa]
      refine ⟨u, TAt.tups (es3.tups (e2 _ _ hd1)) hx', f1, by omega, _, hd3, by omega, fun H4 e4 h4 => ⟨es3.trans e4, e4 _ _ hp3 hpd, ?_, _, rfl⟩⟩
      rw [nmss_take hu', addAll_app]
      exact h4
    · obtain ⟨es3, hp3, hd3, o', rfl⟩ := h
      rw [List.take_of_length_le (by omega)] at hd3
      refine q _ ((es.trans (SameD.of e2)).trans es3) ?_
      rw [hnm, addAll_app]
      exact hd3
theorem ok_names_of_all (bi : Bi mg) (h_gather_names : Has P w K mg base 22 "gather_names" ["t", "found"] (spGa 22)) (F : Fun K "names_of_all" "names_of_all" s_names_of_all f fd) : FnOk P w K mg base CX0 23 f fd ["terms"] spNA := by
  refine F.ok sc_names_of_all (fun vs H Q E h => ?_) (fun cdv A outer s H vs Q E hr h => ?_)
  · obtain ⟨a, us, ts, rfl, _⟩ := h
    rfl
  obtain ⟨a, us, ts, rfl, ha, hu, hf, hw, h64, q⟩ := h
  have hl := hu.length
  have hwl := wts_len ts
  refine ⟨_, (pss_cons (ps_set (i := 1) sc_names_of_all.nd rfl (Or.inl rfl) pe_dnewK) (pss_cons (ps_for PassesOwn.never rfl (pi_list (pv 0)) (pg_name (i := 2) sc_names_of_all.nd rfl (Or.inl rfl)) (pss_one (ps_expr (pe_callH h_gather_names (hr.mono (by omega)) rfl (pa_cons (pv 2) (pa_cons (pv 1) pa_nil)))))) (pss_one (ps_ret (pe_callB call_sortedD rfl bi.sorted bt_sorted (pa_cons (pv 1) pa_nil)))))), ?_⟩
  refine seq_abs fun N hN => ?_
  simp only [tSeq, tFor_eq, tLC_eq, iRng1, iRng2, iList, iTup, iStr, tIfS, tRet, tRetN, tNext, tAsg, gName, tVar, tC, tOp, rI0, rI, tTest, tB, rEq, rNe, tCall, tCons, tNil, tCB, tLst, tTup, tAnd, tOr, tNot, tAndV, tOrV, tNotV, tIf, tDrop, tSl, tPart, tNoPart, tChain, tUn, rU, L2.start, cx_K, bk_K, cx_calm, bk_calm, lenV_str, and_assoc, Option.join, List.length_map, List.length_append, decide_eq_true_eq, Bool.false_eq_true, if_false, if_true, Bool.not_true, Bool.not_false, Bool.not_eq_true', decide_eq_false_iff_not, Bool.true_eq_false, List.length_cons, List.length_nil, List.map_cons, List.map_nil, List.replicate, List.cons_append, List.nil_append, List.append_nil, List.getElem?_cons_zero, List.getElem?_cons_succ, List.set_cons_zero, List.set_cons_succ, Nat.reduceSub, Nat.reduceAdd, Option.some.injEq, V.int.injEq, V.str.injEq, V.bl.injEq, V.ref.injEq, List.cons.injEq, and_true, true_and, exists_eq_left', exists_eq_left, exists_and_left, exists_eq_right, exists_const, tBM, tBM0, rAppend, rPop, rIxL, rIxT, rIxS, rSlL, rSlT, rSlS, rCat, rCatT, tKGet, cx_w, bk_w, tDGet, tDisp, tPairs, tDNewK]
  refine fun d hnd => hN _ _ ?_
  have e1 := same_new hnd (.dK [])
  have h1 : upd H d (.dK []) d = some (.dK (dz [])) := upd_same
  generalize upd H d (.dK []) = H1 at e1 h1 ⊢
  have had : a ≠ d := ne_of_none ha hnd
  refine seq_join (fun σ H' => SameD d H1 H' ∧ H' d = some (.dK (dz (addAll [] (nmss ts)))) ∧ ∃ o1 o2, σ = [o1, some (V.ref d), o2]) (fun N hN => ?_) (fun σ H' h => ?_)
  · simp only [tSeq, tFor_eq, tLC_eq, iRng1, iRng2, iList, iTup, iStr, tIfS, tRet, tRetN, tNext, tAsg, gName, tVar, tC, tOp, rI0, rI, tTest, tB, rEq, rNe, tCall, tCons, tNil, tCB, tLst, tTup, tAnd, tOr, tNot, tAndV, tOrV, tNotV, tIf, tDrop, tSl, tPart, tNoPart, tChain, tUn, rU, L2.start, cx_K, bk_K, cx_calm, bk_calm, lenV_str, and_assoc, Option.join, List.length_map, List.length_append, decide_eq_true_eq, Bool.false_eq_true, if_false, if_true, Bool.not_true, Bool.not_false, Bool.not_eq_true', decide_eq_false_iff_not, Bool.true_eq_false, List.length_cons, List.length_nil, List.map_cons, List.map_nil, List.replicate, List.cons_append, List.nil_append, List.append_nil, List.getElem?_cons_zero, List.getElem?_cons_succ, List.set_cons_zero, List.set_cons_succ, Nat.reduceSub, Nat.reduceAdd, Option.some.injEq, V.int.injEq, V.str.injEq, V.bl.injEq, V.ref.injEq, List.cons.injEq, and_true, true_and, exists_eq_left', exists_eq_left, exists_and_left, exists_eq_right, exists_const, tBM, tBM0, rAppend, rPop, rIxL, rIxT, rIxS, rSlL, rSlT, rSlS, rCat, rCatT, tKGet, cx_w, bk_w, tDGet, tDisp, tPairs, tDNewK]
    refine ⟨⟨_, SqL.of (e1 _ _ ha)⟩, ?_⟩
    refine fw_list (xs := us) (fun i σ H' => SameD d H1 H' ∧ H' d = some (.dK (dz (addAll [] (nmss (ts.take i))))) ∧ ∃ o1 o2, σ = [o1, some (V.ref d), o2]) ?_ (fun i σ H' _ h => SqL.of (h.1 _ _ (e1 _ _ ha) had)) (fun i x σ H' hx h => ?_) (fun σ H' h => ?_)
    · exact ⟨SameD.refl _ _, h1, _, _, rfl⟩
    · obtain ⟨es3, hd3, o1, o2, rfl⟩ := h
      obtain ⟨u, hu', hx'⟩ := hu.getV hx
      have hm := List.mem_of_getElem? hu'
      have l0 := wts_mem hm
      have l2 := addAll_len (nmss (ts.take i)) []
      have l3 := nmss_len (ts.take i)
      have l4 : wts (ts.take i) ≤ wts ts := by
        have := congrArg wts (List.take_append_drop i ts)
        rw [wts_append] at this
        omega
      simp only [tSeq, tFor_eq, tLC_eq, iRng1, iRng2, iList, iTup, iStr, tIfS, tRet, tRetN, tNext, tAsg, gName, tVar, tC, tOp, rI0, rI, tTest, tB, rEq, rNe, tCall, tCons, tNil, tCB, tLst, tTup, tAnd, tOr, tNot, tAndV, tOrV, tNotV, tIf, tDrop, tSl, tPart, tNoPart, tChain, tUn, rU, L2.start, cx_K, bk_K, cx_calm, bk_calm, lenV_str, and_assoc, Option.join, List.length_map, List.length_append, decide_eq_true_eq, Bool.false_eq_true, if_false, if_true, Bool.not_true, Bool.not_false, Bool.not_eq_true', decide_eq_false_iff_not, Bool.true_eq_false, List.length_cons, List.length_nil, List.map_cons, List.map_nil, List.replicate, List.cons_append, List.nil_append, List.append_nil, List.getElem?_cons_zero, List.getElem?_cons_succ, List.set_cons_zero, List.set_cons_succ, Nat.reduceSub, Nat.reduceAdd, Option.some.injEq, V.int.injEq, V.str.injEq, V.bl.injEq, V.ref.injEq, List.cons.injEq, and_true, true_and, exists_eq_left', exists_eq_left, exists_and_left, exists_eq_right, exists_const, tBM, tBM0, rAppend, rPop, rIxL, rIxT, rIxS, rSlL, rSlT, rSlS, rCat, rCatT, tKGet, cx_w, bk_w, tDGet, tDisp, tPairs, tDNewK, spGa]
      refine ⟨u, TAt.tups (e1.tups.trans (es3.tups h1)) hx', (hf u hm).1, (hf u hm).2, _, hd3, by simp at l2; omega, fun H4 e4 h4 => ⟨es3.trans e4, ?_, _, rfl⟩⟩
      rw [nmss_take hu', addAll_app]
      exact h4
    · obtain ⟨es3, hd3, o1, o2, rfl⟩ := h
      rw [List.take_of_length_le (by omega)] at hd3
      exact hN _ _ ⟨es3, hd3, _, _, rfl⟩
  · obtain ⟨es3, hd3, o1, o2, rfl⟩ := h
    simp only [tSeq, tFor_eq, tLC_eq, iRng1, iRng2, iList, iTup, iStr, tIfS, tRet, tRetN, tNext, tAsg, gName, tVar, tC, tOp, rI0, rI, tTest, tB, rEq, rNe, tCall, tCons, tNil, tCB, tLst, tTup, tAnd, tOr, tNot, tAndV, tOrV, tNotV, tIf, tDrop, tSl, tPart, tNoPart, tChain, tUn, rU, L2.start, cx_K, bk_K, cx_calm, bk_calm, lenV_str, and_assoc, Option.join, List.length_map, List.length_append, decide_eq_true_eq, Bool.false_eq_true, if_false, if_true, Bool.not_true, Bool.not_false, Bool.not_eq_true', decide_eq_false_iff_not, Bool.true_eq_false, List.length_cons, List.length_nil, List.map_cons, List.map_nil, List.replicate, List.cons_append, List.nil_append, List.append_nil, List.getElem?_cons_zero, List.getElem?_cons_succ, List.set_cons_zero, List.set_cons_succ, Nat.reduceSub, Nat.reduceAdd, Option.some.injEq, V.int.injEq, V.str.injEq, V.bl.injEq, V.ref.injEq, List.cons.injEq, and_true, true_and, exists_eq_left', exists_eq_left, exists_and_left, exists_eq_right, exists_const, tBM, tBM0, rAppend, rPop, rIxL, rIxT, rIxS, rSlL, rSlT, rSlS, rCat, rCatT, tKGet, cx_w, bk_w, tDGet, tDisp, tPairs, tDNewK]
    refine ⟨_, hd3, addAll [] (nmss ts), by unfold dz; rw [List.map_map]; rfl, h64, fun l zs' hl' hp hs => ?_⟩
    have es : Same H H' := fun b o hb => es3 b o (e1 _ _ hb) (ne_of_none hb hnd)
    exact q _ _ _ (es.trans (same_new hl' _)) upd_same hp hs
theorem ok_names_of (bi : Bi mg) (h_names_of_all : Has P w K mg base 23 "names_of_all" ["terms"] spNA) (F : Fun K "names_of" "names_of" s_names_of f fd) : FnOk P w K mg base CX0 24 f fd ["t"] spNO := by
  refine F.ok sc_names_of (fun vs H Q E h => ?_) (fun cdv A outer s H vs Q E hr h => ?_)
  · obtain ⟨v, t, rfl, _⟩ := h
    rfl
  obtain ⟨v, t, rfl, ht, hf, hw, h64, q⟩ := h
  refine ⟨_, (pss_one (ps_ret (pe_callH h_names_of_all (hr.mono (by omega)) rfl (pa_cons (pe_lst (pa_cons (pv 0) pa_nil)) pa_nil)))), ?_⟩
  simp only [tSeq, tFor_eq, tLC_eq, iRng1, iRng2, iList, iTup, iStr, tIfS, tRet, tRetN, tNext, tAsg, gName, tVar, tC, tOp, rI0, rI, tTest, tB, rEq, rNe, tCall, tCons, tNil, tCB, tLst, tTup, tAnd, tOr, tNot, tAndV, tOrV, tNotV, tIf, tDrop, tSl, tPart, tNoPart, tChain, tUn, rU, L2.start, cx_K, bk_K, cx_calm, bk_calm, lenV_str, and_assoc, Option.join, List.length_map, List.length_append, decide_eq_true_eq, Bool.false_eq_true, if_false, if_true, Bool.not_true, Bool.not_false, Bool.not_eq_true', decide_eq_false_iff_not, Bool.true_eq_false, List.length_cons, List.length_nil, List.map_cons, List.map_nil, List.replicate, List.cons_append, List.nil_append, List.append_nil, List.getElem?_cons_zero, List.getElem?_cons_succ, List.set_cons_zero, List.set_cons_succ, Nat.reduceSub, Nat.reduceAdd, Option.some.injEq, V.int.injEq, V.str.injEq, V.bl.injEq, V.ref.injEq, List.cons.injEq, and_true, true_and, exists_eq_left', exists_eq_left, exists_and_left, exists_eq_right, exists_const, tBM, tBM0, rAppend, rPop, rIxL, rIxT, rIxS, rSlL, rSlT, rSlS, rCat, rCatT, tKGet, cx_w, bk_w, tDGet, tDisp, tPairs, tDNewK, spNA]
  refine ⟨small (by decide), fun p hp => ⟨[v], upd_same, [t], TAts.one (TAt.tups (same_new hp _).tups ht), fun u hu => ?_, ?_, ?_, fun p2 zs' H' e h2 hpm hs => ?_⟩⟩
  · rw [List.mem_singleton.mp hu]; exact ⟨hf, hw⟩
  · show wt t + 0 ≤ 20000; omega
  · rw [nmss, nmss, List.append_nil]; exact h64
  · rw [nmss, nmss, List.append_nil] at hpm
    exact q _ _ _ ((same_new hp _).trans e) h2 hpm hs
end

end C
set_option Elab.async false
set_option linter.all false
set_option maxRecDepth 100000
set_option maxHeartbeats 8000000
namespace C
open PySem L2
seal PE PT PW PA PS PSs PG PGs PI PPs PO PSet PIf
abbrev s_law_pick : Stmt := top 20
theorem sc_law_pick : FnScope ["cell", "stack", "pool"] ["cell", "stack", "pool"] (defScope s_law_pick) := ⟨rfl, rfl, rfl, by decide +kernel, rfl, by decide +kernel, by decide +kernel⟩
abbrev s_terms_in : Stmt := top 7
theorem sc_terms_in : FnScope ["book", "saying", "terms", "rule", "premise"] ["book", "saying"] (defScope s_terms_in) := ⟨rfl, rfl, rfl, by decide +kernel, rfl, by decide +kernel, by decide +kernel⟩
abbrev s_names_in : Stmt := top 8
theorem sc_names_in : FnScope ["book", "saying"] ["book", "saying"] (defScope s_names_in) := ⟨rfl, rfl, rfl, by decide +kernel, rfl, by decide +kernel, by decide +kernel⟩
abbrev Rul := List (Tm × Tm) × (Tm × Tm)
def tmP (p : Tm × Tm) : List Tm := [p.1, p.2]
def tmPs (ps : List (Tm × Tm)) : List Tm := ps.flatMap tmP
def tmR (r : Rul) : List Tm := tmPs r.1 ++ tmP r.2
def tmB (rs : List Rul) : List Tm := rs.flatMap tmR
theorem tmPs_take {ps : List (Tm × Tm)} {i : Nat} {p : Tm × Tm} (h : ps[i]? = some p) : tmPs (ps.take (i + 1)) = tmPs (ps.take i) ++ tmP p := by
  obtain ⟨il, ie⟩ := List.getElem?_eq_some_iff.mp h
  unfold tmPs
  rw [List.take_succ_eq_append_getElem il, ie, List.flatMap_append]
  simp
theorem tmB_take {rs : List Rul} {i : Nat} {r : Rul} (h : rs[i]? = some r) : tmB (rs.take (i + 1)) = tmB (rs.take i) ++ tmR r := by
  obtain ⟨il, ie⟩ := List.getElem?_eq_some_iff.mp h
  unfold tmB
  rw [List.take_succ_eq_append_getElem il, ie, List.flatMap_append]
  simp
theorem tmB_split (rs : List Rul) (i : Nat) : (tmB (rs.take i)).length ≤ (tmB rs).length := by
  have : tmB rs = tmB (rs.take i) ++ tmB (rs.drop i) := by
    unfold tmB
    rw [← List.flatMap_append, List.take_append_drop]
  rw [this, List.length_append]
  omega
theorem tmPs_split (ps : List (Tm × Tm)) (i : Nat) : (tmPs (ps.take i)).length ≤ (tmPs ps).length := by
  have : tmPs ps = tmPs (ps.take i) ++ tmPs (ps.drop i) := by
    unfold tmPs
    rw [← List.flatMap_append, List.take_append_drop]
  rw [this, List.length_append]
  omega
abbrev RAts (H : Hp) (rs : List Rul) (vs : List V) : Prop := DAts H (rs.map dRule) vs
theorem RAts.length {H : Hp} {rs : List Rul} {vs : List V} (h : RAts H rs vs) : vs.length = rs.length := by
  have := DAts.length h
  rw [List.length_map] at this
  exact this
theorem RAts.getV {H : Hp} {rs : List Rul} {vs : List V} {i : Nat} {v : V} (h : RAts H rs vs) (hv : vs[i]? = some v) : ∃ r, rs[i]? = some r ∧ RAt H r v := by
  have hi : i < rs.length := by rw [← h.length]; exact (List.getElem?_eq_some_iff.mp hv).1
  obtain ⟨u, h1, h2⟩ := DAts.get (d := dRule rs[i]) h (by rw [List.getElem?_map, List.getElem?_eq_getElem hi]; rfl)
  rw [hv] at h1
  cases h1
  exact ⟨_, List.getElem?_eq_getElem hi, h2⟩
theorem RAts.snoc {H : Hp} {rs : List Rul} {vs : List V} {i : Nat} {r : Rul} {v : V} (ht : rs[i]? = some r) (h : RAts H (rs.take i) vs) (h1 : RAt H r v) : RAts H (rs.take (i + 1)) (vs ++ [v]) := by
  obtain ⟨hi, e⟩ := List.getElem?_eq_some_iff.mp ht
  unfold RAts
  rw [List.take_succ_eq_append_getElem hi, e, List.map_append]
  exact DAts.append h (DAts.one h1)
theorem SAt.two {H : Hp} {p : Tm × Tm} {v : V} (h : SAt H p v) : ∃ a us, v = .ref a ∧ H a = some (.tup us) ∧ TAts H (tmP p) us ∧ us.length = 2 := by
  obtain ⟨a, v1, v2, e1, e2, e3, e4⟩ := SAt.out h
  exact ⟨a, _, e1, e2, ⟨v1, _, rfl, e3, v2, _, rfl, e4, rfl⟩, rfl⟩
theorem same_put {H H' : Hp} {p : Addr} {o : HO} (e : Same H H') (hp : H p = none) : Same H (upd H' p o) := e.upd hp
def spPick (K : PySem.W.Frag) : Sp := fun vs H Q _ => ∃ (c : Int) (a p : Addr) (us : List V) (ts : List Tm) (pl : List Str), vs = [.int c, .ref a, .ref p] ∧ H a = some (.lst us) ∧ TAts H ts us ∧ ts ≠ [] ∧ (∀ t ∈ ts, Fit 17 t) ∧ wts ts ≤ 100 ∧ (∀ x ∈ nmss ts, x ∈ pl) ∧ Pool K H p pl ∧
  ∀ v t H', Same H H' → TAt H' t v → Fit 17 t → wt t ≤ 100 → (∀ x ∈ nms t, x ∈ pl) → Q v H'
def spTI : Sp := fun vs H Q _ => ∃ (a : Addr) (sv : V) (bs : List V) (rs : List Rul) (s : Tm × Tm), vs = [.ref a, sv] ∧ H a = some (.lst bs) ∧ RAts H rs bs ∧ SAt H s sv ∧ (tmB rs).length ≤ 1000 ∧
  ∀ p us H', Same H H' → H' p = some (.lst us) → TAts H' (tmB rs ++ tmP s) us → Q (.ref p) H'
def spNI : Sp := fun vs H Q _ => ∃ (a : Addr) (sv : V) (bs : List V) (rs : List Rul) (s : Tm × Tm), vs = [.ref a, sv] ∧ H a = some (.lst bs) ∧ RAts H rs bs ∧ SAt H s sv ∧ (tmB rs).length ≤ 1000 ∧
  (∀ t ∈ tmB rs ++ tmP s, Fit 20 t ∧ wt t ≤ 900) ∧ wts (tmB rs ++ tmP s) ≤ 20000 ∧ (addAll [] (nmss (tmB rs ++ tmP s))).length < 64 ∧
  ∀ p zs' H', Same H H' → H' p = some (.lst (zs'.map V.str)) → zs'.Perm (addAll [] (nmss (tmB rs ++ tmP s))) → PyProof.Rows.sortedS zs' = true → Q (.ref p) H'
section
variable {P : Program} {w : World} {K : PySem.W.Frag} {mg : Str → Option Value} {base : Heap} {f : Addr} {fd : FuncData}
theorem ok_pick (bi : Bi mg) (h_law_leaf : Has P w K mg base 1 "_law_leaf" ["cell", "pool"] (spLeaf K)) (F : Fun K "_law_pick" "_law_pick" s_law_pick f fd) : FnOk P w K mg base CX0 2 f fd ["cell", "stack", "pool"] (spPick K) := by
  refine F.ok sc_law_pick (fun vs H Q E h => ?_) (fun cdv A outer s H vs Q E hr h => ?_)
  · obtain ⟨c, a, p, us, ts, pl, rfl, _⟩ := h
    rfl
  obtain ⟨c, a, p, us, ts, pl, rfl, ha, hu, hne, hf, hw, hn, hP, q⟩ := h
  have hl := hu.length
  have hpos : 1 ≤ ts.length := List.length_pos_iff.mpr hne
  refine ⟨_, (pss_cons (ps_if (pt_cmpR op_eq (pe_op op_mod (pv 0) pe_int) pe_int (nomark _)) (pss_one (ps_ret (pe_ix ix_list (pv 1) (pe_op op_mod (pe_op op_fdiv (pv 0) pe_int) (pe_callB call_len rfl bi.len bt_len (pa_cons (pv 1) pa_nil))) (fun _ _ => rfl)))) pss_nil) (pss_one (ps_ret (pe_callH h_law_leaf (hr.mono (by omega)) rfl (pa_cons (pe_op op_fdiv (pv 0) pe_int) (pa_cons (pv 2) pa_nil)))))), ?_⟩
  simp only [tSeq, tFor_eq, tLC_eq, iRng1, iRng2, iList, iTup, iStr, tIfS, tRet, tRetN, tNext, tAsg, gName, tVar, tC, tOp, rI0, rI, tTest, tB, rEq, rNe, tCall, tCons, tNil, tCB, tLst, tTup, tAnd, tOr, tNot, tAndV, tOrV, tNotV, tIf, tDrop, tSl, tPart, tNoPart, tChain, tUn, rU, L2.start, cx_K, bk_K, cx_calm, bk_calm, lenV_str, and_assoc, Option.join, List.length_map, List.length_append, decide_eq_true_eq, Bool.false_eq_true, if_false, if_true, Bool.not_true, Bool.not_false, Bool.not_eq_true', decide_eq_false_iff_not, Bool.true_eq_false, List.length_cons, List.length_nil, List.map_cons, List.map_nil, List.replicate, List.cons_append, List.nil_append, List.append_nil, List.getElem?_cons_zero, List.getElem?_cons_succ, List.set_cons_zero, List.set_cons_succ, Nat.reduceSub, Nat.reduceAdd, Option.some.injEq, V.int.injEq, V.str.injEq, V.bl.injEq, V.ref.injEq, List.cons.injEq, and_true, true_and, exists_eq_left', exists_eq_left, exists_and_left, exists_eq_right, exists_const, tBM, tBM0, rAppend, rPop, rIxL, rIxT, rIxS, rSlL, rSlT, rSlS, rCat, rCatT, tKGet, cx_w, bk_w, tDGet, tDisp, tPairs, tDNewK, spLeaf]
  refine ⟨by decide, rfl, ?_⟩
  split
  · refine ⟨⟨by decide, by decide⟩, us.length, .inl ⟨_, SqL.of ha, rfl⟩, by omega, ?_⟩
    have hk : 0 ≤ c / 3 % (us.length : Int) ∧ c / 3 % (us.length : Int) < us.length := ⟨Int.emod_nonneg _ (by omega), Int.emod_lt_of_pos _ (by omega)⟩
    generalize c / 3 % (us.length : Int) = k at hk
    obtain ⟨k, rfl⟩ : ∃ k' : Nat, k = (k' : Int) := ⟨k.toNat, by omega⟩
    have hkl : k < us.length := by omega
    obtain ⟨t, ht1, ht2⟩ := hu.getV (List.getElem?_eq_getElem hkl)
    have hm := List.mem_of_getElem? ht1
    have hmt := wts_mem hm
    refine ⟨_, SqL.of ha, us[k], atI_nat (List.getElem?_eq_getElem hkl), q _ t H (Same.refl H) ht2 (hf t hm) (by omega) fun x hx => hn x ?_⟩
    have : ∀ {l : List Tm}, t ∈ l → x ∈ nmss l := by
      intro l
      induction l with
      | nil => intro z; cases z
      | cons u l ih =>
        intro z
        rw [nmss]
        rcases List.mem_cons.mp z with rfl | z
        · exact List.mem_append_left _ hx
        · exact List.mem_append_right _ (ih z)
    exact this hm
  · refine ⟨⟨by decide, by decide⟩, pl, hP, fun v t H' e h1 h2 h3 h4 => q v t H' e h1 (h2.mono (by omega)) (by omega) h4⟩
theorem ok_terms_in (bi : Bi mg) (F : Fun K "terms_in" "terms_in" s_terms_in f fd) : FnOk P w K mg base CX0 1 f fd ["book", "saying"] spTI := by
  refine F.ok sc_terms_in (fun vs H Q E h => ?_) (fun cdv A outer s H vs Q E hr h => ?_)
  · obtain ⟨a, sv, bs, rs, s, rfl, _⟩ := h
    rfl
  obtain ⟨a, sv, bs, rs, s, rfl, ha, hr', hs, hz, q⟩ := h
  have hbl := hr'.length
  refine ⟨_, (pss_cons (ps_set (i := 2) sc_terms_in.nd rfl (Or.inl rfl) (pe_lst pa_nil)) (pss_cons (ps_for PassesOwn.never rfl (pi_list (pv 0)) (pg_name (i := 3) sc_terms_in.nd rfl (Or.inl rfl)) (pss_cons (ps_for PassesOwn.never rfl (pi_list (pe_ix ix_tup (pv 3) pe_int (fun _ _ => rfl))) (pg_name (i := 4) sc_terms_in.nd rfl (Or.inl rfl)) (pss_one (ps_expr (pe_bm PySem.F.plainAttrs_list PySem.F.slot_list_extend PySem.F.type_list_extend mt_extendT (pv 2) (pa_cons (pv 4) pa_nil))))) (pss_one (ps_expr (pe_bm PySem.F.plainAttrs_list PySem.F.slot_list_extend PySem.F.type_list_extend mt_extendT (pv 2) (pa_cons (pe_ix ix_tup (pv 3) pe_int (fun _ _ => rfl)) pa_nil)))))) (pss_cons (ps_expr (pe_bm PySem.F.plainAttrs_list PySem.F.slot_list_extend PySem.F.type_list_extend mt_extendT (pv 2) (pa_cons (pv 1) pa_nil))) (pss_one (ps_ret (pv 2)))))), ?_⟩
  refine seq_abs fun N hN => ?_
  simp only [tSeq, tFor_eq, tLC_eq, iRng1, iRng2, iList, iTup, iStr, tIfS, tRet, tRetN, tNext, tAsg, gName, tVar, tC, tOp, rI0, rI, tTest, tB, rEq, rNe, tCall, tCons, tNil, tCB, tLst, tTup, tAnd, tOr, tNot, tAndV, tOrV, tNotV, tIf, tDrop, tSl, tPart, tNoPart, tChain, tUn, rU, L2.start, cx_K, bk_K, cx_calm, bk_calm, lenV_str, and_assoc, Option.join, List.length_map, List.length_append, decide_eq_true_eq, Bool.false_eq_true, if_false, if_true, Bool.not_true, Bool.not_false, Bool.not_eq_true', decide_eq_false_iff_not, Bool.true_eq_false, List.length_cons, List.length_nil, List.map_cons, List.map_nil, List.replicate, List.cons_append, List.nil_append, List.append_nil, List.getElem?_cons_zero, List.getElem?_cons_succ, List.set_cons_zero, List.set_cons_succ, Nat.reduceSub, Nat.reduceAdd, Option.some.injEq, V.int.injEq, V.str.injEq, V.bl.injEq, V.ref.injEq, List.cons.injEq, and_true, true_and, exists_eq_left', exists_eq_left, exists_and_left, exists_eq_right, exists_const, tBM, tBM0, rAppend, rPop, rIxL, rIxT, rIxS, rSlL, rSlT, rSlS, rCat, rCatT, tKGet, cx_w, bk_w, tDGet, tDisp, tPairs, tDNewK]
  refine ⟨small (by decide), fun p hp => hN _ _ ?_⟩
  refine seq_join (fun σ H' => Same H H' ∧ (∃ us, H' p = some (.lst us) ∧ TAts H (tmB rs) us) ∧ ∃ o1 o2, σ = [some (V.ref a), some sv, some (V.ref p), o1, o2]) (fun N hN => ?_) (fun σ H' h => ?_)
  · simp only [tSeq, tFor_eq, tLC_eq, iRng1, iRng2, iList, iTup, iStr, tIfS, tRet, tRetN, tNext, tAsg, gName, tVar, tC, tOp, rI0, rI, tTest, tB, rEq, rNe, tCall, tCons, tNil, tCB, tLst, tTup, tAnd, tOr, tNot, tAndV, tOrV, tNotV, tIf, tDrop, tSl, tPart, tNoPart, tChain, tUn, rU, L2.start, cx_K, bk_K, cx_calm, bk_calm, lenV_str, and_assoc, Option.join, List.length_map, List.length_append, decide_eq_true_eq, Bool.false_eq_true, if_false, if_true, Bool.not_true, Bool.not_false, Bool.not_eq_true', decide_eq_false_iff_not, Bool.true_eq_false, List.length_cons, List.length_nil, List.map_cons, List.map_nil, List.replicate, List.cons_append, List.nil_append, List.append_nil, List.getElem?_cons_zero, List.getElem?_cons_succ, List.set_cons_zero, List.set_cons_succ, Nat.reduceSub, Nat.reduceAdd, Option.some.injEq, V.int.injEq, V.str.injEq, V.bl.injEq, V.ref.injEq, List.cons.injEq, and_true, true_and, exists_eq_left', exists_eq_left, exists_and_left, exists_eq_right, exists_const, tBM, tBM0, rAppend, rPop, rIxL, rIxT, rIxS, rSlL, rSlT, rSlS, rCat, rCatT, tKGet, cx_w, bk_w, tDGet, tDisp, tPairs, tDNewK]
    refine ⟨⟨_, SqL.of (same_new hp _ _ _ ha)⟩, ?_⟩
    refine fw_list (xs := bs) (fun i σ H' => Same H H' ∧ (∃ us, H' p = some (.lst us) ∧ TAts H (tmB (rs.take i)) us) ∧ ∃ o1 o2, σ = [some (V.ref a), some sv, some (V.ref p), o1, o2]) ?_ (fun i σ H' _ h => SqL.of (h.1 _ _ ha)) (fun i x σ H' hx h => ?_) (fun σ H' h => ?_)
    · exact ⟨same_new hp _, ⟨[], upd_same, rfl⟩, _, _, rfl⟩
    · obtain ⟨es, ⟨us, hus, hut⟩, o1, o2, rfl⟩ := h
      obtain ⟨r, hri, hx'⟩ := hr'.getV hx
      obtain ⟨ra, l, sv2, vs, rfl, hra, hl, hps, hs2⟩ := RAt.out hx'
      have hln : vs.length = r.1.length := SAts.length hps
      have hb1 := tmB_split rs (i + 1)
      rw [tmB_take hri, List.length_append] at hb1
      have hb2 : (tmR r).length = (tmPs r.1).length + 2 := by unfold tmR; rw [List.length_append]; rfl
      show tSeq _ _ _ _ _
      refine seq_join (fun σ H' => Same H H' ∧ (∃ us, H' p = some (.lst us) ∧ TAts H (tmB (rs.take i) ++ tmPs r.1) us) ∧ ∃ o2, σ = [some (V.ref a), some sv, some (V.ref p), some (V.ref ra), o2]) (fun N hN => ?_) (fun σ H' h => ?_)
      · simp only [tSeq, tFor_eq, tLC_eq, iRng1, iRng2, iList, iTup, iStr, tIfS, tRet, tRetN, tNext, tAsg, gName, tVar, tC, tOp, rI0, rI, tTest, tB, rEq, rNe, tCall, tCons, tNil, tCB, tLst, tTup, tAnd, tOr, tNot, tAndV, tOrV, tNotV, tIf, tDrop, tSl, tPart, tNoPart, tChain, tUn, rU, L2.start, cx_K, bk_K, cx_calm, bk_calm, lenV_str, and_assoc, Option.join, List.length_map, List.length_append, decide_eq_true_eq, Bool.false_eq_true, if_false, if_true, Bool.not_true, Bool.not_false, Bool.not_eq_true', decide_eq_false_iff_not, Bool.true_eq_false, List.length_cons, List.length_nil, List.map_cons, List.map_nil, List.replicate, List.cons_append, List.nil_append, List.append_nil, List.getElem?_cons_zero, List.getElem?_cons_succ, List.set_cons_zero, List.set_cons_succ, Nat.reduceSub, Nat.reduceAdd, Option.some.injEq, V.int.injEq, V.str.injEq, V.bl.injEq, V.ref.injEq, List.cons.injEq, and_true, true_and, exists_eq_left', exists_eq_left, exists_and_left, exists_eq_right, exists_const, tBM, tBM0, rAppend, rPop, rIxL, rIxT, rIxS, rSlL, rSlT, rSlS, rCat, rCatT, tKGet, cx_w, bk_w, tDGet, tDisp, tPairs, tDNewK]
        refine ⟨_, SqT.of (es _ _ hra), .ref l, at0, _, rfl, ⟨_, SqL.of (es _ _ hl)⟩, ?_⟩
        refine fw_list (xs := vs) (fun j σ H' => Same H H' ∧ (∃ us, H' p = some (.lst us) ∧ TAts H (tmB (rs.take i) ++ tmPs (r.1.take j)) us) ∧ ∃ o2, σ = [some (V.ref a), some sv, some (V.ref p), some (V.ref ra), o2]) ?_ (fun j σ H' _ h => SqL.of (h.1 _ _ hl)) (fun j y σ H' hy h => ?_) (fun σ H' h => ?_)
        · exact ⟨es, ⟨us, hus, by simpa [tmPs] using hut⟩, _, rfl⟩
        · obtain ⟨es, ⟨us, hus, hut⟩, o2, rfl⟩ := h
          obtain ⟨pr, hpi, hy'⟩ := SAts.getV hps hy
          obtain ⟨sa, ws, rfl, hsa, hws, hw2⟩ := SAt.two hy'
          have hlu := hut.length
          have hb3 := tmPs_split r.1 j
          rw [List.length_append] at hlu
          simp only [tSeq, tFor_eq, tLC_eq, iRng1, iRng2, iList, iTup, iStr, tIfS, tRet, tRetN, tNext, tAsg, gName, tVar, tC, tOp, rI0, rI, tTest, tB, rEq, rNe, tCall, tCons, tNil, tCB, tLst, tTup, tAnd, tOr, tNot, tAndV, tOrV, tNotV, tIf, tDrop, tSl, tPart, tNoPart, tChain, tUn, rU, L2.start, cx_K, bk_K, cx_calm, bk_calm, lenV_str, and_assoc, Option.join, List.length_map, List.length_append, decide_eq_true_eq, Bool.false_eq_true, if_false, if_true, Bool.not_true, Bool.not_false, Bool.not_eq_true', decide_eq_false_iff_not, Bool.true_eq_false, List.length_cons, List.length_nil, List.map_cons, List.map_nil, List.replicate, List.cons_append, List.nil_append, List.append_nil, List.getElem?_cons_zero, List.getElem?_cons_succ, List.set_cons_zero, List.set_cons_succ, Nat.reduceSub, Nat.reduceAdd, Option.some.injEq, V.int.injEq, V.str.injEq, V.bl.injEq, V.ref.injEq, List.cons.injEq, and_true, true_and, exists_eq_left', exists_eq_left, exists_and_left, exists_eq_right, exists_const, tBM, tBM0, rAppend, rPop, rIxL, rIxT, rIxS, rSlL, rSlT, rSlS, rCat, rCatT, tKGet, cx_w, bk_w, tDGet, tDisp, tPairs, tDNewK, rExtendT]
          refine ⟨.inl ⟨rfl, _, SqL.of hus⟩, _, hus, _, SqT.of (es _ _ hsa), Nat.le_trans (m := 1000000) (by omega) (by decide), ?_⟩
          refine ⟨same_put es hp, ⟨_, upd_same, ?_⟩, _, rfl⟩
          rw [tmPs_take hpi, ← List.append_assoc]
          exact TAts.append hut hws
        · obtain ⟨es, ⟨us, hus, hut⟩, o2, rfl⟩ := h
          rw [show r.1.take vs.length = r.1 from List.take_of_length_le (by omega)] at hut
          exact hN _ _ ⟨es, ⟨us, hus, hut⟩, _, rfl⟩
      · obtain ⟨es, ⟨us, hus, hut⟩, o2, rfl⟩ := h
        obtain ⟨sa, ws, rfl, hsa, hws, hw2⟩ := SAt.two hs2
        have hlu := hut.length
        rw [List.length_append] at hlu
        simp only [tSeq, tFor_eq, tLC_eq, iRng1, iRng2, iList, iTup, iStr, tIfS, tRet, tRetN, tNext, tAsg, gName, tVar, tC, tOp, rI0, rI, tTest, tB, rEq, rNe, tCall, tCons, tNil, tCB, tLst, tTup, tAnd, tOr, tNot, tAndV, tOrV, tNotV, tIf, tDrop, tSl, tPart, tNoPart, tChain, tUn, rU, L2.start, cx_K, bk_K, cx_calm, bk_calm, lenV_str, and_assoc, Option.join, List.length_map, List.length_append, decide_eq_true_eq, Bool.false_eq_true, if_false, if_true, Bool.not_true, Bool.not_false, Bool.not_eq_true', decide_eq_false_iff_not, Bool.true_eq_false, List.length_cons, List.length_nil, List.map_cons, List.map_nil, List.replicate, List.cons_append, List.nil_append, List.append_nil, List.getElem?_cons_zero, List.getElem?_cons_succ, List.set_cons_zero, List.set_cons_succ, Nat.reduceSub, Nat.reduceAdd, Option.some.injEq, V.int.injEq, V.str.injEq, V.bl.injEq, V.ref.injEq, List.cons.injEq, and_true, true_and, exists_eq_left', exists_eq_left, exists_and_left, exists_eq_right, exists_const, tBM, tBM0, rAppend, rPop, rIxL, rIxT, rIxS, rSlL, rSlT, rSlS, rCat, rCatT, tKGet, cx_w, bk_w, tDGet, tDisp, tPairs, tDNewK, rExtendT]
        refine ⟨.inl ⟨rfl, _, SqL.of hus⟩, _, SqT.of (es _ _ hra), .ref sa, at1, sa, rfl, _, hus, _, SqT.of (es _ _ hsa), Nat.le_trans (m := 1000000) (by omega) (by decide), ?_⟩
        refine ⟨same_put es hp, ⟨_, upd_same, ?_⟩, _, rfl⟩
        rw [tmB_take hri]
        unfold tmR
        rw [← List.append_assoc]
        exact TAts.append hut hws
    · obtain ⟨es, ⟨us, hus, hut⟩, o1, o2, rfl⟩ := h
      rw [List.take_of_length_le (by omega)] at hut
      exact hN _ _ ⟨es, ⟨us, hus, hut⟩, _, _, rfl⟩
  · obtain ⟨es, ⟨us, hus, hut⟩, o1, o2, rfl⟩ := h
    obtain ⟨sa, ws, rfl, hsa, hws, hw2⟩ := SAt.two hs
    have hlu := hut.length
    refine seq_abs fun N hN => ?_
    simp only [tSeq, tFor_eq, tLC_eq, iRng1, iRng2, iList, iTup, iStr, tIfS, tRet, tRetN, tNext, tAsg, gName, tVar, tC, tOp, rI0, rI, tTest, tB, rEq, rNe, tCall, tCons, tNil, tCB, tLst, tTup, tAnd, tOr, tNot, tAndV, tOrV, tNotV, tIf, tDrop, tSl, tPart, tNoPart, tChain, tUn, rU, L2.start, cx_K, bk_K, cx_calm, bk_calm, lenV_str, and_assoc, Option.join, List.length_map, List.length_append, decide_eq_true_eq, Bool.false_eq_true, if_false, if_true, Bool.not_true, Bool.not_false, Bool.not_eq_true', decide_eq_false_iff_not, Bool.true_eq_false, List.length_cons, List.length_nil, List.map_cons, List.map_nil, List.replicate, List.cons_append, List.nil_append, List.append_nil, List.getElem?_cons_zero, List.getElem?_cons_succ, List.set_cons_zero, List.set_cons_succ, Nat.reduceSub, Nat.reduceAdd, Option.some.injEq, V.int.injEq, V.str.injEq, V.bl.injEq, V.ref.injEq, List.cons.injEq, and_true, true_and, exists_eq_left', exists_eq_left, exists_and_left, exists_eq_right, exists_const, tBM, tBM0, rAppend, rPop, rIxL, rIxT, rIxS, rSlL, rSlT, rSlS, rCat, rCatT, tKGet, cx_w, bk_w, tDGet, tDisp, tPairs, tDNewK, rExtendT]
    refine ⟨.inl ⟨rfl, _, SqL.of hus⟩, _, hus, _, SqT.of (es _ _ hsa), Nat.le_trans (m := 1000000) (by omega) (by decide), hN _ _ ?_⟩
    simp only [tSeq, tFor_eq, tLC_eq, iRng1, iRng2, iList, iTup, iStr, tIfS, tRet, tRetN, tNext, tAsg, gName, tVar, tC, tOp, rI0, rI, tTest, tB, rEq, rNe, tCall, tCons, tNil, tCB, tLst, tTup, tAnd, tOr, tNot, tAndV, tOrV, tNotV, tIf, tDrop, tSl, tPart, tNoPart, tChain, tUn, rU, L2.start, cx_K, bk_K, cx_calm, bk_calm, lenV_str, and_assoc, Option.join, List.length_map, List.length_append, decide_eq_true_eq, Bool.false_eq_true, if_false, if_true, Bool.not_true, Bool.not_false, Bool.not_eq_true', decide_eq_false_iff_not, Bool.true_eq_false, List.length_cons, List.length_nil, List.map_cons, List.map_nil, List.replicate, List.cons_append, List.nil_append, List.append_nil, List.getElem?_cons_zero, List.getElem?_cons_succ, List.set_cons_zero, List.set_cons_succ, Nat.reduceSub, Nat.reduceAdd, Option.some.injEq, V.int.injEq, V.str.injEq, V.bl.injEq, V.ref.injEq, List.cons.injEq, and_true, true_and, exists_eq_left', exists_eq_left, exists_and_left, exists_eq_right, exists_const, tBM, tBM0, rAppend, rPop, rIxL, rIxT, rIxS, rSlL, rSlT, rSlS, rCat, rCatT, tKGet, cx_w, bk_w, tDGet, tDisp, tPairs, tDNewK]
    exact q p _ _ (same_put es hp) upd_same (DAts.same (same_put es hp) (TAts.append hut hws))
theorem ok_names_in (bi : Bi mg) (h_names_of_all : Has P w K mg base 23 "names_of_all" ["terms"] spNA) (h_terms_in : Has P w K mg base 1 "terms_in" ["book", "saying"] spTI) (F : Fun K "names_in" "names_in" s_names_in f fd) : FnOk P w K mg base CX0 24 f fd ["book", "saying"] spNI := by
  refine F.ok sc_names_in (fun vs H Q E h => ?_) (fun cdv A outer s H vs Q E hr h => ?_)
  · obtain ⟨a, sv, bs, rs, s, rfl, _⟩ := h
    rfl
  obtain ⟨a, sv, bs, rs, s, rfl, ha, hr', hs, hz, hf, hw, h64, q⟩ := h
  refine ⟨_, (pss_one (ps_ret (pe_callH h_names_of_all (hr.mono (by omega)) rfl (pa_cons (pe_callH h_terms_in (hr.mono (by omega)) rfl (pa_cons (pv 0) (pa_cons (pv 1) pa_nil))) pa_nil)))), ?_⟩
  simp only [tSeq, tFor_eq, tLC_eq, iRng1, iRng2, iList, iTup, iStr, tIfS, tRet, tRetN, tNext, tAsg, gName, tVar, tC, tOp, rI0, rI, tTest, tB, rEq, rNe, tCall, tCons, tNil, tCB, tLst, tTup, tAnd, tOr, tNot, tAndV, tOrV, tNotV, tIf, tDrop, tSl, tPart, tNoPart, tChain, tUn, rU, L2.start, cx_K, bk_K, cx_calm, bk_calm, lenV_str, and_assoc, Option.join, List.length_map, List.length_append, decide_eq_true_eq, Bool.false_eq_true, if_false, if_true, Bool.not_true, Bool.not_false, Bool.not_eq_true', decide_eq_false_iff_not, Bool.true_eq_false, List.length_cons, List.length_nil, List.map_cons, List.map_nil, List.replicate, List.cons_append, List.nil_append, List.append_nil, List.getElem?_cons_zero, List.getElem?_cons_succ, List.set_cons_zero, List.set_cons_succ, Nat.reduceSub, Nat.reduceAdd, Option.some.injEq, V.int.injEq, V.str.injEq, V.bl.injEq, V.ref.injEq, List.cons.injEq, and_true, true_and, exists_eq_left', exists_eq_left, exists_and_left, exists_eq_right, exists_const, tBM, tBM0, rAppend, rPop, rIxL, rIxT, rIxS, rSlL, rSlT, rSlS, rCat, rCatT, tKGet, cx_w, bk_w, tDGet, tDisp, tPairs, tDNewK, spNA, spTI]
  refine ⟨_, ha, rs, hr', s, hs, hz, fun p us H1 e1 hp hu => ?_⟩
  exact ⟨us, hp, _, hu, hf, hw, h64, fun p2 zs' H2 e2 h2 hpm hso => q p2 zs' H2 (e1.trans e2) h2 hpm hso⟩
end

end C
set_option Elab.async false
set_option linter.all false
set_option maxRecDepth 100000
set_option maxHeartbeats 8000000
namespace C
open PySem L2
seal PE PT PW PA PS PSs PG PGs PI PPs PO PSet PIf
abbrev s_law : Stmt := top 21
theorem sc_law : FnScope ["script", "pool", "stack", "t", "due", "some", "first", "second", "third", "book", "handed", "seen", "rule", "one", "found"] ["script"] (defScope s_law) := ⟨rfl, rfl, rfl, by decide +kernel, rfl, by decide +kernel, by decide +kernel⟩
def spLaw (K : PySem.W.Frag) : Sp := fun vs H Q _ => ∃ (a : Addr) (ns : List Int), vs = [.ref a] ∧ SqL K H a (ns.map V.int) ∧ ns.length ≤ 63 ∧ ∀ H', Q (.bl true) H'
theorem mem_addAll : ∀ (xs zs : List Str) (z : Str), z ∈ addAll zs xs ↔ z ∈ zs ∨ z ∈ xs
  | [], zs, z => by simp [addAll]
  | x :: xs, zs, z => by
    show z ∈ addAll (addN zs x) xs ↔ _
    rw [mem_addAll xs (addN zs x) z]
    unfold addN
    split
    · rename_i h
      rw [List.mem_cons]
      constructor
      · rintro (h1 | h1)
        · exact .inl h1
        · exact .inr (.inr h1)
      · rintro (h1 | rfl | h1)
        · exact .inl h1
        · exact .inl h
        · exact .inr h1
    · rw [List.mem_append, List.mem_singleton, List.mem_cons, or_assoc]
theorem nodup_addAll : ∀ (xs zs : List Str), zs.Nodup → (addAll zs xs).Nodup
  | [], zs, h => h
  | x :: xs, zs, h => by
    show (addAll (addN zs x) xs).Nodup
    refine nodup_addAll xs _ ?_
    unfold addN
    split
    · exact h
    · rename_i hx
      refine List.nodup_append.mpr ⟨h, by simp, fun a ha b hb => ?_⟩
      rw [List.mem_singleton] at hb
      rintro rfl
      exact hx (hb ▸ ha)
/-- two tellings of the same names are one list -/
theorem tell_one {xs ws ys zs zs' : List Str} (h1 : zs.Perm (addAll [] xs)) (s1 : PyProof.Rows.sortedS zs = true) (hn : ys.Nodup) (hm : ∀ z, z ∈ ys ↔ z ∈ ws) (h2 : zs'.Perm ys) (s2 : PyProof.Rows.sortedS zs' = true) (e : ∀ z, z ∈ xs ↔ z ∈ ws) : zs = zs' := by
  refine sorted_one s1 s2 (h1.trans ((nodup_perm (nodup_addAll xs [] List.nodup_nil) hn fun x => ?_).trans h2.symm))
  rw [mem_addAll, hm, ← e]
  simp
theorem dstr (zs : List Str) (H : Hp) : DAts H (zs.map Dt.str) (zs.map V.str) := by
  induction zs with
  | nil => rfl
  | cons z zs ih => exact ⟨_, _, rfl, rfl, ih⟩
theorem p109 : (0 : Int) < 10 ^ Int.toNat 9 := by show (0 : Int) < 10 ^ 9; simp
theorem wts_le : ∀ {l : List Tm} {m : Nat}, (∀ t ∈ l, wt t ≤ m) → wts l ≤ m * l.length
  | [], m, _ => by simp [wts]
  | t :: l, m, h => by
    have h1 := wts_le fun u hu => h u (List.mem_cons_of_mem _ hu)
    have h2 := h t List.mem_cons_self
    rw [wts, List.length_cons, Nat.mul_succ]
    omega
theorem cx_P {CX : CXT} {P : Program} {w : World} {K : PySem.W.Frag} {mg : Str → Option Value} {base : Heap} {N : List Str} {qual : Str} {scope : Scope} {f : Addr} {cd : Value} {A : Around} {outer : List Env} {s : Shared} {H : Hp} {E : XK} : (cxOf CX P w K mg base N qual scope f cd A outer s H E).prog = P := rfl
section
variable {P : Program} {w : World} {K : PySem.W.Frag} {mg : Str → Option Value} {base : Heap} {f : Addr} {fd : FuncData}
theorem ok_law (bi : Bi mg) (h_law_cell_at : Has P w K mg base 1 "_law_cell_at" ["script", "k"] (spCell K)) (h_law_pool : Has P w K mg base 2 "_law_pool" ["script"] (spPool K)) (h_law_stack : Has P w K mg base 2 "_law_stack" ["cells", "pool"] (spStack K)) (h_law_whole_term : Has P w K mg base 1 "_law_whole_term" ["stack"] spWhole)
    (h_law_alike : Has P w K mg base 40 "_law_alike" ["found", "due"] (spAlk 40)) (h_law_names : Has P w K mg base 19 "_law_names" ["t"] (spLN 19)) (h_law_leaves : Has P w K mg base 20 "_law_leaves" ["t"] (spLv 20)) (h_law_depth : Has P w K mg base 20 "_law_depth" ["t"] (spDp 20)) (h_leaves : Has P w K mg base 20 "leaves" ["t"] (spLv 20)) (h_depth : Has P w K mg base 20 "depth" ["t"] (spDp 20))
    (h_names_of : Has P w K mg base 24 "names_of" ["t"] spNO) (h_names_in : Has P w K mg base 24 "names_in" ["book", "saying"] spNI) (h_law_pick : Has P w K mg base 2 "_law_pick" ["cell", "stack", "pool"] (spPick K))
    (F : Fun K "law" "law" s_law f fd) : FnOk P w K mg base CX0 65 f fd ["script"] (spLaw K) := by
  refine F.ok sc_law (fun vs H Q E h => ?_) (fun cdv A outer s H vs Q E hr h => ?_)
  · obtain ⟨a, ns, rfl, _⟩ := h
    rfl
  obtain ⟨a, ns, rfl, hS, h63, q⟩ := h
  refine ⟨_, (pss_cons (ps_set (i := 1) sc_law.nd rfl (Or.inr rfl) (pe_callH h_law_pool (hr.mono (by omega)) rfl (pa_cons (pv 0) pa_nil))) (pss_cons (ps_set (i := 2) sc_law.nd rfl (Or.inr rfl) (pe_callH h_law_stack (hr.mono (by omega)) rfl (pa_cons (pe_slice sl_list (pv 0) (po_some pe_int) (po_some pe_int)) (pa_cons (pv 1) pa_nil)))) (pss_cons (ps_set (i := 3) sc_law.nd rfl (Or.inl rfl) (pe_callH h_law_whole_term (hr.mono (by omega)) rfl (pa_cons (pv 2) pa_nil))) (pss_cons (ps_set (i := 4) sc_law.nd rfl (Or.inl rfl) (pe_tup (pa_cons (pe_callB call_sortedX rfl bi.sorted bt_sorted (pa_cons (pe_callTy call_setT rfl bi.set bt_set (pa_cons (pe_callH h_law_names (hr.mono (by omega)) rfl (pa_cons (pv 3) pa_nil)) pa_nil)) pa_nil)) (pa_cons (pe_callH h_law_leaves (hr.mono (by omega)) rfl (pa_cons (pv 3) pa_nil)) (pa_cons (pe_callH h_law_depth (hr.mono (by omega)) rfl (pa_cons (pv 3) pa_nil)) pa_nil))))) (pss_cons (ps_if (pt_not (pt_val (pe_callH h_law_alike (hr.mono (by omega)) rfl (pa_cons (pe_tup (pa_cons (pe_callH h_names_of (hr.mono (by omega)) rfl (pa_cons (pv 3) pa_nil)) (pa_cons (pe_callH h_leaves (hr.mono (by omega)) rfl (pa_cons (pv 3) pa_nil)) (pa_cons (pe_callH h_depth (hr.mono (by omega)) rfl (pa_cons (pv 3) pa_nil)) pa_nil)))) (pa_cons (pv 4) pa_nil))))) (pss_one (ps_ret pe_bl)) pss_nil) (pss_cons (ps_comp (i := 5) ["k"] ["stack", "pool", "script"] [2, 1, 0] sc_law.nd rfl (pi_range1 rfl bi.range (pa_cons pe_int pa_nil)) (fun _ _ _ _ nd => pg_name (i := 0) nd rfl (Or.inl rfl)) (fun _ _ _ _ => pif_nil) (fun _ _ _ _ => (pe_callH h_law_pick (hr.mono (by omega)) rfl (pa_cons (pe_op op_mod (pe_callH h_law_cell_at (hr.mono (by omega)) rfl (pa_cons (pv 3) (pa_cons (pe_op op_add pe_int (pe_op op_mul pe_int (pv 0))) pa_nil))) (pe_op op_pow pe_int pe_int)) (pa_cons (pv 1) (pa_cons (pv 2) pa_nil)))))) (pss_cons (ps_set (i := 6) sc_law.nd rfl (Or.inl rfl) (pe_tup (pa_cons (pe_lst pa_nil) (pa_cons (pe_tup (pa_cons (pe_ix ix_list (pv 5) pe_int (fun _ _ => rfl)) (pa_cons (pe_ix ix_list (pv 5) pe_int (fun _ _ => rfl)) pa_nil))) pa_nil)))) (pss_cons (ps_set (i := 7) sc_law.nd rfl (Or.inl rfl) (pe_tup (pa_cons (pe_lst (pa_cons (pe_tup (pa_cons (pe_ix ix_list (pv 5) pe_int (fun _ _ => rfl)) (pa_cons (pe_ix ix_list (pv 5) pe_int (fun _ _ => rfl)) pa_nil))) (pa_cons (pe_tup (pa_cons (pe_ix ix_list (pv 5) pe_int (fun _ _ => rfl)) (pa_cons (pe_ix ix_list (pv 5) pe_int (fun _ _ => rfl)) pa_nil))) pa_nil))) (pa_cons (pe_tup (pa_cons (pe_ix ix_list (pv 5) pe_int (fun _ _ => rfl)) (pa_cons (pe_ix ix_list (pv 5) pe_int (fun _ _ => rfl)) pa_nil))) pa_nil)))) (pss_cons (ps_set (i := 8) sc_law.nd rfl (Or.inl rfl) (pe_tup (pa_cons (pe_lst (pa_cons (pe_tup (pa_cons (pe_ix ix_list (pv 5) pe_int (fun _ _ => rfl)) (pa_cons (pe_ix ix_list (pv 5) pe_int (fun _ _ => rfl)) pa_nil))) pa_nil)) (pa_cons (pe_tup (pa_cons (pe_ix ix_list (pv 5) pe_int (fun _ _ => rfl)) (pa_cons (pe_ix ix_list (pv 5) pe_int (fun _ _ => rfl)) pa_nil))) pa_nil)))) (pss_cons (ps_set (i := 9) sc_law.nd rfl (Or.inl rfl) (pe_ix ix_list (pe_lst (pa_cons (pe_lst pa_nil) (pa_cons (pe_lst (pa_cons (pv 6) pa_nil)) (pa_cons (pe_lst (pa_cons (pv 7) (pa_cons (pv 6) pa_nil))) (pa_cons (pe_lst (pa_cons (pv 6) (pa_cons (pv 7) pa_nil))) (pa_cons (pe_lst (pa_cons (pv 7) pa_nil)) (pa_cons (pe_lst (pa_cons (pv 8) (pa_cons (pv 6) (pa_cons (pv 7) pa_nil)))) pa_nil))))))) (pe_op op_mod (pe_callB call_len rfl bi.len bt_len (pa_cons (pv 2) pa_nil)) pe_int) (fun _ _ => rfl))) (pss_cons (ps_comp (i := 10) ["rule"] [] [] sc_law.nd rfl (pi_list (pv 9)) (fun _ _ _ _ nd => pg_name (i := 0) nd rfl (Or.inl rfl)) (fun _ _ _ _ => pif_nil) (fun _ _ _ _ => (pe_tup (pa_cons (pe_callTy (call_list_ofK K) rfl bi.list bt_list (pa_cons (pe_ix (ix_tupK K) (pv 0) pe_int (fun _ _ => rfl)) pa_nil)) (pa_cons (pe_ix (ix_tupK K) (pv 0) pe_int (fun _ _ => rfl)) pa_nil))))) (pss_cons (ps_set (i := 11) sc_law.nd rfl (Or.inl rfl) (pe_op op_cat (pe_callH h_law_names (hr.mono (by omega)) rfl (pa_cons (pe_ix ix_list (pv 5) pe_int (fun _ _ => rfl)) pa_nil)) (pe_callH h_law_names (hr.mono (by omega)) rfl (pa_cons (pe_ix ix_list (pv 5) pe_int (fun _ _ => rfl)) pa_nil)))) (pss_cons (ps_for PassesOwn.never rfl (pi_list (pv 9)) (pg_name (i := 12) sc_law.nd rfl (Or.inl rfl)) (pss_one (ps_for PassesOwn.never rfl (pi_list (pe_op op_cat (pe_ix ix_tup (pv 12) pe_int (fun _ _ => rfl)) (pe_lst (pa_cons (pe_ix ix_tup (pv 12) pe_int (fun _ _ => rfl)) pa_nil)))) (pg_name (i := 13) sc_law.nd rfl (Or.inl rfl)) (pss_one (ps_set (i := 11) sc_law.nd rfl (Or.inl rfl) (pe_op op_cat (pe_op op_cat (pv 11) (pe_callH h_law_names (hr.mono (by omega)) rfl (pa_cons (pe_ix ix_tup (pv 13) pe_int (fun _ _ => rfl)) pa_nil))) (pe_callH h_law_names (hr.mono (by omega)) rfl (pa_cons (pe_ix ix_tup (pv 13) pe_int (fun _ _ => rfl)) pa_nil)))))))) (pss_cons (ps_set (i := 14) sc_law.nd rfl (Or.inl rfl) (pe_callH h_names_in (hr.mono (by omega)) rfl (pa_cons (pv 10) (pa_cons (pe_tup (pa_cons (pe_ix ix_list (pv 5) pe_int (fun _ _ => rfl)) (pa_cons (pe_ix ix_list (pv 5) pe_int (fun _ _ => rfl)) pa_nil))) pa_nil)))) (pss_one (ps_ret (pe_and (pe_callH h_law_alike (hr.mono (by omega)) rfl (pa_cons (pv 14) (pa_cons (pe_callB call_sortedX rfl bi.sorted bt_sorted (pa_cons (pe_callTy call_setT rfl bi.set bt_set (pa_cons (pv 11) pa_nil)) pa_nil)) pa_nil))) (pe_one (pe_cmpR (op_eqD hr.units) (pv 10) (pv 9) (nomark _)))))))))))))))))))), ?_⟩
  refine seq_abs fun N hN => ?_
  simp only [tSeq, tFor_eq, tLC_eq, iRng1, iRng2, iList, iTup, iStr, tIfS, tRet, tRetN, tNext, tAsg, gName, tVar, tC, tOp, rI0, rI, tTest, tB, rEq, rNe, tCall, tCons, tNil, tCB, tLst, tTup, tAnd, tOr, tNot, tAndV, tOrV, tNotV, tIf, tDrop, tSl, tPart, tNoPart, tChain, tUn, rU, L2.start, cx_K, bk_K, cx_calm, bk_calm, lenV_str, and_assoc, Option.join, List.length_map, List.length_append, decide_eq_true_eq, Bool.false_eq_true, if_false, if_true, Bool.not_true, Bool.not_false, Bool.not_eq_true', decide_eq_false_iff_not, Bool.true_eq_false, List.length_cons, List.length_nil, List.map_cons, List.map_nil, List.replicate, List.cons_append, List.nil_append, List.append_nil, List.getElem?_cons_zero, List.getElem?_cons_succ, List.set_cons_zero, List.set_cons_succ, Nat.reduceSub, Nat.reduceAdd, Option.some.injEq, V.int.injEq, V.str.injEq, V.bl.injEq, V.ref.injEq, List.cons.injEq, and_true, true_and, exists_eq_left', exists_eq_left, exists_and_left, exists_eq_right, exists_const, tBM, tBM0, rAppend, rPop, rIxL, rIxT, rIxS, rSlL, rSlT, rSlS, rCat, rCatT, tKGet, cx_w, bk_w, tDGet, tDisp, tPairs, tDNewK, spPool]
  refine ⟨ns, hS, fun pp pl H1 e1 hP => hN _ _ ?_⟩
  refine seq_abs fun N hN => ?_
  simp only [tSeq, tFor_eq, tLC_eq, iRng1, iRng2, iList, iTup, iStr, tIfS, tRet, tRetN, tNext, tAsg, gName, tVar, tC, tOp, rI0, rI, tTest, tB, rEq, rNe, tCall, tCons, tNil, tCB, tLst, tTup, tAnd, tOr, tNot, tAndV, tOrV, tNotV, tIf, tDrop, tSl, tPart, tNoPart, tChain, tUn, rU, L2.start, cx_K, bk_K, cx_calm, bk_calm, lenV_str, and_assoc, Option.join, List.length_map, List.length_append, decide_eq_true_eq, Bool.false_eq_true, if_false, if_true, Bool.not_true, Bool.not_false, Bool.not_eq_true', decide_eq_false_iff_not, Bool.true_eq_false, List.length_cons, List.length_nil, List.map_cons, List.map_nil, List.replicate, List.cons_append, List.nil_append, List.append_nil, List.getElem?_cons_zero, List.getElem?_cons_succ, List.set_cons_zero, List.set_cons_succ, Nat.reduceSub, Nat.reduceAdd, Option.some.injEq, V.int.injEq, V.str.injEq, V.bl.injEq, V.ref.injEq, List.cons.injEq, and_true, true_and, exists_eq_left', exists_eq_left, exists_and_left, exists_eq_right, exists_const, tBM, tBM0, rAppend, rPop, rIxL, rIxT, rIxS, rSlL, rSlT, rSlS, rCat, rCatT, tKGet, cx_w, bk_w, tDGet, tDisp, tPairs, tDNewK, spStack]
  refine ⟨_, Same.seq e1 hS, fun p hp => ?_⟩
  rw [cut_ints]
  have hcl := cutI_len2 ns 3 63
  generalize hcs : cutI ns (some 3) (some 63) = cs
  have hcl : cs.length ≤ 60 := by rw [← hcs]; exact hcl
  have e2 := same_new hp (.lst (cs.map V.int))
  refine ⟨cs, SqL.of upd_same, by omega, pl, Pool.same e2 hP, fun sa us ts H2 e2' hsa hts hne hf hw hnm => hN _ _ ?_⟩
  have eA : Same H H2 := (e1.trans e2).trans e2'
  have hP2 := Pool.same (e2.trans e2') hP
  have hP0 := hP2
  clear e1 hP hp e2 e2'
  refine seq_abs fun N hN => ?_
  simp only [tSeq, tFor_eq, tLC_eq, iRng1, iRng2, iList, iTup, iStr, tIfS, tRet, tRetN, tNext, tAsg, gName, tVar, tC, tOp, rI0, rI, tTest, tB, rEq, rNe, tCall, tCons, tNil, tCB, tLst, tTup, tAnd, tOr, tNot, tAndV, tOrV, tNotV, tIf, tDrop, tSl, tPart, tNoPart, tChain, tUn, rU, L2.start, cx_K, bk_K, cx_calm, bk_calm, lenV_str, and_assoc, Option.join, List.length_map, List.length_append, decide_eq_true_eq, Bool.false_eq_true, if_false, if_true, Bool.not_true, Bool.not_false, Bool.not_eq_true', decide_eq_false_iff_not, Bool.true_eq_false, List.length_cons, List.length_nil, List.map_cons, List.map_nil, List.replicate, List.cons_append, List.nil_append, List.append_nil, List.getElem?_cons_zero, List.getElem?_cons_succ, List.set_cons_zero, List.set_cons_succ, Nat.reduceSub, Nat.reduceAdd, Option.some.injEq, V.int.injEq, V.str.injEq, V.bl.injEq, V.ref.injEq, List.cons.injEq, and_true, true_and, exists_eq_left', exists_eq_left, exists_and_left, exists_eq_right, exists_const, tBM, tBM0, rAppend, rPop, rIxL, rIxT, rIxS, rSlL, rSlT, rSlS, rCat, rCatT, tKGet, cx_w, bk_w, tDGet, tDisp, tPairs, tDNewK, spWhole]
  refine ⟨_, hsa, ts, hts, hne, hf, _, hw, by omega, fun tv H3 e3 ht fit wtb => hN _ _ ?_⟩
  generalize hT : whole ts = T at ht fit wtb
  have hsa3 := e3 _ _ hsa
  have hts3 := TAts.tups e3.tups hts
  have hP3 := Pool.same e3 hP2
  have eB := eA.trans e3
  clear hsa hts hP2 eA e3
  refine seq_abs fun N hN => ?_
  simp only [tSeq, tFor_eq, tLC_eq, iRng1, iRng2, iList, iTup, iStr, tIfS, tRet, tRetN, tNext, tAsg, gName, tVar, tC, tOp, rI0, rI, tTest, tB, rEq, rNe, tCall, tCons, tNil, tCB, tLst, tTup, tAnd, tOr, tNot, tAndV, tOrV, tNotV, tIf, tDrop, tSl, tPart, tNoPart, tChain, tUn, rU, L2.start, cx_K, bk_K, cx_calm, bk_calm, lenV_str, and_assoc, Option.join, List.length_map, List.length_append, decide_eq_true_eq, Bool.false_eq_true, if_false, if_true, Bool.not_true, Bool.not_false, Bool.not_eq_true', decide_eq_false_iff_not, Bool.true_eq_false, List.length_cons, List.length_nil, List.map_cons, List.map_nil, List.replicate, List.cons_append, List.nil_append, List.append_nil, List.getElem?_cons_zero, List.getElem?_cons_succ, List.set_cons_zero, List.set_cons_succ, Nat.reduceSub, Nat.reduceAdd, Option.some.injEq, V.int.injEq, V.str.injEq, V.bl.injEq, V.ref.injEq, List.cons.injEq, and_true, true_and, exists_eq_left', exists_eq_left, exists_and_left, exists_eq_right, exists_const, tBM, tBM0, rAppend, rPop, rIxL, rIxT, rIxS, rSlL, rSlT, rSlS, rCat, rCatT, tKGet, cx_w, bk_w, tDGet, tDisp, tPairs, tDNewK, spLN, spLv, spDp, cx_P]
  have hnl := nms_len T
  refine ⟨T, ht, fit, by omega, fun p4 H4 e4 h4 => ⟨nms T, SqL.of h4, by omega, fun l5 ys hl5 hnd hmem => ⟨ys, upd_same, ?_, fun l6 zs hl6 hpm hso => ?_⟩⟩⟩
  · have := nodup_sub hnd (m := nms T) fun x hx => (hmem x).mp hx
    omega
  have e46 := (same_new hl5 (TxO P w l5 ys)).trans (same_new hl6 (.lst (zs.map V.str)))
  have h6 : upd (upd H4 l5 (TxO P w l5 ys)) l6 (.lst (zs.map V.str)) l6 = some (.lst (zs.map V.str)) := upd_same
  generalize upd (upd H4 l5 (TxO P w l5 ys)) l6 (.lst (zs.map V.str)) = H6 at e46 h6 ⊢
  have e36 := e4.trans e46
  refine ⟨T, TAt.tups e36.tups ht, fit, by omega, fun H7 e7 => ⟨T, TAt.tups (e36.trans e7).tups ht, fit, by omega, fun H8 e8 => ⟨small (by decide), fun p9 hp9 => hN _ _ ?_⟩⟩⟩
  have e9 := same_new hp9 (.tup [.ref l6, .int (lvn T), .int (dpn T)])
  have h9 : upd H8 p9 (.tup [.ref l6, .int (lvn T), .int (dpn T)]) p9 = some (.tup [.ref l6, .int (lvn T), .int (dpn T)]) := upd_same
  generalize upd H8 p9 (.tup [.ref l6, .int (lvn T), .int (dpn T)]) = H9 at e9 h9 ⊢
  have e69 := (e7.trans e8).trans e9
  have h69 := e69 _ _ h6
  have e39 := e36.trans e69
  have ht9 := TAt.tups e39.tups ht
  have hsa9 := e39 _ _ hsa3
  have hts9 := TAts.tups e39.tups hts3
  have hP9 := Pool.same e39 hP3
  have eC := eB.trans e39
  clear e4 h4 hl5 hl6 e46 h6 e36 e7 e8 hp9 e9 e69 e39 ht hsa3 hts3 hP3 eB
  refine seq_abs fun N hN => ?_
  simp only [tSeq, tFor_eq, tLC_eq, iRng1, iRng2, iList, iTup, iStr, tIfS, tRet, tRetN, tNext, tAsg, gName, tVar, tC, tOp, rI0, rI, tTest, tB, rEq, rNe, tCall, tCons, tNil, tCB, tLst, tTup, tAnd, tOr, tNot, tAndV, tOrV, tNotV, tIf, tDrop, tSl, tPart, tNoPart, tChain, tUn, rU, L2.start, cx_K, bk_K, cx_calm, bk_calm, lenV_str, and_assoc, Option.join, List.length_map, List.length_append, decide_eq_true_eq, Bool.false_eq_true, if_false, if_true, Bool.not_true, Bool.not_false, Bool.not_eq_true', decide_eq_false_iff_not, Bool.true_eq_false, List.length_cons, List.length_nil, List.map_cons, List.map_nil, List.replicate, List.cons_append, List.nil_append, List.append_nil, List.getElem?_cons_zero, List.getElem?_cons_succ, List.set_cons_zero, List.set_cons_succ, Nat.reduceSub, Nat.reduceAdd, Option.some.injEq, V.int.injEq, V.str.injEq, V.bl.injEq, V.ref.injEq, List.cons.injEq, and_true, true_and, exists_eq_left', exists_eq_left, exists_and_left, exists_eq_right, exists_const, tBM, tBM0, rAppend, rPop, rIxL, rIxT, rIxS, rSlL, rSlT, rSlS, rCat, rCatT, tKGet, cx_w, bk_w, tDGet, tDisp, tPairs, tDNewK, spNO, spLv, spDp, spAlk]
  have hal : (addAll [] (nms T)).length < 64 := by
    have := addAll_len (nms T) []
    simp at this
    omega
  refine ⟨T, ht9, fit.mono (by omega), by omega, hal, fun p10 zs' H10 e10 h10 hpm2 hso2 => ?_⟩
  have ez : zs' = zs := tell_one hpm2 hso2 hnd hmem hpm hso fun _ => Iff.rfl
  subst ez
  refine ⟨T, TAt.tups e10.tups ht9, fit, by omega, fun H11 e11 => ⟨T, TAt.tups (e10.trans e11).tups ht9, fit, by omega, fun H12 e12 => ⟨small (by decide), fun p13 hp13 => ?_⟩⟩⟩
  have e13 := same_new hp13 (.tup [.ref p10, .int (lvn T), .int (dpn T)])
  have h13 : upd H12 p13 (.tup [.ref p10, .int (lvn T), .int (dpn T)]) p13 = some (.tup [.ref p10, .int (lvn T), .int (dpn T)]) := upd_same
  generalize upd H12 p13 (.tup [.ref p10, .int (lvn T), .int (dpn T)]) = H13 at e13 h13 ⊢
  have e1013 := (e11.trans e12).trans e13
  have e913 := e10.trans e1013
  have hzl : zs'.length ≤ 64 := by have := hpm2.length_eq; omega
  have dfz : DFit 38 (.lst (zs'.map Dt.str)) := ⟨by rw [List.length_map]; omega, fun d hd => by
    obtain ⟨z, _, rfl⟩ := List.mem_map.mp hd
    trivial⟩
  refine ⟨.tup [.lst (zs'.map .str), .int (lvn T), .int (dpn T)], ⟨p13, _, rfl, h13, _, _, rfl, ⟨p10, _, rfl, e1013 _ _ h10, dstr zs' H13⟩, _, _, rfl, rfl, _, _, rfl, rfl, rfl⟩, ⟨p9, _, rfl, e913 _ _ h9, _, _, rfl, ⟨l6, _, rfl, e913 _ _ h69, dstr zs' H13⟩, _, _, rfl, rfl, _, _, rfl, rfl, rfl⟩, ⟨by simp, fun d hd => ?_⟩, hN _ _ ?_⟩
  · simp only [List.mem_cons, List.not_mem_nil, or_false] at hd
    rcases hd with rfl | rfl | rfl
    · exact dfz
    · trivial
    · trivial
  have hsa13 := e913 _ _ hsa9
  have hts13 := TAts.tups e913.tups hts9
  have hP13 := Pool.same e913 hP9
  have eD := eC.trans e913
  clear e10 h10 hpm2 hso2 e11 e12 hp13 e13 h13 e1013 dfz hzl hal ht9 h69 hsa9 hts9 hP9 eC e913 h9 hpm hso hnd hmem
  have hpos : 1 ≤ ts.length := List.length_pos_iff.mpr hne
  have hul := hts13.length
  refine seq_abs fun N hN => ?_
  simp only [tSeq, tFor_eq, tLC_eq, iRng1, iRng2, iList, iTup, iStr, tIfS, tRet, tRetN, tNext, tAsg, gName, tVar, tC, tOp, rI0, rI, tTest, tB, rEq, rNe, tCall, tCons, tNil, tCB, tLst, tTup, tAnd, tOr, tNot, tAndV, tOrV, tNotV, tIf, tDrop, tSl, tPart, tNoPart, tChain, tUn, rU, L2.start, cx_K, bk_K, cx_calm, bk_calm, lenV_str, and_assoc, Option.join, List.length_map, List.length_append, decide_eq_true_eq, Bool.false_eq_true, if_false, if_true, Bool.not_true, Bool.not_false, Bool.not_eq_true', decide_eq_false_iff_not, Bool.true_eq_false, List.length_cons, List.length_nil, List.map_cons, List.map_nil, List.replicate, List.cons_append, List.nil_append, List.append_nil, List.getElem?_cons_zero, List.getElem?_cons_succ, List.set_cons_zero, List.set_cons_succ, Nat.reduceSub, Nat.reduceAdd, Option.some.injEq, V.int.injEq, V.str.injEq, V.bl.injEq, V.ref.injEq, List.cons.injEq, and_true, true_and, exists_eq_left', exists_eq_left, exists_and_left, exists_eq_right, exists_const, tBM, tBM0, rAppend, rPop, rIxL, rIxT, rIxS, rSlL, rSlT, rSlS, rCat, rCatT, tKGet, cx_w, bk_w, tDGet, tDisp, tPairs, tDNewK]
  refine ⟨by decide, by decide, ?_⟩
  refine lc_range (lo := 0) (n := (12 : Int).toNat) (fun i ys σ H' => Same H13 H' ∧ (∃ tl : List Tm, tl.length = i ∧ TAts H' tl ys ∧ ∀ t ∈ tl, Fit 17 t ∧ wt t ≤ 100 ∧ ∀ x ∈ nms t, x ∈ pl) ∧ ∃ o, σ = [o, some (V.ref sa), some (V.ref pp), some (V.ref a)]) ⟨Same.refl _, ⟨[], rfl, rfl, fun _ z => nomatch z⟩, _, rfl⟩ (small (by decide)) (fun i ys σ H' e => ?_) (fun i ys σ H' C hi e hC => ?_) (fun ys σ H' e p14 hp14 => ?_)
  · obtain ⟨_, ⟨tl, h1, h2, _⟩, _⟩ := e
    have := h2.length
    omega
  · obtain ⟨es, ⟨tl, htl, hty, htf⟩, o, rfl⟩ := e
    simp only [tSeq, tFor_eq, tLC_eq, iRng1, iRng2, iList, iTup, iStr, tIfS, tRet, tRetN, tNext, tAsg, gName, tVar, tC, tOp, rI0, rI, tTest, tB, rEq, rNe, tCall, tCons, tNil, tCB, tLst, tTup, tAnd, tOr, tNot, tAndV, tOrV, tNotV, tIf, tDrop, tSl, tPart, tNoPart, tChain, tUn, rU, L2.start, cx_K, bk_K, cx_calm, bk_calm, lenV_str, and_assoc, Option.join, List.length_map, List.length_append, decide_eq_true_eq, Bool.false_eq_true, if_false, if_true, Bool.not_true, Bool.not_false, Bool.not_eq_true', decide_eq_false_iff_not, Bool.true_eq_false, List.length_cons, List.length_nil, List.map_cons, List.map_nil, List.replicate, List.cons_append, List.nil_append, List.append_nil, List.getElem?_cons_zero, List.getElem?_cons_succ, List.set_cons_zero, List.set_cons_succ, Nat.reduceSub, Nat.reduceAdd, Option.some.injEq, V.int.injEq, V.str.injEq, V.bl.injEq, V.ref.injEq, List.cons.injEq, and_true, true_and, exists_eq_left', exists_eq_left, exists_and_left, exists_eq_right, exists_const, tBM, tBM0, rAppend, rPop, rIxL, rIxT, rIxS, rSlL, rSlT, rSlS, rCat, rCatT, tKGet, cx_w, bk_w, tDGet, tDisp, tPairs, tDNewK, spCell, spPick]
    refine ⟨.inl ⟨by decide, by decide⟩, ns, 3 + 4 * i, by omega, Same.seq (eD.trans es) hS, ⟨by decide, by decide, by decide⟩, p109, _, es _ _ hsa13, ts, TAts.tups es.tups hts13, hne, hf, by omega, pl, hnm, Pool.same es hP13, fun v t H2 e2 b1 b2 b3 b4 => hC _ _ _ ⟨es.trans e2, ⟨tl ++ [t], by rw [List.length_append, htl]; rfl, TAts.append (TAts.tups e2.tups hty) (TAts.one b1), fun u hu => ?_⟩, _, rfl⟩⟩
    rcases List.mem_append.mp hu with hu | hu
    · exact htf u hu
    · rw [List.mem_singleton.mp hu]
      exact ⟨b2, b3, b4⟩
  obtain ⟨es, ⟨tl, htl, hty, htf⟩, o, rfl⟩ := e
  refine hN _ _ ?_
  have e14 := same_new hp14 (.lst ys)
  have h14 : upd H' p14 (.lst ys) p14 = some (.lst ys) := upd_same
  have e1314 := es.trans e14
  have hty14 := TAts.tups e14.tups hty
  generalize upd H' p14 (.lst ys) = H14 at e14 h14 e1314 hty14 ⊢
  have htl : tl.length = 12 := htl
  have hyl := hty14.length
  have hsa14 := e1314 _ _ hsa13
  have eE := eD.trans e1314
  clear es e14 hp14 e1314 hty hsa13 hts13 hP13 eD
  have pk : ∀ k : Nat, k < 12 → ∃ t v, tl[k]? = some t ∧ ys[k]? = some v ∧ TAt H14 t v ∧ Fit 17 t ∧ wt t ≤ 100 ∧ ∀ x ∈ nms t, x ∈ pl := fun k hk => by
    obtain ⟨t, h1, h2⟩ := hty14.getV (List.getElem?_eq_getElem (show k < ys.length by omega))
    exact ⟨t, _, h1, List.getElem?_eq_getElem (by omega), h2, htf t (List.mem_of_getElem? h1)⟩
  obtain ⟨t0, v0, -, i0, a0, f0⟩ := pk 0 (by decide)
  obtain ⟨t1, v1, -, i1, a1, f1⟩ := pk 1 (by decide)
  obtain ⟨t2, v2, -, i2, a2, f2⟩ := pk 2 (by decide)
  obtain ⟨t3, v3, -, i3, a3, f3⟩ := pk 3 (by decide)
  obtain ⟨t4, v4, -, i4, a4, f4⟩ := pk 4 (by decide)
  obtain ⟨t5, v5, -, i5, a5, f5⟩ := pk 5 (by decide)
  obtain ⟨t6, v6, -, i6, a6, f6⟩ := pk 6 (by decide)
  obtain ⟨t7, v7, -, i7, a7, f7⟩ := pk 7 (by decide)
  obtain ⟨t8, v8, -, i8, a8, f8⟩ := pk 8 (by decide)
  obtain ⟨t9, v9, -, i9, a9, f9⟩ := pk 9 (by decide)
  obtain ⟨t10, v10, -, i10, a10, f10⟩ := pk 10 (by decide)
  obtain ⟨t11, v11, -, i11, a11, f11⟩ := pk 11 (by decide)
  have at_ : ∀ {k : Nat} {v : V}, ys[k]? = some v → atI ys (k : Int) = some v := fun h => atI_nat h
  clear pk htf hty14
  refine seq_abs fun N hN => ?_
  simp only [tSeq, tFor_eq, tLC_eq, iRng1, iRng2, iList, iTup, iStr, tIfS, tRet, tRetN, tNext, tAsg, gName, tVar, tC, tOp, rI0, rI, tTest, tB, rEq, rNe, tCall, tCons, tNil, tCB, tLst, tTup, tAnd, tOr, tNot, tAndV, tOrV, tNotV, tIf, tDrop, tSl, tPart, tNoPart, tChain, tUn, rU, L2.start, cx_K, bk_K, cx_calm, bk_calm, lenV_str, and_assoc, Option.join, List.length_map, List.length_append, decide_eq_true_eq, Bool.false_eq_true, if_false, if_true, Bool.not_true, Bool.not_false, Bool.not_eq_true', decide_eq_false_iff_not, Bool.true_eq_false, List.length_cons, List.length_nil, List.map_cons, List.map_nil, List.replicate, List.cons_append, List.nil_append, List.append_nil, List.getElem?_cons_zero, List.getElem?_cons_succ, List.set_cons_zero, List.set_cons_succ, Nat.reduceSub, Nat.reduceAdd, Option.some.injEq, V.int.injEq, V.str.injEq, V.bl.injEq, V.ref.injEq, List.cons.injEq, and_true, true_and, exists_eq_left', exists_eq_left, exists_and_left, exists_eq_right, exists_const, tBM, tBM0, rAppend, rPop, rIxL, rIxT, rIxS, rSlL, rSlT, rSlS, rCat, rCatT, tKGet, cx_w, bk_w, tDGet, tDisp, tPairs, tDNewK]
  refine ⟨Nat.zero_le _, fun pa hpa => ?_⟩
  have ea := same_new hpa (.lst [])
  have ha : upd H14 pa (.lst []) pa = some (.lst []) := upd_same
  generalize upd H14 pa (.lst []) = Ha at ea ha ⊢
  refine ⟨_, SqL.of (ea _ _ h14), _, at_ i2, _, SqL.of (ea _ _ h14), _, at_ i3, small (by decide), fun pb hpb => ?_⟩
  have eb := same_new hpb (.tup [v2, v3])
  have hb : upd Ha pb (.tup [v2, v3]) pb = some (.tup [v2, v3]) := upd_same
  generalize upd Ha pb (.tup [v2, v3]) = Hb at eb hb ⊢
  refine ⟨small (by decide), fun pf hpf => hN _ _ ?_⟩
  have ef := same_new hpf (.tup [.ref pa, .ref pb])
  have hf1 : upd Hb pf (.tup [.ref pa, .ref pb]) pf = some (.tup [.ref pa, .ref pb]) := upd_same
  generalize upd Hb pf (.tup [.ref pa, .ref pb]) = H15 at ef hf1 ⊢
  have e1415 := (ea.trans eb).trans ef
  have R1 : RAt H15 ([], (t2, t3)) (.ref pf) := RAt.mk hf1 ((eb.trans ef) _ _ ha) rfl (SAt.mk (ef _ _ hb) (TAt.tups e1415.tups a2) (TAt.tups e1415.tups a3))
  have h15 := e1415 _ _ h14
  clear ea ha hpa eb hb hpb ef hf1 hpf
  refine seq_abs fun N hN => ?_
  simp only [tSeq, tFor_eq, tLC_eq, iRng1, iRng2, iList, iTup, iStr, tIfS, tRet, tRetN, tNext, tAsg, gName, tVar, tC, tOp, rI0, rI, tTest, tB, rEq, rNe, tCall, tCons, tNil, tCB, tLst, tTup, tAnd, tOr, tNot, tAndV, tOrV, tNotV, tIf, tDrop, tSl, tPart, tNoPart, tChain, tUn, rU, L2.start, cx_K, bk_K, cx_calm, bk_calm, lenV_str, and_assoc, Option.join, List.length_map, List.length_append, decide_eq_true_eq, Bool.false_eq_true, if_false, if_true, Bool.not_true, Bool.not_false, Bool.not_eq_true', decide_eq_false_iff_not, Bool.true_eq_false, List.length_cons, List.length_nil, List.map_cons, List.map_nil, List.replicate, List.cons_append, List.nil_append, List.append_nil, List.getElem?_cons_zero, List.getElem?_cons_succ, List.set_cons_zero, List.set_cons_succ, Nat.reduceSub, Nat.reduceAdd, Option.some.injEq, V.int.injEq, V.str.injEq, V.bl.injEq, V.ref.injEq, List.cons.injEq, and_true, true_and, exists_eq_left', exists_eq_left, exists_and_left, exists_eq_right, exists_const, tBM, tBM0, rAppend, rPop, rIxL, rIxT, rIxS, rSlL, rSlT, rSlS, rCat, rCatT, tKGet, cx_w, bk_w, tDGet, tDisp, tPairs, tDNewK]
  refine ⟨_, SqL.of h15, _, at_ i4, _, SqL.of h15, _, at_ i5, small (by decide), fun qa h_qa => ?_⟩
  have e_G1 := same_new h_qa (.tup [v4, v5])
  have kG1 : upd H15 qa (.tup [v4, v5]) qa = some (.tup [v4, v5]) := upd_same
  generalize upd H15 qa (.tup [v4, v5]) = G1 at e_G1 kG1 ⊢
  have c1 := e_G1 _ _ h15
  refine ⟨_, SqL.of c1, _, at_ i6, _, SqL.of c1, _, at_ i7, small (by decide), fun qb h_qb => ?_⟩
  have e_G2 := same_new h_qb (.tup [v6, v7])
  have kG2 : upd G1 qb (.tup [v6, v7]) qb = some (.tup [v6, v7]) := upd_same
  generalize upd G1 qb (.tup [v6, v7]) = G2 at e_G2 kG2 ⊢
  refine ⟨small (by decide), fun qc h_qc => ?_⟩
  have e_G3 := same_new h_qc (.lst [.ref qa, .ref qb])
  have kG3 : upd G2 qc (.lst [.ref qa, .ref qb]) qc = some (.lst [.ref qa, .ref qb]) := upd_same
  generalize upd G2 qc (.lst [.ref qa, .ref qb]) = G3 at e_G3 kG3 ⊢
  have c3 := (e_G2.trans e_G3) _ _ c1
  refine ⟨_, SqL.of c3, _, at_ i8, _, SqL.of c3, _, at_ i9, small (by decide), fun qd h_qd => ?_⟩
  have e_G4 := same_new h_qd (.tup [v8, v9])
  have kG4 : upd G3 qd (.tup [v8, v9]) qd = some (.tup [v8, v9]) := upd_same
  generalize upd G3 qd (.tup [v8, v9]) = G4 at e_G4 kG4 ⊢
  refine ⟨small (by decide), fun qe h_qe => hN _ _ ?_⟩
  have e_H16 := same_new h_qe (.tup [.ref qc, .ref qd])
  have kH16 : upd G4 qe (.tup [.ref qc, .ref qd]) qe = some (.tup [.ref qc, .ref qd]) := upd_same
  generalize upd G4 qe (.tup [.ref qc, .ref qd]) = H16 at e_H16 kH16 ⊢
  have g34 := e_G4.trans e_H16
  have g24 := e_G3.trans g34
  have g14 := e_G2.trans g24
  have e1516 := e_G1.trans g14
  have b16 := e1415.trans e1516
  have R2 : RAt H16 ([(t4, t5), (t6, t7)], (t8, t9)) (.ref qe) := RAt.mk kH16 (g34 _ _ kG3)
    ⟨_, _, rfl, SAt.mk (g14 _ _ kG1) (TAt.tups b16.tups a4) (TAt.tups b16.tups a5), _, _, rfl, SAt.mk (g24 _ _ kG2) (TAt.tups b16.tups a6) (TAt.tups b16.tups a7), rfl⟩
    (SAt.mk (e_H16 _ _ kG4) (TAt.tups b16.tups a8) (TAt.tups b16.tups a9))
  have R1 := DAt.same e1516 R1
  have h16 := e1516 _ _ h15
  clear e_G1 kG1 h_qa c1 e_G2 kG2 h_qb e_G3 kG3 h_qc c3 e_G4 kG4 h_qd e_H16 kH16 h_qe g34 g24 g14
  refine seq_abs fun N hN => ?_
  simp only [tSeq, tFor_eq, tLC_eq, iRng1, iRng2, iList, iTup, iStr, tIfS, tRet, tRetN, tNext, tAsg, gName, tVar, tC, tOp, rI0, rI, tTest, tB, rEq, rNe, tCall, tCons, tNil, tCB, tLst, tTup, tAnd, tOr, tNot, tAndV, tOrV, tNotV, tIf, tDrop, tSl, tPart, tNoPart, tChain, tUn, rU, L2.start, cx_K, bk_K, cx_calm, bk_calm, lenV_str, and_assoc, Option.join, List.length_map, List.length_append, decide_eq_true_eq, Bool.false_eq_true, if_false, if_true, Bool.not_true, Bool.not_false, Bool.not_eq_true', decide_eq_false_iff_not, Bool.true_eq_false, List.length_cons, List.length_nil, List.map_cons, List.map_nil, List.replicate, List.cons_append, List.nil_append, List.append_nil, List.getElem?_cons_zero, List.getElem?_cons_succ, List.set_cons_zero, List.set_cons_succ, Nat.reduceSub, Nat.reduceAdd, Option.some.injEq, V.int.injEq, V.str.injEq, V.bl.injEq, V.ref.injEq, List.cons.injEq, and_true, true_and, exists_eq_left', exists_eq_left, exists_and_left, exists_eq_right, exists_const, tBM, tBM0, rAppend, rPop, rIxL, rIxT, rIxS, rSlL, rSlT, rSlS, rCat, rCatT, tKGet, cx_w, bk_w, tDGet, tDisp, tPairs, tDNewK]
  refine ⟨_, SqL.of h16, _, at_ i10, _, SqL.of h16, _, at_ i11, small (by decide), fun qa h_qa => ?_⟩
  have e_G1 := same_new h_qa (.tup [v10, v11])
  have kG1 : upd H16 qa (.tup [v10, v11]) qa = some (.tup [v10, v11]) := upd_same
  generalize upd H16 qa (.tup [v10, v11]) = G1 at e_G1 kG1 ⊢
  refine ⟨small (by decide), fun qc h_qc => ?_⟩
  have e_G3 := same_new h_qc (.lst [.ref qa])
  have kG3 : upd G1 qc (.lst [.ref qa]) qc = some (.lst [.ref qa]) := upd_same
  generalize upd G1 qc (.lst [.ref qa]) = G3 at e_G3 kG3 ⊢
  have c3 := (e_G1.trans e_G3) _ _ h16
  refine ⟨_, SqL.of c3, _, at_ i2, _, SqL.of c3, _, at_ i8, small (by decide), fun qd h_qd => ?_⟩
  have e_G4 := same_new h_qd (.tup [v2, v8])
  have kG4 : upd G3 qd (.tup [v2, v8]) qd = some (.tup [v2, v8]) := upd_same
  generalize upd G3 qd (.tup [v2, v8]) = G4 at e_G4 kG4 ⊢
  refine ⟨small (by decide), fun qt h_qt => hN _ _ ?_⟩
  have e_H17 := same_new h_qt (.tup [.ref qc, .ref qd])
  have kH17 : upd G4 qt (.tup [.ref qc, .ref qd]) qt = some (.tup [.ref qc, .ref qd]) := upd_same
  generalize upd G4 qt (.tup [.ref qc, .ref qd]) = H17 at e_H17 kH17 ⊢
  have g34 := e_G4.trans e_H17
  have g14 := e_G3.trans g34
  have e1617 := e_G1.trans g14
  have b17 := b16.trans e1617
  have R3 : RAt H17 ([(t10, t11)], (t2, t8)) (.ref qt) := RAt.mk kH17 (g34 _ _ kG3)
    ⟨_, _, rfl, SAt.mk (g14 _ _ kG1) (TAt.tups b17.tups a10) (TAt.tups b17.tups a11), rfl⟩
    (SAt.mk (e_H17 _ _ kG4) (TAt.tups b17.tups a2) (TAt.tups b17.tups a8))
  have R1 := DAt.same e1617 R1
  have R2 := DAt.same e1617 R2
  have h17 := e1617 _ _ h16
  have hsa17 := b17 _ _ hsa14
  have a0 := TAt.tups b17.tups a0
  have a1 := TAt.tups b17.tups a1
  have eF := eE.trans b17
  clear e_G1 kG1 h_qa e_G3 kG3 h_qc c3 e_G4 kG4 h_qd e_H17 kH17 h_qt g34 g14 e1617 b16 b17 h16 h15 h14 e1516 e1415 hsa14 eE a2 a3 a4 a5 a6 a7 a8 a9 a10 a11
  refine seq_abs fun N hN => ?_
  simp only [tSeq, tFor_eq, tLC_eq, iRng1, iRng2, iList, iTup, iStr, tIfS, tRet, tRetN, tNext, tAsg, gName, tVar, tC, tOp, rI0, rI, tTest, tB, rEq, rNe, tCall, tCons, tNil, tCB, tLst, tTup, tAnd, tOr, tNot, tAndV, tOrV, tNotV, tIf, tDrop, tSl, tPart, tNoPart, tChain, tUn, rU, L2.start, cx_K, bk_K, cx_calm, bk_calm, lenV_str, and_assoc, Option.join, List.length_map, List.length_append, decide_eq_true_eq, Bool.false_eq_true, if_false, if_true, Bool.not_true, Bool.not_false, Bool.not_eq_true', decide_eq_false_iff_not, Bool.true_eq_false, List.length_cons, List.length_nil, List.map_cons, List.map_nil, List.replicate, List.cons_append, List.nil_append, List.append_nil, List.getElem?_cons_zero, List.getElem?_cons_succ, List.set_cons_zero, List.set_cons_succ, Nat.reduceSub, Nat.reduceAdd, Option.some.injEq, V.int.injEq, V.str.injEq, V.bl.injEq, V.ref.injEq, List.cons.injEq, and_true, true_and, exists_eq_left', exists_eq_left, exists_and_left, exists_eq_right, exists_const, tBM, tBM0, rAppend, rPop, rIxL, rIxT, rIxS, rSlL, rSlT, rSlS, rCat, rCatT, tKGet, cx_w, bk_w, tDGet, tDisp, tPairs, tDNewK]
  refine ⟨Nat.zero_le _, fun y0 h_y0 => ?_⟩
  have e_G0 := same_new h_y0 (.lst [])
  have kG0 : upd H17 y0 (.lst []) y0 = some (.lst []) := upd_same
  generalize upd H17 y0 (.lst []) = G0 at e_G0 kG0 ⊢
  refine ⟨small (by decide), fun y1 h_y1 => ?_⟩
  have e_G1 := same_new h_y1 (.lst [.ref pf])
  have kG1 : upd G0 y1 (.lst [.ref pf]) y1 = some (.lst [.ref pf]) := upd_same
  generalize upd G0 y1 (.lst [.ref pf]) = G1 at e_G1 kG1 ⊢
  refine ⟨small (by decide), fun y2 h_y2 => ?_⟩
  have e_G2 := same_new h_y2 (.lst [.ref qe, .ref pf])
  have kG2 : upd G1 y2 (.lst [.ref qe, .ref pf]) y2 = some (.lst [.ref qe, .ref pf]) := upd_same
  generalize upd G1 y2 (.lst [.ref qe, .ref pf]) = G2 at e_G2 kG2 ⊢
  refine ⟨small (by decide), fun y3 h_y3 => ?_⟩
  have e_G3 := same_new h_y3 (.lst [.ref pf, .ref qe])
  have kG3 : upd G2 y3 (.lst [.ref pf, .ref qe]) y3 = some (.lst [.ref pf, .ref qe]) := upd_same
  generalize upd G2 y3 (.lst [.ref pf, .ref qe]) = G3 at e_G3 kG3 ⊢
  refine ⟨small (by decide), fun y4 h_y4 => ?_⟩
  have e_G4 := same_new h_y4 (.lst [.ref qe])
  have kG4 : upd G3 y4 (.lst [.ref qe]) y4 = some (.lst [.ref qe]) := upd_same
  generalize upd G3 y4 (.lst [.ref qe]) = G4 at e_G4 kG4 ⊢
  refine ⟨small (by decide), fun y5 h_y5 => ?_⟩
  have e_G5 := same_new h_y5 (.lst [.ref qt, .ref pf, .ref qe])
  have kG5 : upd G4 y5 (.lst [.ref qt, .ref pf, .ref qe]) y5 = some (.lst [.ref qt, .ref pf, .ref qe]) := upd_same
  generalize upd G4 y5 (.lst [.ref qt, .ref pf, .ref qe]) = G5 at e_G5 kG5 ⊢
  refine ⟨small (by decide), fun y6 h_y6 => ?_⟩
  have e_H18 := same_new h_y6 (.lst [.ref y0, .ref y1, .ref y2, .ref y3, .ref y4, .ref y5])
  have kH18 : upd G5 y6 (.lst [.ref y0, .ref y1, .ref y2, .ref y3, .ref y4, .ref y5]) y6 = some (.lst [.ref y0, .ref y1, .ref y2, .ref y3, .ref y4, .ref y5]) := upd_same
  generalize upd G5 y6 (.lst [.ref y0, .ref y1, .ref y2, .ref y3, .ref y4, .ref y5]) = H18 at e_H18 kH18 ⊢
  have g5 := e_G5.trans e_H18
  have g4 := e_G4.trans g5
  have g3 := e_G3.trans g4
  have g2 := e_G2.trans g3
  have g1 := e_G1.trans g2
  have g0 := e_G0.trans g1
  have R1 := DAt.same g0 R1
  have R2 := DAt.same g0 R2
  have R3 := DAt.same g0 R3
  obtain ⟨b, bs, rs, hpk, hbs, hrs, hrl, good⟩ : ∃ (b : Addr) (bs : List V) (rs : List Rul), atI [V.ref y0, .ref y1, .ref y2, .ref y3, .ref y4, .ref y5] ((us.length : Int) % 6) = some (.ref b) ∧ H18 b = some (.lst bs) ∧ RAts H18 rs bs ∧ rs.length ≤ 3 ∧
      ∀ r ∈ rs, (tmR r).length ≤ 6 ∧ r.1.length ≤ 2 ∧ ∀ t ∈ tmR r, Fit 17 t ∧ wt t ≤ 100 ∧ ∀ x ∈ nms t, x ∈ pl := by
    have g1' : (tmR ([], (t2, t3))).length ≤ 6 ∧ ([] : List (Tm × Tm)).length ≤ 2 ∧ ∀ t ∈ tmR ([], (t2, t3)), Fit 17 t ∧ wt t ≤ 100 ∧ ∀ x ∈ nms t, x ∈ pl := by
      refine ⟨by simp [tmR, tmPs, tmP], by simp, fun t ht => ?_⟩
      simp only [tmR, tmPs, tmP, List.flatMap_nil, List.nil_append, List.mem_cons, List.not_mem_nil, or_false] at ht
      rcases ht with rfl | rfl <;> assumption
    have g2' : (tmR ([(t4, t5), (t6, t7)], (t8, t9))).length ≤ 6 ∧ [(t4, t5), (t6, t7)].length ≤ 2 ∧ ∀ t ∈ tmR ([(t4, t5), (t6, t7)], (t8, t9)), Fit 17 t ∧ wt t ≤ 100 ∧ ∀ x ∈ nms t, x ∈ pl := by
      refine ⟨by simp [tmR, tmPs, tmP], by simp, fun t ht => ?_⟩
      simp only [tmR, tmPs, tmP, List.flatMap_cons, List.flatMap_nil, List.append_nil, List.cons_append, List.nil_append, List.mem_cons, List.not_mem_nil, or_false] at ht
      rcases ht with rfl | rfl | rfl | rfl | rfl | rfl <;> assumption
    have g3' : (tmR ([(t10, t11)], (t2, t8))).length ≤ 6 ∧ [(t10, t11)].length ≤ 2 ∧ ∀ t ∈ tmR ([(t10, t11)], (t2, t8)), Fit 17 t ∧ wt t ≤ 100 ∧ ∀ x ∈ nms t, x ∈ pl := by
      refine ⟨by simp [tmR, tmPs, tmP], by simp, fun t ht => ?_⟩
      simp only [tmR, tmPs, tmP, List.flatMap_cons, List.flatMap_nil, List.append_nil, List.cons_append, List.nil_append, List.mem_cons, List.not_mem_nil, or_false] at ht
      rcases ht with rfl | rfl | rfl | rfl <;> assumption
    have h6 : (us.length : Int) % 6 = 0 ∨ (us.length : Int) % 6 = 1 ∨ (us.length : Int) % 6 = 2 ∨ (us.length : Int) % 6 = 3 ∨ (us.length : Int) % 6 = 4 ∨ (us.length : Int) % 6 = 5 := by omega
    rcases h6 with h | h | h | h | h | h <;> rw [h]
    · exact ⟨y0, [], [], rfl, g1 _ _ kG0, rfl, by simp, fun r z => nomatch z⟩
    · refine ⟨y1, _, [([], (t2, t3))], rfl, g2 _ _ kG1, ⟨_, _, rfl, R1, rfl⟩, by simp, fun r hr => ?_⟩
      simp only [List.mem_cons, List.not_mem_nil, or_false] at hr
      rw [hr]; exact g1'
    · refine ⟨y2, _, [([(t4, t5), (t6, t7)], (t8, t9)), ([], (t2, t3))], rfl, g3 _ _ kG2, ⟨_, _, rfl, R2, _, _, rfl, R1, rfl⟩, by simp, fun r hr => ?_⟩
      simp only [List.mem_cons, List.not_mem_nil, or_false] at hr
      rcases hr with rfl | rfl <;> assumption
    · refine ⟨y3, _, [([], (t2, t3)), ([(t4, t5), (t6, t7)], (t8, t9))], rfl, g4 _ _ kG3, ⟨_, _, rfl, R1, _, _, rfl, R2, rfl⟩, by simp, fun r hr => ?_⟩
      simp only [List.mem_cons, List.not_mem_nil, or_false] at hr
      rcases hr with rfl | rfl <;> assumption
    · refine ⟨y4, _, [([(t4, t5), (t6, t7)], (t8, t9))], rfl, g5 _ _ kG4, ⟨_, _, rfl, R2, rfl⟩, by simp, fun r hr => ?_⟩
      simp only [List.mem_cons, List.not_mem_nil, or_false] at hr
      rw [hr]; exact g2'
    · refine ⟨y5, _, [([(t10, t11)], (t2, t8)), ([], (t2, t3)), ([(t4, t5), (t6, t7)], (t8, t9))], rfl, e_H18 _ _ kG5, ⟨_, _, rfl, R3, _, _, rfl, R1, _, _, rfl, R2, rfl⟩, by simp, fun r hr => ?_⟩
      simp only [List.mem_cons, List.not_mem_nil, or_false] at hr
      rcases hr with rfl | rfl | rfl <;> assumption
  have h18 := g0 _ _ h17
  have a0 := TAt.tups g0.tups a0
  have a1 := TAt.tups g0.tups a1
  have eG := eF.trans g0
  refine ⟨us.length, .inl ⟨_, SqL.of (g0 _ _ hsa17), rfl⟩, by decide, _, SqL.of kH18, _, hpk, hN _ _ ?_⟩
  clear e_G0 e_G1 e_G2 e_G3 e_G4 e_G5 e_H18 kG0 kG1 kG2 kG3 kG4 kG5 kH18 h_y0 h_y1 h_y2 h_y3 h_y4 h_y5 h_y6 g5 g4 g3 g2 g1 g0 R1 R2 R3 hpk h17 hsa17 eF i2 i3 i4 i5 i6 i7 i8 i9 i10 i11 f2 f3 f4 f5 f6 f7 f8 f9 f10 f11
  have hbl := hrs.length
  refine seq_abs fun N hN => ?_
  simp only [tSeq, tFor_eq, tLC_eq, iRng1, iRng2, iList, iTup, iStr, tIfS, tRet, tRetN, tNext, tAsg, gName, tVar, tC, tOp, rI0, rI, tTest, tB, rEq, rNe, tCall, tCons, tNil, tCB, tLst, tTup, tAnd, tOr, tNot, tAndV, tOrV, tNotV, tIf, tDrop, tSl, tPart, tNoPart, tChain, tUn, rU, L2.start, cx_K, bk_K, cx_calm, bk_calm, lenV_str, and_assoc, Option.join, List.length_map, List.length_append, decide_eq_true_eq, Bool.false_eq_true, if_false, if_true, Bool.not_true, Bool.not_false, Bool.not_eq_true', decide_eq_false_iff_not, Bool.true_eq_false, List.length_cons, List.length_nil, List.map_cons, List.map_nil, List.replicate, List.cons_append, List.nil_append, List.append_nil, List.getElem?_cons_zero, List.getElem?_cons_succ, List.set_cons_zero, List.set_cons_succ, Nat.reduceSub, Nat.reduceAdd, Option.some.injEq, V.int.injEq, V.str.injEq, V.bl.injEq, V.ref.injEq, List.cons.injEq, and_true, true_and, exists_eq_left', exists_eq_left, exists_and_left, exists_eq_right, exists_const, tBM, tBM0, rAppend, rPop, rIxL, rIxT, rIxS, rSlL, rSlT, rSlS, rCat, rCatT, tKGet, cx_w, bk_w, tDGet, tDisp, tPairs, tDNewK]
  refine ⟨⟨_, SqL.of hbs⟩, ?_⟩
  refine lc_list (xs := bs) (fun i ws σ H' => Same H18 H' ∧ RAts H' (rs.take i) ws ∧ ∃ o, σ = [o]) ⟨Same.refl _, rfl, _, rfl⟩ (small (by omega)) (fun i ws σ H' e => ?_) (fun i ws σ H' e => SqL.of (e.1 _ _ hbs)) (fun i x ws σ H' C hx e hC => ?_) (fun ws σ H' e p19 hp19 => ?_)
  · have := RAts.length e.2.1
    rw [List.length_take] at this
    omega
  · obtain ⟨es, hws, o, rfl⟩ := e
    obtain ⟨r, hr, hx'⟩ := hrs.getV hx
    obtain ⟨ra, l, sv2, vs, rfl, hra, hl, hps, hs2⟩ := RAt.out (DAt.same es hx')
    simp only [tSeq, tFor_eq, tLC_eq, iRng1, iRng2, iList, iTup, iStr, tIfS, tRet, tRetN, tNext, tAsg, gName, tVar, tC, tOp, rI0, rI, tTest, tB, rEq, rNe, tCall, tCons, tNil, tCB, tLst, tTup, tAnd, tOr, tNot, tAndV, tOrV, tNotV, tIf, tDrop, tSl, tPart, tNoPart, tChain, tUn, rU, L2.start, cx_K, bk_K, cx_calm, bk_calm, lenV_str, and_assoc, Option.join, List.length_map, List.length_append, decide_eq_true_eq, Bool.false_eq_true, if_false, if_true, Bool.not_true, Bool.not_false, Bool.not_eq_true', decide_eq_false_iff_not, Bool.true_eq_false, List.length_cons, List.length_nil, List.map_cons, List.map_nil, List.replicate, List.cons_append, List.nil_append, List.append_nil, List.getElem?_cons_zero, List.getElem?_cons_succ, List.set_cons_zero, List.set_cons_succ, Nat.reduceSub, Nat.reduceAdd, Option.some.injEq, V.int.injEq, V.str.injEq, V.bl.injEq, V.ref.injEq, List.cons.injEq, and_true, true_and, exists_eq_left', exists_eq_left, exists_and_left, exists_eq_right, exists_const, tBM, tBM0, rAppend, rPop, rIxL, rIxT, rIxS, rSlL, rSlT, rSlS, rCat, rCatT, tKGet, cx_w, bk_w, tDGet, tDisp, tPairs, tDNewK]
    refine ⟨_, SqT.of hra, _, at0, l, rfl, vs, .inl (SqL.of hl), fun l2 hl2 => ?_⟩
    have ez := same_new hl2 (.lst vs)
    have kz : upd H' l2 (.lst vs) l2 = some (.lst vs) := upd_same
    generalize upd H' l2 (.lst vs) = Hz at ez kz ⊢
    refine ⟨_, SqT.of (ez _ _ hra), sv2, at1, small (by decide), fun p3 hp3 => hC _ _ _ ?_⟩
    have ey := same_new hp3 (.tup [.ref l2, sv2])
    have exy := ez.trans ey
    exact ⟨es.trans exy, RAts.snoc hr (DAts.same exy hws) (RAt.mk upd_same (ey _ _ kz) (DAts.same exy hps) (DAt.same exy hs2)), _, rfl⟩
  obtain ⟨es, hws, o, rfl⟩ := e
  rw [List.take_of_length_le (by omega)] at hws
  refine hN _ _ ?_
  have e19 := same_new hp19 (.lst ws)
  have h19 : upd H' p19 (.lst ws) p19 = some (.lst ws) := upd_same
  have e1819 := es.trans e19
  have hws19 := DAts.same e19 hws
  generalize upd H' p19 (.lst ws) = H19 at e19 h19 e1819 hws19 ⊢
  have hbs := e1819 _ _ hbs
  have hrs := DAts.same e1819 hrs
  have h18 := e1819 _ _ h18
  have a0 := TAt.tups e1819.tups a0
  have a1 := TAt.tups e1819.tups a1
  have eG := eG.trans e1819
  clear es hws e19 e1819 hp19
  refine seq_abs fun N hN => ?_
  simp only [tSeq, tFor_eq, tLC_eq, iRng1, iRng2, iList, iTup, iStr, tIfS, tRet, tRetN, tNext, tAsg, gName, tVar, tC, tOp, rI0, rI, tTest, tB, rEq, rNe, tCall, tCons, tNil, tCB, tLst, tTup, tAnd, tOr, tNot, tAndV, tOrV, tNotV, tIf, tDrop, tSl, tPart, tNoPart, tChain, tUn, rU, L2.start, cx_K, bk_K, cx_calm, bk_calm, lenV_str, and_assoc, Option.join, List.length_map, List.length_append, decide_eq_true_eq, Bool.false_eq_true, if_false, if_true, Bool.not_true, Bool.not_false, Bool.not_eq_true', decide_eq_false_iff_not, Bool.true_eq_false, List.length_cons, List.length_nil, List.map_cons, List.map_nil, List.replicate, List.cons_append, List.nil_append, List.append_nil, List.getElem?_cons_zero, List.getElem?_cons_succ, List.set_cons_zero, List.set_cons_succ, Nat.reduceSub, Nat.reduceAdd, Option.some.injEq, V.int.injEq, V.str.injEq, V.bl.injEq, V.ref.injEq, List.cons.injEq, and_true, true_and, exists_eq_left', exists_eq_left, exists_and_left, exists_eq_right, exists_const, tBM, tBM0, rAppend, rPop, rIxL, rIxT, rIxS, rSlL, rSlT, rSlS, rCat, rCatT, tKGet, cx_w, bk_w, tDGet, tDisp, tPairs, tDNewK, spLN]
  have hB : (tmB rs).length ≤ 18 := by
    have : ∀ {l : List Rul}, (∀ r ∈ l, (tmR r).length ≤ 6) → (tmB l).length ≤ 6 * l.length := by
      intro l
      induction l with
      | nil => intro _; simp [tmB]
      | cons r l ih =>
        intro h
        have h1 := ih fun r hr => h r (List.mem_cons_of_mem _ hr)
        have h2 := h r List.mem_cons_self
        have e : tmB (r :: l) = tmR r ++ tmB l := by simp [tmB]
        rw [e, List.length_append, List.length_cons]
        omega
    have := this fun r hr => (good r hr).1
    omega
  have allB : ∀ t ∈ tmB rs, Fit 17 t ∧ wt t ≤ 100 ∧ ∀ x ∈ nms t, x ∈ pl := fun t ht => by
    obtain ⟨r, hr, ht⟩ := List.mem_flatMap.mp ht
    exact (good r hr).2.2 t ht
  have allS : ∀ t ∈ tmP (t0, t1), Fit 17 t ∧ wt t ≤ 100 ∧ ∀ x ∈ nms t, x ∈ pl := fun t ht => by
    simp only [tmP, List.mem_cons, List.not_mem_nil, or_false] at ht
    rcases ht with rfl | rfl <;> assumption
  have nlen : ∀ l : List Tm, (∀ t ∈ l, t ∈ tmP (t0, t1) ++ tmB rs) → l.length ≤ 30 → (nmss l).length < 4000 := fun l hl h40 => by
    have h1 := nmss_len l
    have h2 : wts l ≤ 100 * l.length := wts_le fun t ht => by
      rcases List.mem_append.mp (hl t ht) with h | h
      · exact (allS t h).2.1
      · exact (allB t h).2.1
    omega
  refine ⟨_, SqL.of h18, _, at_ i0, t0, a0, f0.1.mono (by omega), by omega, fun p20 H20 e20 h20 => ⟨_, SqL.of (e20 _ _ h18), _, at_ i1, t1, TAt.tups e20.tups a1, f1.1.mono (by omega), by omega, fun p21 H21 e21 h21 => ⟨_, e21 _ _ h20, _, h21, ?_, fun p22 hp22 => hN _ _ ?_⟩⟩⟩
  · have n0 := nms_len t0
    have n1 := nms_len t1
    rw [List.length_map, List.length_map]
    exact Nat.le_trans (m := 1000000) (by omega) (by decide)
  have es22 := same_new hp22 (.lst ((nms t0).map V.str ++ (nms t1).map V.str))
  have h22 : upd H21 p22 (.lst ((nms t0).map V.str ++ (nms t1).map V.str)) p22 = some (.lst ((nmss (tmP (t0, t1))).map V.str)) := by
    rw [upd_same, tmP, nmss, nmss, nmss, List.append_nil, List.map_append]
  generalize upd H21 p22 (.lst ((nms t0).map V.str ++ (nms t1).map V.str)) = H22 at es22 h22 ⊢
  have e1922 := (e20.trans e21).trans es22
  have hbs := e1922 _ _ hbs
  have hrs := DAts.same e1922 hrs
  have h18 := e1922 _ _ h18
  have h19 := e1922 _ _ h19
  have hws19 := DAts.same e1922 hws19
  have a0 := TAt.tups e1922.tups a0
  have a1 := TAt.tups e1922.tups a1
  have eG := eG.trans e1922
  clear e20 h20 e21 h21 hp22 es22 e1922
  refine seq_join (fun σ H' => Same H22 H' ∧ ∃ ps o1 o2, H' ps = some (.lst ((nmss (tmP (t0, t1) ++ tmB rs)).map V.str)) ∧ σ = [some (V.ref a), some (V.ref pp), some (V.ref sa), some tv, some (V.ref p9), some (V.ref p14), some (V.ref pf), some (V.ref qe), some (V.ref qt), some (V.ref b), some (V.ref p19), some (V.ref ps), o1, o2, none]) (fun N hN => ?_) (fun σ H' h => ?_)
  · simp only [tSeq, tFor_eq, tLC_eq, iRng1, iRng2, iList, iTup, iStr, tIfS, tRet, tRetN, tNext, tAsg, gName, tVar, tC, tOp, rI0, rI, tTest, tB, rEq, rNe, tCall, tCons, tNil, tCB, tLst, tTup, tAnd, tOr, tNot, tAndV, tOrV, tNotV, tIf, tDrop, tSl, tPart, tNoPart, tChain, tUn, rU, L2.start, cx_K, bk_K, cx_calm, bk_calm, lenV_str, and_assoc, Option.join, List.length_map, List.length_append, decide_eq_true_eq, Bool.false_eq_true, if_false, if_true, Bool.not_true, Bool.not_false, Bool.not_eq_true', decide_eq_false_iff_not, Bool.true_eq_false, List.length_cons, List.length_nil, List.map_cons, List.map_nil, List.replicate, List.cons_append, List.nil_append, List.append_nil, List.getElem?_cons_zero, List.getElem?_cons_succ, List.set_cons_zero, List.set_cons_succ, Nat.reduceSub, Nat.reduceAdd, Option.some.injEq, V.int.injEq, V.str.injEq, V.bl.injEq, V.ref.injEq, List.cons.injEq, and_true, true_and, exists_eq_left', exists_eq_left, exists_and_left, exists_eq_right, exists_const, tBM, tBM0, rAppend, rPop, rIxL, rIxT, rIxS, rSlL, rSlT, rSlS, rCat, rCatT, tKGet, cx_w, bk_w, tDGet, tDisp, tPairs, tDNewK]
    refine ⟨⟨_, SqL.of hbs⟩, ?_⟩
    refine fw_list (xs := bs) (fun i σ H' => Same H22 H' ∧ ∃ ps o1 o2, H' ps = some (.lst ((nmss (tmP (t0, t1) ++ tmB (rs.take i))).map V.str)) ∧ σ = [some (V.ref a), some (V.ref pp), some (V.ref sa), some tv, some (V.ref p9), some (V.ref p14), some (V.ref pf), some (V.ref qe), some (V.ref qt), some (V.ref b), some (V.ref p19), some (V.ref ps), o1, o2, none]) ?_ (fun i σ H' _ h => SqL.of (h.1 _ _ hbs)) (fun i x σ H' hx h => ?_) (fun σ H' h => ?_)
    · exact ⟨Same.refl _, p22, _, _, by simpa [tmB] using h22, rfl⟩
    · obtain ⟨es, ps, o1, o2, hps, rfl⟩ := h
      obtain ⟨r, hri, hx'⟩ := RAts.getV hrs hx
      obtain ⟨ra, l, sv2, vs, rfl, hra, hl, hpv, hs2⟩ := RAt.out (DAt.same es hx')
      have hvl := SAts.length hpv
      have hg := good r (List.mem_of_getElem? hri)
      have subB : ∀ t ∈ tmB (rs.take (i + 1)), t ∈ tmB rs := fun t ht => by
        obtain ⟨r', hr', ht⟩ := List.mem_flatMap.mp ht
        exact List.mem_flatMap.mpr ⟨r', List.mem_of_mem_take hr', ht⟩
      have lenB := tmB_split rs (i + 1)
      have eT := tmB_take hri
      simp only [tSeq, tFor_eq, tLC_eq, iRng1, iRng2, iList, iTup, iStr, tIfS, tRet, tRetN, tNext, tAsg, gName, tVar, tC, tOp, rI0, rI, tTest, tB, rEq, rNe, tCall, tCons, tNil, tCB, tLst, tTup, tAnd, tOr, tNot, tAndV, tOrV, tNotV, tIf, tDrop, tSl, tPart, tNoPart, tChain, tUn, rU, L2.start, cx_K, bk_K, cx_calm, bk_calm, lenV_str, and_assoc, Option.join, List.length_map, List.length_append, decide_eq_true_eq, Bool.false_eq_true, if_false, if_true, Bool.not_true, Bool.not_false, Bool.not_eq_true', decide_eq_false_iff_not, Bool.true_eq_false, List.length_cons, List.length_nil, List.map_cons, List.map_nil, List.replicate, List.cons_append, List.nil_append, List.append_nil, List.getElem?_cons_zero, List.getElem?_cons_succ, List.set_cons_zero, List.set_cons_succ, Nat.reduceSub, Nat.reduceAdd, Option.some.injEq, V.int.injEq, V.str.injEq, V.bl.injEq, V.ref.injEq, List.cons.injEq, and_true, true_and, exists_eq_left', exists_eq_left, exists_and_left, exists_eq_right, exists_const, tBM, tBM0, rAppend, rPop, rIxL, rIxT, rIxS, rSlL, rSlT, rSlS, rCat, rCatT, tKGet, cx_w, bk_w, tDGet, tDisp, tPairs, tDNewK]
      refine ⟨_, SqT.of hra, _, at0, _, SqT.of hra, _, at1, small (by decide), fun p1 hp1 => ?_⟩
      have eh := same_new hp1 (.lst [sv2])
      have kh : upd H' p1 (.lst [sv2]) p1 = some (.lst [sv2]) := upd_same
      generalize upd H' p1 (.lst [sv2]) = Hh at eh kh ⊢
      refine ⟨l, rfl, vs, eh _ _ hl, [sv2], kh, Nat.le_trans (m := 1000000) (by rw [List.length_singleton]; omega) (by decide), fun p2 hp2 => ?_⟩
      have ei := same_new hp2 (.lst (vs ++ [sv2]))
      have ki : upd Hh p2 (.lst (vs ++ [sv2])) p2 = some (.lst (vs ++ [sv2])) := upd_same
      generalize upd Hh p2 (.lst (vs ++ [sv2])) = Hi at ei ki ⊢
      have ehi := eh.trans ei
      have hq : SAts Hi (r.1 ++ [r.2]) (vs ++ [sv2]) := by
        unfold SAts
        rw [List.map_append]
        exact DAts.append (DAts.same ehi hpv) (DAts.one (DAt.same ehi hs2))
      have hqt : tmPs (r.1 ++ [r.2]) = tmR r := by unfold tmR tmPs; rw [List.flatMap_append]; simp
      refine ⟨⟨_, SqL.of ki⟩, ?_⟩
      refine fw_list (xs := vs ++ [sv2]) (fun j σ H2 => Same Hi H2 ∧ ∃ ps o2, H2 ps = some (.lst ((nmss (tmP (t0, t1) ++ (tmB (rs.take i) ++ tmPs ((r.1 ++ [r.2]).take j)))).map V.str)) ∧ σ = [some (V.ref a), some (V.ref pp), some (V.ref sa), some tv, some (V.ref p9), some (V.ref p14), some (V.ref pf), some (V.ref qe), some (V.ref qt), some (V.ref b), some (V.ref p19), some (V.ref ps), some (V.ref ra), o2, none]) ?_ (fun j σ H2 _ h => SqL.of (h.1 _ _ ki)) (fun j y σ H2 hy h => ?_) (fun σ H2 h => ?_)
      · exact ⟨Same.refl _, ps, _, by simpa [tmPs] using ehi _ _ hps, rfl⟩
      · obtain ⟨ej, ps2, o3, hps2, rfl⟩ := h
        obtain ⟨pr, hpi, hy'⟩ := SAts.getV hq hy
        obtain ⟨za, w1, w2, rfl, hza, hw1, hw2⟩ := SAt.out (DAt.same ej hy')
        have mpr : ∀ t ∈ tmP pr, t ∈ tmR r := fun t ht => by
          rw [← hqt]
          exact List.mem_flatMap.mpr ⟨pr, List.mem_of_getElem? hpi, ht⟩
        have g1 := hg.2.2 pr.1 (mpr _ (by simp [tmP]))
        have g2 := hg.2.2 pr.2 (mpr _ (by simp [tmP]))
        have n1 := nms_len pr.1
        have n2 := nms_len pr.2
        have len0 : (nmss (tmP (t0, t1) ++ (tmB (rs.take i) ++ tmPs ((r.1 ++ [r.2]).take j)))).length < 4000 := by
          refine nlen _ (fun t ht => ?_) ?_
          · rcases List.mem_append.mp ht with h | h
            · exact List.mem_append_left _ h
            · refine List.mem_append_right _ (subB t ?_)
              rw [eT]
              rcases List.mem_append.mp h with h | h
              · exact List.mem_append_left _ h
              · refine List.mem_append_right _ ?_
                rw [← hqt]
                obtain ⟨p', hp', ht⟩ := List.mem_flatMap.mp h
                exact List.mem_flatMap.mpr ⟨p', List.mem_of_mem_take hp', ht⟩
          · have l1 := tmPs_split (r.1 ++ [r.2]) j
            rw [hqt] at l1
            rw [eT, List.length_append] at lenB
            rw [List.length_append, List.length_append]
            show 2 + _ ≤ 30
            omega
        simp only [tSeq, tFor_eq, tLC_eq, iRng1, iRng2, iList, iTup, iStr, tIfS, tRet, tRetN, tNext, tAsg, gName, tVar, tC, tOp, rI0, rI, tTest, tB, rEq, rNe, tCall, tCons, tNil, tCB, tLst, tTup, tAnd, tOr, tNot, tAndV, tOrV, tNotV, tIf, tDrop, tSl, tPart, tNoPart, tChain, tUn, rU, L2.start, cx_K, bk_K, cx_calm, bk_calm, lenV_str, and_assoc, Option.join, List.length_map, List.length_append, decide_eq_true_eq, Bool.false_eq_true, if_false, if_true, Bool.not_true, Bool.not_false, Bool.not_eq_true', decide_eq_false_iff_not, Bool.true_eq_false, List.length_cons, List.length_nil, List.map_cons, List.map_nil, List.replicate, List.cons_append, List.nil_append, List.append_nil, List.getElem?_cons_zero, List.getElem?_cons_succ, List.set_cons_zero, List.set_cons_succ, Nat.reduceSub, Nat.reduceAdd, Option.some.injEq, V.int.injEq, V.str.injEq, V.bl.injEq, V.ref.injEq, List.cons.injEq, and_true, true_and, exists_eq_left', exists_eq_left, exists_and_left, exists_eq_right, exists_const, tBM, tBM0, rAppend, rPop, rIxL, rIxT, rIxS, rSlL, rSlT, rSlS, rCat, rCatT, tKGet, cx_w, bk_w, tDGet, tDisp, tPairs, tDNewK, spLN]
        refine ⟨_, SqT.of hza, w1, at0, pr.1, hw1, g1.1.mono (by omega), by omega, fun q1 J1 f1' k1 => ⟨_, f1' _ _ hps2, _, k1, Nat.le_trans (m := 1000000) (by rw [List.length_map, List.length_map]; omega) (by decide), fun q2 hq2 => ?_⟩⟩
        have f2' := same_new hq2 (.lst ((nmss (tmP (t0, t1) ++ (tmB (rs.take i) ++ tmPs ((r.1 ++ [r.2]).take j)))).map V.str ++ (nms pr.1).map V.str))
        have k2 : upd J1 q2 (.lst ((nmss (tmP (t0, t1) ++ (tmB (rs.take i) ++ tmPs ((r.1 ++ [r.2]).take j)))).map V.str ++ (nms pr.1).map V.str)) q2 = some (.lst ((nmss (tmP (t0, t1) ++ (tmB (rs.take i) ++ tmPs ((r.1 ++ [r.2]).take j)))).map V.str ++ (nms pr.1).map V.str)) := upd_same
        generalize upd J1 q2 (.lst ((nmss (tmP (t0, t1) ++ (tmB (rs.take i) ++ tmPs ((r.1 ++ [r.2]).take j)))).map V.str ++ (nms pr.1).map V.str)) = J2 at f2' k2 ⊢
        have f12 := f1'.trans f2'
        refine ⟨_, SqT.of (f12 _ _ hza), w2, at1, pr.2, TAt.tups f12.tups hw2, g2.1.mono (by omega), by omega, fun q3 J3 f3' k3 => ⟨_, f3' _ _ k2, _, k3, Nat.le_trans (m := 1000000) (by rw [List.length_append, List.length_map, List.length_map, List.length_map]; omega) (by decide), fun q4 hq4 => ?_⟩⟩
        refine ⟨ej.trans ((f12.trans f3').trans (same_new hq4 _)), q4, ?_, rfl, _, rfl⟩
        have en : nmss (tmP (t0, t1) ++ (tmB (rs.take i) ++ tmPs ((r.1 ++ [r.2]).take (j + 1)))) = nmss (tmP (t0, t1) ++ (tmB (rs.take i) ++ tmPs ((r.1 ++ [r.2]).take j))) ++ nms pr.1 ++ nms pr.2 := by
          rw [tmPs_take hpi]
          simp only [nmss_app, tmP, nmss, List.append_nil, List.append_assoc]
        rw [upd_same, en, List.map_append, List.map_append]
      · obtain ⟨ej, ps2, o3, hps2, rfl⟩ := h
        rw [show (r.1 ++ [r.2]).take (vs ++ [sv2]).length = r.1 ++ [r.2] from List.take_of_length_le (by rw [List.length_append, List.length_append, hvl]; exact Nat.le_refl _), hqt, ← eT] at hps2
        exact ⟨es.trans (ehi.trans ej), ps2, hps2, _, _, rfl⟩
    · obtain ⟨es, ps, o1, o2, hps, rfl⟩ := h
      rw [show rs.take bs.length = rs from List.take_of_length_le (by omega)] at hps
      exact hN _ _ ⟨es, ps, _, _, hps, rfl⟩
  · obtain ⟨es, ps, o1, o2, hps, rfl⟩ := h
    have hbs := es _ _ hbs
    have hrs := DAts.same es hrs
    have h18 := es _ _ h18
    have h19 := es _ _ h19
    have hws19 := DAts.same es hws19
    have a0 := TAt.tups es.tups a0
    have a1 := TAt.tups es.tups a1
    refine seq_abs fun N hN => ?_
    simp only [tSeq, tFor_eq, tLC_eq, iRng1, iRng2, iList, iTup, iStr, tIfS, tRet, tRetN, tNext, tAsg, gName, tVar, tC, tOp, rI0, rI, tTest, tB, rEq, rNe, tCall, tCons, tNil, tCB, tLst, tTup, tAnd, tOr, tNot, tAndV, tOrV, tNotV, tIf, tDrop, tSl, tPart, tNoPart, tChain, tUn, rU, L2.start, cx_K, bk_K, cx_calm, bk_calm, lenV_str, and_assoc, Option.join, List.length_map, List.length_append, decide_eq_true_eq, Bool.false_eq_true, if_false, if_true, Bool.not_true, Bool.not_false, Bool.not_eq_true', decide_eq_false_iff_not, Bool.true_eq_false, List.length_cons, List.length_nil, List.map_cons, List.map_nil, List.replicate, List.cons_append, List.nil_append, List.append_nil, List.getElem?_cons_zero, List.getElem?_cons_succ, List.set_cons_zero, List.set_cons_succ, Nat.reduceSub, Nat.reduceAdd, Option.some.injEq, V.int.injEq, V.str.injEq, V.bl.injEq, V.ref.injEq, List.cons.injEq, and_true, true_and, exists_eq_left', exists_eq_left, exists_and_left, exists_eq_right, exists_const, tBM, tBM0, rAppend, rPop, rIxL, rIxT, rIxS, rSlL, rSlT, rSlS, rCat, rCatT, tKGet, cx_w, bk_w, tDGet, tDisp, tPairs, tDNewK, spNI]
    refine ⟨_, SqL.of h18, _, at_ i0, _, SqL.of h18, _, at_ i1, small (by decide), fun p23 hp23 => ?_⟩
    have e23 := same_new hp23 (.tup [v0, v1])
    have k23 : upd H' p23 (.tup [v0, v1]) p23 = some (.tup [v0, v1]) := upd_same
    generalize upd H' p23 (.tup [v0, v1]) = H23 at e23 k23 ⊢
    have mem2 : ∀ t ∈ tmB rs ++ tmP (t0, t1), Fit 17 t ∧ wt t ≤ 100 ∧ ∀ x ∈ nms t, x ∈ pl := fun t ht => by
      rcases List.mem_append.mp ht with h | h
      · exact allB t h
      · exact allS t h
    have hsw : ∀ z, z ∈ nmss (tmB rs ++ tmP (t0, t1)) ↔ z ∈ nmss (tmP (t0, t1) ++ tmB rs) := fun z => by rw [nmss_app, nmss_app, List.mem_append, List.mem_append, or_comm]
    have inpl : ∀ x ∈ nmss (tmB rs ++ tmP (t0, t1)), x ∈ pl := by
      have : ∀ {l : List Tm}, (∀ t ∈ l, ∀ x ∈ nms t, x ∈ pl) → ∀ x ∈ nmss l, x ∈ pl := by
        intro l
        induction l with
        | nil => intro _ x hx; rw [nmss] at hx; cases hx
        | cons u l ih =>
          intro h x hx
          rw [nmss] at hx
          rcases List.mem_append.mp hx with hx | hx
          · exact h u List.mem_cons_self x hx
          · exact ih (fun t ht => h t (List.mem_cons_of_mem _ ht)) x hx
      exact this fun t ht => (mem2 t ht).2.2
    have hl2 : (tmB rs ++ tmP (t0, t1)).length ≤ 20 := by rw [List.length_append]; show _ + 2 ≤ 20; omega
    have hw2 : wts (tmB rs ++ tmP (t0, t1)) ≤ 2000 := by
      have := wts_le fun t ht => (mem2 t ht).2.1
      omega
    have h3 : pl.length = 3 := hP0.1
    have hal : (addAll [] (nmss (tmB rs ++ tmP (t0, t1)))).length ≤ 3 := by
      rw [← h3]
      exact nodup_sub (nodup_addAll _ [] List.nodup_nil) fun x hx => by
        rw [mem_addAll] at hx
        exact inpl x (hx.resolve_left (by simp))
    refine ⟨_, e23 _ _ h19, rs, DAts.same e23 hws19, (t0, t1), SAt.mk k23 (TAt.tups e23.tups a0) (TAt.tups e23.tups a1), by omega, fun t ht => ⟨(mem2 t ht).1.mono (by omega), by have := (mem2 t ht).2.1; omega⟩, by omega, by omega, fun p24 zs2 H24 e24 h24 hpm hso => hN _ _ ?_⟩
    have e2 := e23.trans e24
    have hps := e2 _ _ hps
    have hbs := e2 _ _ hbs
    have hrs := DAts.same e2 hrs
    have h19 := e2 _ _ h19
    have hws19 := DAts.same e2 hws19
    simp only [tSeq, tFor_eq, tLC_eq, iRng1, iRng2, iList, iTup, iStr, tIfS, tRet, tRetN, tNext, tAsg, gName, tVar, tC, tOp, rI0, rI, tTest, tB, rEq, rNe, tCall, tCons, tNil, tCB, tLst, tTup, tAnd, tOr, tNot, tAndV, tOrV, tNotV, tIf, tDrop, tSl, tPart, tNoPart, tChain, tUn, rU, L2.start, cx_K, bk_K, cx_calm, bk_calm, lenV_str, and_assoc, Option.join, List.length_map, List.length_append, decide_eq_true_eq, Bool.false_eq_true, if_false, if_true, Bool.not_true, Bool.not_false, Bool.not_eq_true', decide_eq_false_iff_not, Bool.true_eq_false, List.length_cons, List.length_nil, List.map_cons, List.map_nil, List.replicate, List.cons_append, List.nil_append, List.append_nil, List.getElem?_cons_zero, List.getElem?_cons_succ, List.set_cons_zero, List.set_cons_succ, Nat.reduceSub, Nat.reduceAdd, Option.some.injEq, V.int.injEq, V.str.injEq, V.bl.injEq, V.ref.injEq, List.cons.injEq, and_true, true_and, exists_eq_left', exists_eq_left, exists_and_left, exists_eq_right, exists_const, tBM, tBM0, rAppend, rPop, rIxL, rIxT, rIxS, rSlL, rSlT, rSlS, rCat, rCatT, tKGet, cx_w, bk_w, tDGet, tDisp, tPairs, tDNewK, spAlk, cx_P]
    refine ⟨nmss (tmP (t0, t1) ++ tmB rs), SqL.of hps, nlen _ (fun t ht => ht) (by rw [List.length_append]; show 2 + _ ≤ 30; omega), fun l5 ys2 hl5 hnd2 hmem2 => ⟨ys2, upd_same, ?_, fun l6 zs3 hl6 hpm3 hso3 => ?_⟩⟩
    · have := nodup_sub hnd2 fun x hx => inpl x ((hsw x).mpr ((hmem2 x).mp hx))
      omega
    have ez : zs2 = zs3 := tell_one hpm hso hnd2 hmem2 hpm3 hso3 hsw
    subst ez
    have e25 := (same_new hl5 (TxO P w l5 ys2)).trans (same_new hl6 (.lst (zs2.map V.str)))
    have k25 : upd (upd H24 l5 (TxO P w l5 ys2)) l6 (.lst (zs2.map V.str)) l6 = some (.lst (zs2.map V.str)) := upd_same
    generalize upd (upd H24 l5 (TxO P w l5 ys2)) l6 (.lst (zs2.map V.str)) = H25 at e25 k25 ⊢
    have hz3 : zs2.length ≤ 3 := by rw [hpm.length_eq]; exact hal
    refine ⟨.lst (zs2.map .str), ⟨p24, _, rfl, e25 _ _ h24, dstr _ _⟩, ⟨l6, _, rfl, k25, dstr _ _⟩, ⟨by rw [List.length_map]; omega, fun d hd => ?_⟩, ?_⟩
    · obtain ⟨z, _, rfl⟩ := List.mem_map.mp hd
      trivial
    refine ⟨22, rs.map dRule, rs.map dRule, ⟨p19, _, rfl, e25 _ _ h19, DAts.same e25 hws19⟩, ⟨b, _, rfl, e25 _ _ hbs, DAts.same e25 hrs⟩, fun d hd => ?_, by decide, ?_⟩
    · obtain ⟨r, hr, rfl⟩ := List.mem_map.mp hd
      have hg := good r hr
      have fs : ∀ p, (∀ t ∈ tmP p, t ∈ tmR r) → FitS 18 900 p := fun p hp => by
        have x1 := hg.2.2 p.1 (hp _ (by simp [tmP]))
        have x2 := hg.2.2 p.2 (hp _ (by simp [tmP]))
        exact ⟨⟨x1.1.mono (by omega), by omega⟩, x2.1.mono (by omega), by omega⟩
      exact rule_dfit (n := 18) (m := 900) (fun p hp => fs p fun t ht => List.mem_append_left _ (List.mem_flatMap.mpr ⟨p, hp, ht⟩)) (fs _ fun t ht => List.mem_append_right _ ht) (Nat.le_refl _) (by omega)
    · rw [deqs_refl]
      exact q _
end

end C
set_option Elab.async false
set_option linter.all false
set_option maxRecDepth 100000
set_option maxHeartbeats 8000000
namespace C
open PySem L2
seal PE PT PW PA PS PSs PG PGs PI PPs PO PSet PIf

theorem all_mk {l : PySem.W.OpenLaw} {w : World} {K : PySem.W.Frag} {h : Heap} {mg : Str → Option Value} {fa : Addr} (X : K.In h) (G : h.Ns mainGlobals mg) (hfa : mg "law" = some (.ref fa))
    {f_parts_of : Addr} {od_parts_of an_parts_of : Option Addr} {sl_parts_of : Array (Option Value)} {oc_parts_of kV_parts_of dc_parts_of pm_parts_of cd_parts_of ct_parts_of : Value} (a_parts_of : PySem.W.nsIn K mainGlobals "parts_of" = some (some (.ref f_parts_of))) (l_parts_of : K.lookup f_parts_of = some ⟨oc_parts_of, od_parts_of, .func (PySem.W.fnOf "parts_of" "parts_of" (defArgs s_parts_of) (defBody s_parts_of) (defScope s_parts_of) .none kV_parts_of dc_parts_of pm_parts_of an_parts_of cd_parts_of ct_parts_of), sl_parts_of⟩) (c_parts_of : PySem.W.codeIn K cd_parts_of "parts_of" = true) (k_parts_of : PySem.W.keepIn K (.ref f_parts_of) = true)
    {f_leaves : Addr} {od_leaves an_leaves : Option Addr} {sl_leaves : Array (Option Value)} {oc_leaves kV_leaves dc_leaves pm_leaves cd_leaves ct_leaves : Value} (a_leaves : PySem.W.nsIn K mainGlobals "leaves" = some (some (.ref f_leaves))) (l_leaves : K.lookup f_leaves = some ⟨oc_leaves, od_leaves, .func (PySem.W.fnOf "leaves" "leaves" (defArgs s_leaves) (defBody s_leaves) (defScope s_leaves) .none kV_leaves dc_leaves pm_leaves an_leaves cd_leaves ct_leaves), sl_leaves⟩) (c_leaves : PySem.W.codeIn K cd_leaves "leaves" = true) (k_leaves : PySem.W.keepIn K (.ref f_leaves) = true)
    {f_depth : Addr} {od_depth an_depth : Option Addr} {sl_depth : Array (Option Value)} {oc_depth kV_depth dc_depth pm_depth cd_depth ct_depth : Value} (a_depth : PySem.W.nsIn K mainGlobals "depth" = some (some (.ref f_depth))) (l_depth : K.lookup f_depth = some ⟨oc_depth, od_depth, .func (PySem.W.fnOf "depth" "depth" (defArgs s_depth) (defBody s_depth) (defScope s_depth) .none kV_depth dc_depth pm_depth an_depth cd_depth ct_depth), sl_depth⟩) (c_depth : PySem.W.codeIn K cd_depth "depth" = true) (k_depth : PySem.W.keepIn K (.ref f_depth) = true)
    {f_gather_names : Addr} {od_gather_names an_gather_names : Option Addr} {sl_gather_names : Array (Option Value)} {oc_gather_names kV_gather_names dc_gather_names pm_gather_names cd_gather_names ct_gather_names : Value} (a_gather_names : PySem.W.nsIn K mainGlobals "gather_names" = some (some (.ref f_gather_names))) (l_gather_names : K.lookup f_gather_names = some ⟨oc_gather_names, od_gather_names, .func (PySem.W.fnOf "gather_names" "gather_names" (defArgs s_gather_names) (defBody s_gather_names) (defScope s_gather_names) .none kV_gather_names dc_gather_names pm_gather_names an_gather_names cd_gather_names ct_gather_names), sl_gather_names⟩) (c_gather_names : PySem.W.codeIn K cd_gather_names "gather_names" = true) (k_gather_names : PySem.W.keepIn K (.ref f_gather_names) = true)
    {f_names_of_all : Addr} {od_names_of_all an_names_of_all : Option Addr} {sl_names_of_all : Array (Option Value)} {oc_names_of_all kV_names_of_all dc_names_of_all pm_names_of_all cd_names_of_all ct_names_of_all : Value} (a_names_of_all : PySem.W.nsIn K mainGlobals "names_of_all" = some (some (.ref f_names_of_all))) (l_names_of_all : K.lookup f_names_of_all = some ⟨oc_names_of_all, od_names_of_all, .func (PySem.W.fnOf "names_of_all" "names_of_all" (defArgs s_names_of_all) (defBody s_names_of_all) (defScope s_names_of_all) .none kV_names_of_all dc_names_of_all pm_names_of_all an_names_of_all cd_names_of_all ct_names_of_all), sl_names_of_all⟩) (c_names_of_all : PySem.W.codeIn K cd_names_of_all "names_of_all" = true) (k_names_of_all : PySem.W.keepIn K (.ref f_names_of_all) = true)
    {f_names_of : Addr} {od_names_of an_names_of : Option Addr} {sl_names_of : Array (Option Value)} {oc_names_of kV_names_of dc_names_of pm_names_of cd_names_of ct_names_of : Value} (a_names_of : PySem.W.nsIn K mainGlobals "names_of" = some (some (.ref f_names_of))) (l_names_of : K.lookup f_names_of = some ⟨oc_names_of, od_names_of, .func (PySem.W.fnOf "names_of" "names_of" (defArgs s_names_of) (defBody s_names_of) (defScope s_names_of) .none kV_names_of dc_names_of pm_names_of an_names_of cd_names_of ct_names_of), sl_names_of⟩) (c_names_of : PySem.W.codeIn K cd_names_of "names_of" = true) (k_names_of : PySem.W.keepIn K (.ref f_names_of) = true)
    {f_terms_in : Addr} {od_terms_in an_terms_in : Option Addr} {sl_terms_in : Array (Option Value)} {oc_terms_in kV_terms_in dc_terms_in pm_terms_in cd_terms_in ct_terms_in : Value} (a_terms_in : PySem.W.nsIn K mainGlobals "terms_in" = some (some (.ref f_terms_in))) (l_terms_in : K.lookup f_terms_in = some ⟨oc_terms_in, od_terms_in, .func (PySem.W.fnOf "terms_in" "terms_in" (defArgs s_terms_in) (defBody s_terms_in) (defScope s_terms_in) .none kV_terms_in dc_terms_in pm_terms_in an_terms_in cd_terms_in ct_terms_in), sl_terms_in⟩) (c_terms_in : PySem.W.codeIn K cd_terms_in "terms_in" = true) (k_terms_in : PySem.W.keepIn K (.ref f_terms_in) = true)
    {f_names_in : Addr} {od_names_in an_names_in : Option Addr} {sl_names_in : Array (Option Value)} {oc_names_in kV_names_in dc_names_in pm_names_in cd_names_in ct_names_in : Value} (a_names_in : PySem.W.nsIn K mainGlobals "names_in" = some (some (.ref f_names_in))) (l_names_in : K.lookup f_names_in = some ⟨oc_names_in, od_names_in, .func (PySem.W.fnOf "names_in" "names_in" (defArgs s_names_in) (defBody s_names_in) (defScope s_names_in) .none kV_names_in dc_names_in pm_names_in an_names_in cd_names_in ct_names_in), sl_names_in⟩) (c_names_in : PySem.W.codeIn K cd_names_in "names_in" = true) (k_names_in : PySem.W.keepIn K (.ref f_names_in) = true)
    {f_law_cell_at : Addr} {od_law_cell_at an_law_cell_at : Option Addr} {sl_law_cell_at : Array (Option Value)} {oc_law_cell_at kV_law_cell_at dc_law_cell_at pm_law_cell_at cd_law_cell_at ct_law_cell_at : Value} (a_law_cell_at : PySem.W.nsIn K mainGlobals "_law_cell_at" = some (some (.ref f_law_cell_at))) (l_law_cell_at : K.lookup f_law_cell_at = some ⟨oc_law_cell_at, od_law_cell_at, .func (PySem.W.fnOf "_law_cell_at" "_law_cell_at" (defArgs s_law_cell_at) (defBody s_law_cell_at) (defScope s_law_cell_at) .none kV_law_cell_at dc_law_cell_at pm_law_cell_at an_law_cell_at cd_law_cell_at ct_law_cell_at), sl_law_cell_at⟩) (c_law_cell_at : PySem.W.codeIn K cd_law_cell_at "_law_cell_at" = true) (k_law_cell_at : PySem.W.keepIn K (.ref f_law_cell_at) = true)
    {f_law_name_by : Addr} {od_law_name_by an_law_name_by : Option Addr} {sl_law_name_by : Array (Option Value)} {oc_law_name_by kV_law_name_by dc_law_name_by pm_law_name_by cd_law_name_by ct_law_name_by : Value} (a_law_name_by : PySem.W.nsIn K mainGlobals "_law_name_by" = some (some (.ref f_law_name_by))) (l_law_name_by : K.lookup f_law_name_by = some ⟨oc_law_name_by, od_law_name_by, .func (PySem.W.fnOf "_law_name_by" "_law_name_by" (defArgs s_law_name_by) (defBody s_law_name_by) (defScope s_law_name_by) .none kV_law_name_by dc_law_name_by pm_law_name_by an_law_name_by cd_law_name_by ct_law_name_by), sl_law_name_by⟩) (c_law_name_by : PySem.W.codeIn K cd_law_name_by "_law_name_by" = true) (k_law_name_by : PySem.W.keepIn K (.ref f_law_name_by) = true)
    {f_law_pool : Addr} {od_law_pool an_law_pool : Option Addr} {sl_law_pool : Array (Option Value)} {oc_law_pool kV_law_pool dc_law_pool pm_law_pool cd_law_pool ct_law_pool : Value} (a_law_pool : PySem.W.nsIn K mainGlobals "_law_pool" = some (some (.ref f_law_pool))) (l_law_pool : K.lookup f_law_pool = some ⟨oc_law_pool, od_law_pool, .func (PySem.W.fnOf "_law_pool" "_law_pool" (defArgs s_law_pool) (defBody s_law_pool) (defScope s_law_pool) .none kV_law_pool dc_law_pool pm_law_pool an_law_pool cd_law_pool ct_law_pool), sl_law_pool⟩) (c_law_pool : PySem.W.codeIn K cd_law_pool "_law_pool" = true) (k_law_pool : PySem.W.keepIn K (.ref f_law_pool) = true)
    {f_law_leaf : Addr} {od_law_leaf an_law_leaf : Option Addr} {sl_law_leaf : Array (Option Value)} {oc_law_leaf kV_law_leaf dc_law_leaf pm_law_leaf cd_law_leaf ct_law_leaf : Value} (a_law_leaf : PySem.W.nsIn K mainGlobals "_law_leaf" = some (some (.ref f_law_leaf))) (l_law_leaf : K.lookup f_law_leaf = some ⟨oc_law_leaf, od_law_leaf, .func (PySem.W.fnOf "_law_leaf" "_law_leaf" (defArgs s_law_leaf) (defBody s_law_leaf) (defScope s_law_leaf) .none kV_law_leaf dc_law_leaf pm_law_leaf an_law_leaf cd_law_leaf ct_law_leaf), sl_law_leaf⟩) (c_law_leaf : PySem.W.codeIn K cd_law_leaf "_law_leaf" = true) (k_law_leaf : PySem.W.keepIn K (.ref f_law_leaf) = true)
    {f_law_stack : Addr} {od_law_stack an_law_stack : Option Addr} {sl_law_stack : Array (Option Value)} {oc_law_stack kV_law_stack dc_law_stack pm_law_stack cd_law_stack ct_law_stack : Value} (a_law_stack : PySem.W.nsIn K mainGlobals "_law_stack" = some (some (.ref f_law_stack))) (l_law_stack : K.lookup f_law_stack = some ⟨oc_law_stack, od_law_stack, .func (PySem.W.fnOf "_law_stack" "_law_stack" (defArgs s_law_stack) (defBody s_law_stack) (defScope s_law_stack) .none kV_law_stack dc_law_stack pm_law_stack an_law_stack cd_law_stack ct_law_stack), sl_law_stack⟩) (c_law_stack : PySem.W.codeIn K cd_law_stack "_law_stack" = true) (k_law_stack : PySem.W.keepIn K (.ref f_law_stack) = true)
    {f_law_whole_term : Addr} {od_law_whole_term an_law_whole_term : Option Addr} {sl_law_whole_term : Array (Option Value)} {oc_law_whole_term kV_law_whole_term dc_law_whole_term pm_law_whole_term cd_law_whole_term ct_law_whole_term : Value} (a_law_whole_term : PySem.W.nsIn K mainGlobals "_law_whole_term" = some (some (.ref f_law_whole_term))) (l_law_whole_term : K.lookup f_law_whole_term = some ⟨oc_law_whole_term, od_law_whole_term, .func (PySem.W.fnOf "_law_whole_term" "_law_whole_term" (defArgs s_law_whole_term) (defBody s_law_whole_term) (defScope s_law_whole_term) .none kV_law_whole_term dc_law_whole_term pm_law_whole_term an_law_whole_term cd_law_whole_term ct_law_whole_term), sl_law_whole_term⟩) (c_law_whole_term : PySem.W.codeIn K cd_law_whole_term "_law_whole_term" = true) (k_law_whole_term : PySem.W.keepIn K (.ref f_law_whole_term) = true)
    {f_law_alike : Addr} {od_law_alike an_law_alike : Option Addr} {sl_law_alike : Array (Option Value)} {oc_law_alike kV_law_alike dc_law_alike pm_law_alike cd_law_alike ct_law_alike : Value} (a_law_alike : PySem.W.nsIn K mainGlobals "_law_alike" = some (some (.ref f_law_alike))) (l_law_alike : K.lookup f_law_alike = some ⟨oc_law_alike, od_law_alike, .func (PySem.W.fnOf "_law_alike" "_law_alike" (defArgs s_law_alike) (defBody s_law_alike) (defScope s_law_alike) .none kV_law_alike dc_law_alike pm_law_alike an_law_alike cd_law_alike ct_law_alike), sl_law_alike⟩) (c_law_alike : PySem.W.codeIn K cd_law_alike "_law_alike" = true) (k_law_alike : PySem.W.keepIn K (.ref f_law_alike) = true)
    {f_law_names : Addr} {od_law_names an_law_names : Option Addr} {sl_law_names : Array (Option Value)} {oc_law_names kV_law_names dc_law_names pm_law_names cd_law_names ct_law_names : Value} (a_law_names : PySem.W.nsIn K mainGlobals "_law_names" = some (some (.ref f_law_names))) (l_law_names : K.lookup f_law_names = some ⟨oc_law_names, od_law_names, .func (PySem.W.fnOf "_law_names" "_law_names" (defArgs s_law_names) (defBody s_law_names) (defScope s_law_names) .none kV_law_names dc_law_names pm_law_names an_law_names cd_law_names ct_law_names), sl_law_names⟩) (c_law_names : PySem.W.codeIn K cd_law_names "_law_names" = true) (k_law_names : PySem.W.keepIn K (.ref f_law_names) = true)
    {f_law_leaves : Addr} {od_law_leaves an_law_leaves : Option Addr} {sl_law_leaves : Array (Option Value)} {oc_law_leaves kV_law_leaves dc_law_leaves pm_law_leaves cd_law_leaves ct_law_leaves : Value} (a_law_leaves : PySem.W.nsIn K mainGlobals "_law_leaves" = some (some (.ref f_law_leaves))) (l_law_leaves : K.lookup f_law_leaves = some ⟨oc_law_leaves, od_law_leaves, .func (PySem.W.fnOf "_law_leaves" "_law_leaves" (defArgs s_law_leaves) (defBody s_law_leaves) (defScope s_law_leaves) .none kV_law_leaves dc_law_leaves pm_law_leaves an_law_leaves cd_law_leaves ct_law_leaves), sl_law_leaves⟩) (c_law_leaves : PySem.W.codeIn K cd_law_leaves "_law_leaves" = true) (k_law_leaves : PySem.W.keepIn K (.ref f_law_leaves) = true)
    {f_law_depth : Addr} {od_law_depth an_law_depth : Option Addr} {sl_law_depth : Array (Option Value)} {oc_law_depth kV_law_depth dc_law_depth pm_law_depth cd_law_depth ct_law_depth : Value} (a_law_depth : PySem.W.nsIn K mainGlobals "_law_depth" = some (some (.ref f_law_depth))) (l_law_depth : K.lookup f_law_depth = some ⟨oc_law_depth, od_law_depth, .func (PySem.W.fnOf "_law_depth" "_law_depth" (defArgs s_law_depth) (defBody s_law_depth) (defScope s_law_depth) .none kV_law_depth dc_law_depth pm_law_depth an_law_depth cd_law_depth ct_law_depth), sl_law_depth⟩) (c_law_depth : PySem.W.codeIn K cd_law_depth "_law_depth" = true) (k_law_depth : PySem.W.keepIn K (.ref f_law_depth) = true)
    {f_law_pick : Addr} {od_law_pick an_law_pick : Option Addr} {sl_law_pick : Array (Option Value)} {oc_law_pick kV_law_pick dc_law_pick pm_law_pick cd_law_pick ct_law_pick : Value} (a_law_pick : PySem.W.nsIn K mainGlobals "_law_pick" = some (some (.ref f_law_pick))) (l_law_pick : K.lookup f_law_pick = some ⟨oc_law_pick, od_law_pick, .func (PySem.W.fnOf "_law_pick" "_law_pick" (defArgs s_law_pick) (defBody s_law_pick) (defScope s_law_pick) .none kV_law_pick dc_law_pick pm_law_pick an_law_pick cd_law_pick ct_law_pick), sl_law_pick⟩) (c_law_pick : PySem.W.codeIn K cd_law_pick "_law_pick" = true) (k_law_pick : PySem.W.keepIn K (.ref f_law_pick) = true)
    {f_law : Addr} {od_law an_law : Option Addr} {sl_law : Array (Option Value)} {oc_law kV_law dc_law pm_law cd_law ct_law : Value} (a_law : PySem.W.nsIn K mainGlobals "law" = some (some (.ref f_law))) (l_law : K.lookup f_law = some ⟨oc_law, od_law, .func (PySem.W.fnOf "law" "law" (defArgs s_law) (defBody s_law) (defScope s_law) .none kV_law dc_law pm_law an_law cd_law ct_law), sl_law⟩) (c_law : PySem.W.codeIn K cd_law "law" = true) (k_law : PySem.W.keepIn K (.ref f_law) = true)
    (z_all : PySem.W.nsIn K mainGlobals "all" = some none)
    (z_bool : PySem.W.nsIn K mainGlobals "bool" = some none)
    (z_dict : PySem.W.nsIn K mainGlobals "dict" = some none)
    (z_int : PySem.W.nsIn K mainGlobals "int" = some none)
    (z_isinstance : PySem.W.nsIn K mainGlobals "isinstance" = some none)
    (z_len : PySem.W.nsIn K mainGlobals "len" = some none)
    (z_list : PySem.W.nsIn K mainGlobals "list" = some none)
    (z_max : PySem.W.nsIn K mainGlobals "max" = some none)
    (z_range : PySem.W.nsIn K mainGlobals "range" = some none)
    (z_set : PySem.W.nsIn K mainGlobals "set" = some none)
    (z_sorted : PySem.W.nsIn K mainGlobals "sorted" = some none)
    (z_str : PySem.W.nsIn K mainGlobals "str" = some none)
    (z_sum : PySem.W.nsIn K mainGlobals "sum" = some none)
    (z_tuple : PySem.W.nsIn K mainGlobals "tuple" = some none) :
    ∃ fd : FuncData, (∀ (s : Shared) (v : Value), BindsTo s fd ⟨[v], []⟩ [("script", v)]) ∧ ∀ base : Heap, K.In base → base.Ns mainGlobals mg → FnOk l.prog w K mg base CX0 65 fa fd ["script"] (spLaw K) := by
  have e := hfa.symm.trans (PySem.W.mg_of X G a_law)
  cases e
  have F_parts_of := fun_mk (st := s_parts_of) l_parts_of c_parts_of k_parts_of
  have b_parts_of := F_parts_of.binds (ps := ["t"]) fun _ _ _ _ _ _ us hl => match us, hl with | [_], _ => rfl
  have m_parts_of := PySem.W.mg_of X G a_parts_of
  have F_leaves := fun_mk (st := s_leaves) l_leaves c_leaves k_leaves
  have b_leaves := F_leaves.binds (ps := ["t"]) fun _ _ _ _ _ _ us hl => match us, hl with | [_], _ => rfl
  have m_leaves := PySem.W.mg_of X G a_leaves
  have F_depth := fun_mk (st := s_depth) l_depth c_depth k_depth
  have b_depth := F_depth.binds (ps := ["t"]) fun _ _ _ _ _ _ us hl => match us, hl with | [_], _ => rfl
  have m_depth := PySem.W.mg_of X G a_depth
  have F_gather_names := fun_mk (st := s_gather_names) l_gather_names c_gather_names k_gather_names
  have b_gather_names := F_gather_names.binds (ps := ["t", "found"]) fun _ _ _ _ _ _ us hl => match us, hl with | [_, _], _ => rfl
  have m_gather_names := PySem.W.mg_of X G a_gather_names
  have F_names_of_all := fun_mk (st := s_names_of_all) l_names_of_all c_names_of_all k_names_of_all
  have b_names_of_all := F_names_of_all.binds (ps := ["terms"]) fun _ _ _ _ _ _ us hl => match us, hl with | [_], _ => rfl
  have m_names_of_all := PySem.W.mg_of X G a_names_of_all
  have F_names_of := fun_mk (st := s_names_of) l_names_of c_names_of k_names_of
  have b_names_of := F_names_of.binds (ps := ["t"]) fun _ _ _ _ _ _ us hl => match us, hl with | [_], _ => rfl
  have m_names_of := PySem.W.mg_of X G a_names_of
  have F_terms_in := fun_mk (st := s_terms_in) l_terms_in c_terms_in k_terms_in
  have b_terms_in := F_terms_in.binds (ps := ["book", "saying"]) fun _ _ _ _ _ _ us hl => match us, hl with | [_, _], _ => rfl
  have m_terms_in := PySem.W.mg_of X G a_terms_in
  have F_names_in := fun_mk (st := s_names_in) l_names_in c_names_in k_names_in
  have b_names_in := F_names_in.binds (ps := ["book", "saying"]) fun _ _ _ _ _ _ us hl => match us, hl with | [_, _], _ => rfl
  have m_names_in := PySem.W.mg_of X G a_names_in
  have F_law_cell_at := fun_mk (st := s_law_cell_at) l_law_cell_at c_law_cell_at k_law_cell_at
  have b_law_cell_at := F_law_cell_at.binds (ps := ["script", "k"]) fun _ _ _ _ _ _ us hl => match us, hl with | [_, _], _ => rfl
  have m_law_cell_at := PySem.W.mg_of X G a_law_cell_at
  have F_law_name_by := fun_mk (st := s_law_name_by) l_law_name_by c_law_name_by k_law_name_by
  have b_law_name_by := F_law_name_by.binds (ps := ["cell", "size"]) fun _ _ _ _ _ _ us hl => match us, hl with | [_, _], _ => rfl
  have m_law_name_by := PySem.W.mg_of X G a_law_name_by
  have F_law_pool := fun_mk (st := s_law_pool) l_law_pool c_law_pool k_law_pool
  have b_law_pool := F_law_pool.binds (ps := ["script"]) fun _ _ _ _ _ _ us hl => match us, hl with | [_], _ => rfl
  have m_law_pool := PySem.W.mg_of X G a_law_pool
  have F_law_leaf := fun_mk (st := s_law_leaf) l_law_leaf c_law_leaf k_law_leaf
  have b_law_leaf := F_law_leaf.binds (ps := ["cell", "pool"]) fun _ _ _ _ _ _ us hl => match us, hl with | [_, _], _ => rfl
  have m_law_leaf := PySem.W.mg_of X G a_law_leaf
  have F_law_stack := fun_mk (st := s_law_stack) l_law_stack c_law_stack k_law_stack
  have b_law_stack := F_law_stack.binds (ps := ["cells", "pool"]) fun _ _ _ _ _ _ us hl => match us, hl with | [_, _], _ => rfl
  have m_law_stack := PySem.W.mg_of X G a_law_stack
  have F_law_whole_term := fun_mk (st := s_law_whole_term) l_law_whole_term c_law_whole_term k_law_whole_term
  have b_law_whole_term := F_law_whole_term.binds (ps := ["stack"]) fun _ _ _ _ _ _ us hl => match us, hl with | [_], _ => rfl
  have m_law_whole_term := PySem.W.mg_of X G a_law_whole_term
  have F_law_alike := fun_mk (st := s_law_alike) l_law_alike c_law_alike k_law_alike
  have b_law_alike := F_law_alike.binds (ps := ["found", "due"]) fun _ _ _ _ _ _ us hl => match us, hl with | [_, _], _ => rfl
  have m_law_alike := PySem.W.mg_of X G a_law_alike
  have F_law_names := fun_mk (st := s_law_names) l_law_names c_law_names k_law_names
  have b_law_names := F_law_names.binds (ps := ["t"]) fun _ _ _ _ _ _ us hl => match us, hl with | [_], _ => rfl
  have m_law_names := PySem.W.mg_of X G a_law_names
  have F_law_leaves := fun_mk (st := s_law_leaves) l_law_leaves c_law_leaves k_law_leaves
  have b_law_leaves := F_law_leaves.binds (ps := ["t"]) fun _ _ _ _ _ _ us hl => match us, hl with | [_], _ => rfl
  have m_law_leaves := PySem.W.mg_of X G a_law_leaves
  have F_law_depth := fun_mk (st := s_law_depth) l_law_depth c_law_depth k_law_depth
  have b_law_depth := F_law_depth.binds (ps := ["t"]) fun _ _ _ _ _ _ us hl => match us, hl with | [_], _ => rfl
  have m_law_depth := PySem.W.mg_of X G a_law_depth
  have F_law_pick := fun_mk (st := s_law_pick) l_law_pick c_law_pick k_law_pick
  have b_law_pick := F_law_pick.binds (ps := ["cell", "stack", "pool"]) fun _ _ _ _ _ _ us hl => match us, hl with | [_, _, _], _ => rfl
  have m_law_pick := PySem.W.mg_of X G a_law_pick
  have F_law := fun_mk (st := s_law) l_law c_law k_law
  have b_law := F_law.binds (ps := ["script"]) fun _ _ _ _ _ _ us hl => match us, hl with | [_], _ => rfl
  have m_law := PySem.W.mg_of X G a_law
  have bi : Bi mg := ⟨PySem.W.mg_none_of X G z_len, PySem.W.mg_none_of X G z_range, PySem.W.mg_none_of X G z_isinstance, PySem.W.mg_none_of X G z_max, PySem.W.mg_none_of X G z_sum, PySem.W.mg_none_of X G z_all, PySem.W.mg_none_of X G z_tuple, PySem.W.mg_none_of X G z_list, PySem.W.mg_none_of X G z_sorted, PySem.W.mg_none_of X G z_set, PySem.W.mg_none_of X G z_int, PySem.W.mg_none_of X G z_bool, PySem.W.mg_none_of X G z_str, PySem.W.mg_none_of X G z_dict⟩
  refine ⟨PySem.W.fnOf "law" "law" (defArgs s_law) (defBody s_law) (defScope s_law) .none kV_law dc_law pm_law an_law cd_law ct_law, fun s v => .of_eq rfl, fun base _ _ => ?_⟩
  have h1 := has_of F_law_cell_at (ok_cell (P := l.prog) (w := w) (base := base) bi F_law_cell_at) b_law_cell_at m_law_cell_at
  have h2 := has_of F_law_name_by (ok_name (P := l.prog) (w := w) (base := base) bi F_law_name_by) b_law_name_by m_law_name_by
  have h3 := has_of F_law_pool (ok_pool bi h1 h2 F_law_pool) b_law_pool m_law_pool
  have h4 := has_of F_law_leaf (ok_leaf (P := l.prog) (w := w) (base := base) bi F_law_leaf) b_law_leaf m_law_leaf
  have h5 := has_of F_law_stack (ok_stack bi h4 F_law_stack) b_law_stack m_law_stack
  have h6 := has_of F_law_whole_term (ok_whole (P := l.prog) (w := w) (base := base) bi F_law_whole_term) b_law_whole_term m_law_whole_term
  have h7 := has_of F_law_alike (ok_alike (P := l.prog) (w := w) (base := base) bi F_law_alike b_law_alike m_law_alike 40) b_law_alike m_law_alike
  have h8 := has_of F_parts_of (ok_parts_of (P := l.prog) (w := w) (base := base) bi F_parts_of) b_parts_of m_parts_of
  have h9 := has_of F_leaves (ok_leaves bi h8 F_leaves b_leaves m_leaves 20) b_leaves m_leaves
  have h10 := has_of F_depth (ok_depth bi h8 F_depth b_depth m_depth 20) b_depth m_depth
  have h11 := has_of F_law_leaves (ok_law_leaves (P := l.prog) (w := w) (base := base) bi F_law_leaves b_law_leaves m_law_leaves 20) b_law_leaves m_law_leaves
  have h12 := has_of F_law_depth (ok_law_depth (P := l.prog) (w := w) (base := base) bi F_law_depth b_law_depth m_law_depth 20) b_law_depth m_law_depth
  have h13 := has_of F_law_names (ok_law_names (P := l.prog) (w := w) (base := base) bi F_law_names b_law_names m_law_names 19) b_law_names m_law_names
  have h14 := has_of F_gather_names (ok_gather_names bi h8 F_gather_names b_gather_names m_gather_names 22) b_gather_names m_gather_names
  have h15 := has_of F_names_of_all (ok_names_of_all bi h14 F_names_of_all) b_names_of_all m_names_of_all
  have h16 := has_of F_names_of (ok_names_of bi h15 F_names_of) b_names_of m_names_of
  have h17 := has_of F_terms_in (ok_terms_in (P := l.prog) (w := w) (base := base) bi F_terms_in) b_terms_in m_terms_in
  have h18 := has_of F_names_in (ok_names_in bi h15 h17 F_names_in) b_names_in m_names_in
  have h19 := has_of F_law_pick (ok_pick bi h4 F_law_pick) b_law_pick m_law_pick
  exact ok_law bi h1 h3 h5 h6 h7 h13 h11 h12 h9 h10 h16 h18 h19 F_law
theorem walk {l : PySem.W.OpenLaw} {q : Program} {loose : List Str} {XP : (Str → Option Value) → Heap → Prop} {YP : World → Heap → Prop} {d : DefRec} {K : Params → PySem.W.Frag} (hn : l.most = some 63) (hdf : d.params.defaults = [])
    (hY : ∀ (w : World) (h : Heap), YP w h → (K w.params).In h)
    (F : ∀ (w : World) (mg : Str → Option Value) (fa : Addr) (h : Heap), (K w.params).In h → h.Ns mainGlobals mg → mg d.name = some (.ref fa) →
      ∃ fd : FuncData, (∀ (s : Shared) (u : Value), BindsTo s fd ⟨[u], []⟩ [("script", u)]) ∧ ∀ base : Heap, (K w.params).In base → base.Ns mainGlobals mg → FnOk l.prog w (K w.params) mg base CX0 65 fa fd ["script"] (spLaw (K w.params))) :
    PySem.W.WalkO q loose XP YP l.row.toRowW d [] (fun f vs => PySem.call f vs) :=
  L2.walk_of (n := 63) (k := 65) (x := "script") (CX := fun _ => CX0) (sp := fun w => spLaw (K w.params)) hn (by decide) hdf ⟨rfl, by decide, by decide⟩ hY F (fun _ _ a ns hl _ hS => ⟨a, ns, rfl, hS, hl, fun _ => rfl⟩) fun _ _ _ _ _ z => z


end C
set_option Elab.async false
set_option linter.all false
set_option maxRecDepth 100000
set_option maxHeartbeats 8000000

open PySem PySem.W PyProof.Rows
set_option maxRecDepth 100000 in
set_option maxHeartbeats 0 in
theorem PySem.Challenge.cw_clashbook_k02_names_leaves_depth_holds : PySem.Challenge.rw_clashbook_k02_names_leaves_depth.Holds := by
  w_on; o_law; k_head; (case hw => w_witness2)
  k_fill
  refine C.walk (l := PySem.Challenge.rw_clashbook_k02_names_leaves_depth) rfl rfl (fun w h Y => PySem.W.kIn_of Y) ?F
  case F =>
    intro w mg fa h KX G hmg
    refine' C.all_mk KX G hmg ?a_parts_of ?l_parts_of ?c_parts_of ?k_parts_of ?a_leaves ?l_leaves ?c_leaves ?k_leaves ?a_depth ?l_depth ?c_depth ?k_depth ?a_gather_names ?l_gather_names ?c_gather_names ?k_gather_names ?a_names_of_all ?l_names_of_all ?c_names_of_all ?k_names_of_all ?a_names_of ?l_names_of ?c_names_of ?k_names_of ?a_terms_in ?l_terms_in ?c_terms_in ?k_terms_in ?a_names_in ?l_names_in ?c_names_in ?k_names_in ?a_law_cell_at ?l_law_cell_at ?c_law_cell_at ?k_law_cell_at ?a_law_name_by ?l_law_name_by ?c_law_name_by ?k_law_name_by ?a_law_pool ?l_law_pool ?c_law_pool ?k_law_pool ?a_law_leaf ?l_law_leaf ?c_law_leaf ?k_law_leaf ?a_law_stack ?l_law_stack ?c_law_stack ?k_law_stack ?a_law_whole_term ?l_law_whole_term ?c_law_whole_term ?k_law_whole_term ?a_law_alike ?l_law_alike ?c_law_alike ?k_law_alike ?a_law_names ?l_law_names ?c_law_names ?k_law_names ?a_law_leaves ?l_law_leaves ?c_law_leaves ?k_law_leaves ?a_law_depth ?l_law_depth ?c_law_depth ?k_law_depth ?a_law_pick ?l_law_pick ?c_law_pick ?k_law_pick ?a_law ?l_law ?c_law ?k_law ?z_all ?z_bool ?z_dict ?z_int ?z_isinstance ?z_len ?z_list ?z_max ?z_range ?z_set ?z_sorted ?z_str ?z_sum ?z_tuple
    (case a_parts_of => k_is); (case l_parts_of => k_is); (case c_parts_of => k_is); (case k_parts_of => k_is)
    (case a_leaves => k_is); (case l_leaves => k_is); (case c_leaves => k_is); (case k_leaves => k_is)
    (case a_depth => k_is); (case l_depth => k_is); (case c_depth => k_is); (case k_depth => k_is)
    (case a_gather_names => k_is); (case l_gather_names => k_is); (case c_gather_names => k_is); (case k_gather_names => k_is)
    (case a_names_of_all => k_is); (case l_names_of_all => k_is); (case c_names_of_all => k_is); (case k_names_of_all => k_is)
    (case a_names_of => k_is); (case l_names_of => k_is); (case c_names_of => k_is); (case k_names_of => k_is)
    (case a_terms_in => k_is); (case l_terms_in => k_is); (case c_terms_in => k_is); (case k_terms_in => k_is)
    (case a_names_in => k_is); (case l_names_in => k_is); (case c_names_in => k_is); (case k_names_in => k_is)
    (case a_law_cell_at => k_is); (case l_law_cell_at => k_is); (case c_law_cell_at => k_is); (case k_law_cell_at => k_is)
    (case a_law_name_by => k_is); (case l_law_name_by => k_is); (case c_law_name_by => k_is); (case k_law_name_by => k_is)
    (case a_law_pool => k_is); (case l_law_pool => k_is); (case c_law_pool => k_is); (case k_law_pool => k_is)
    (case a_law_leaf => k_is); (case l_law_leaf => k_is); (case c_law_leaf => k_is); (case k_law_leaf => k_is)
    (case a_law_stack => k_is); (case l_law_stack => k_is); (case c_law_stack => k_is); (case k_law_stack => k_is)
    (case a_law_whole_term => k_is); (case l_law_whole_term => k_is); (case c_law_whole_term => k_is); (case k_law_whole_term => k_is)
    (case a_law_alike => k_is); (case l_law_alike => k_is); (case c_law_alike => k_is); (case k_law_alike => k_is)
    (case a_law_names => k_is); (case l_law_names => k_is); (case c_law_names => k_is); (case k_law_names => k_is)
    (case a_law_leaves => k_is); (case l_law_leaves => k_is); (case c_law_leaves => k_is); (case k_law_leaves => k_is)
    (case a_law_depth => k_is); (case l_law_depth => k_is); (case c_law_depth => k_is); (case k_law_depth => k_is)
    (case a_law_pick => k_is); (case l_law_pick => k_is); (case c_law_pick => k_is); (case k_law_pick => k_is)
    (case a_law => k_is); (case l_law => k_is); (case c_law => k_is); (case k_law => k_is)
    (case z_all => k_is); (case z_bool => k_is); (case z_dict => k_is); (case z_int => k_is)
    (case z_isinstance => k_is); (case z_len => k_is); (case z_list => k_is); (case z_max => k_is)
    (case z_range => k_is); (case z_set => k_is); (case z_sorted => k_is); (case z_str => k_is)
    (case z_sum => k_is); (case z_tuple => k_is)
#print axioms PySem.Challenge.cw_clashbook_k02_names_leaves_depth_holds
