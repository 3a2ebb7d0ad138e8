import PyProof.Rows.All
import Wide.All
import OpenK.AllK
import Wide.FinOn
import Lean
import PyProof.EqAt
import PyProof.EqKinds
import PyProof.TupleCall
import PyProof.FitsReplace
import PyProof.StrLawsChain
import PySem.Challenge.RW_clashbook_k06_read_there_and_back
set_option Elab.async false
set_option linter.all false
set_option maxRecDepth 100000
/-! THE HAND LAYER, for ints, bools, texts, own classes, LISTS and tuples (index, slices, in, append, pop ..), calls, loops. Paste it whole ahead of your own text; what your proof does not reach may be deleted. -/
namespace L2
open PySem PySem.Spec PyProof.Rows

/-- a key: an int or a str -/
abbrev Key := Sum Int Str
def keyIs : Key → Value → Bool
  | .inl k, v => Value.isInt k v
  | .inr x, v => Value.isStrOf x v
def keyH (w : World) : Key → Int
  | .inl k => hashInt k
  | .inr x => hashStr w x
theorem keyIs_shape : ∀ {k : Key} {v : Value}, keyIs k v = true → (∃ i t, k = Sum.inl i ∧ v = Value.int i t) ∨ (∃ x t, k = Sum.inr x ∧ v = Value.str x t)
  | .inl i, v, h => by
    obtain ⟨t, e⟩ := Value.isInt_shape (k := i) (v := v) h
    exact .inl ⟨i, t, rfl, e⟩
  | .inr x, v, h => by
    obtain ⟨t, e⟩ := Value.isStrOf_shape (x := x) (v := v) h
    exact .inr ⟨x, t, rfl, e⟩
theorem keyIs_int (i : Int) (t : Tok) : keyIs (.inl i) (.int i t) = true := by simp [keyIs, Value.isInt]
theorem keyIs_str (x : Str) (t : Tok) : keyIs (.inr x) (.str x t) = true := by simp [keyIs, Value.isStrOf]
theorem key_ll (a b : Int) : decide ((Sum.inl a : Key) = Sum.inl b) = (a == b) := by
  by_cases e : a = b
  · subst e; simp
  · have h : ¬ (Sum.inl a : Key) = Sum.inl b := fun q => e (Sum.inl.inj q)
    rw [decide_eq_false h]
    exact (beq_eq_false_iff_ne.mpr e).symm
theorem key_rr (a b : Str) : decide ((Sum.inr a : Key) = Sum.inr b) = decide (a = b) := by
  by_cases e : a = b
  · subst e; simp
  · have h : ¬ (Sum.inr a : Key) = Sum.inr b := fun q => e (Sum.inr.inj q)
    rw [decide_eq_false h, decide_eq_false e]
theorem key_lr (a : Int) (b : Str) : decide ((Sum.inl a : Key) = Sum.inr b) = false := decide_eq_false (fun q => nomatch q)
theorem key_rl (a : Str) (b : Int) : decide ((Sum.inr a : Key) = Sum.inl b) = false := decide_eq_false (fun q => nomatch q)

def mixKind (prog : Program) (w : World) : PySem.KeyKind prog w Key where
  is := keyIs
  hash := keyH w
  inj := fun v a b ha hb => by
    rcases keyIs_shape ha with ⟨i, t, rfl, rfl⟩ | ⟨x, t, rfl, rfl⟩
    · rcases keyIs_shape hb with ⟨j, u, rfl, e⟩ | ⟨y, u, rfl, e⟩
      · injection e with e1 _; rw [e1]
      · exact nomatch e
    · rcases keyIs_shape hb with ⟨j, u, rfl, e⟩ | ⟨y, u, rfl, e⟩
      · exact nomatch e
      · injection e with e1 _; rw [e1]
  byValue := fun k v h => by
    rcases keyIs_shape h with ⟨i, t, rfl, rfl⟩ | ⟨x, t, rfl, rfl⟩ <;> rfl
  pyHash := fun hv h => by
    rcases keyIs_shape hv with ⟨i, t, rfl, rfl⟩ | ⟨x, t, rfl, rfl⟩
    · exact wpAny_pyHash_int h
    · exact wpAny_pyHash_str h
  eqBool := fun hu hv h => by
    rcases keyIs_shape hu with ⟨i, t, rfl, rfl⟩ | ⟨x, t, rfl, rfl⟩
    · rcases keyIs_shape hv with ⟨j, u, rfl, rfl⟩ | ⟨y, u, rfl, rfl⟩
      · rw [key_ll] at h; exact wpAny_eqBool_int h
      · rw [key_lr] at h; exact SeqAt.EqAt.int_str i t y u _ _ _ _ h
    · rcases keyIs_shape hv with ⟨j, u, rfl, rfl⟩ | ⟨y, u, rfl, rfl⟩
      · rw [key_rl] at h; exact SeqAt.EqAt.str_int x t j u _ _ _ _ h
      · rw [key_rr] at h; exact wpAny_eqBool_str h
  «strs» := fun k x t v h => by
    rcases keyIs_shape h with ⟨i, u, rfl, e⟩ | ⟨y, u, rfl, e⟩
    · exact nomatch e
    · injection e with e1 _
      subst e1
      cases v <;> rfl

theorem mixKind_is (prog : Program) (w : World) (k : Key) (v : Value) : (mixKind prog w).is k v = keyIs k v := rfl
theorem mixKind_int (prog : Program) (w : World) (i : Int) (t : Tok) : (mixKind prog w).is (.inl i) (.int i t) = true := keyIs_int i t
theorem mixKind_str (prog : Program) (w : World) (x : Str) (t : Tok) : (mixKind prog w).is (.inr x) (.str x t) = true := keyIs_str x t
end L2

namespace L2
open PySem PySem.Spec PyProof.Rows

/-- a value, without the heap -/
inductive V where
  | non | bl (b : Bool) | int (i : Int) | str (x : Str) | byt (b : Array UInt8) | flt (b : UInt64) | ref (a : Addr) | ty (n : String)
  deriving DecidableEq

def RelV : V → Value → Prop
  | .non, u => u = Value.none
  | .bl b, u => u = Value.bool b
  | .int i, u => ∃ t, u = Value.int i t
  | .str x, u => ∃ t, u = Value.str x t
  | .byt b, u => ∃ t, u = Value.bytes b t
  | .flt b, u => ∃ t, u = Value.float b t
  | .ref a, u => u = Value.ref a
  | .ty n, u => u = Value.type n

abbrev Vals : List V → List Value → Prop := Paired RelV
theorem Vals.length {xs : List V} {us : List Value} (r : Vals xs us) : xs.length = us.length := Paired.length r
theorem Vals.get : ∀ {xs : List V} {us : List Value} {i : Nat} {x : V}, Vals xs us → xs[i]? = some x → ∃ u, us[i]? = some u ∧ RelV x u
  | _, _, _, _, .nil, e => by simp at e
  | _, _, 0, _, .cons r _, e => by simp at e; subst e; exact ⟨_, rfl, r⟩
  | _, _, i + 1, x, .cons _ t, e => by
    obtain ⟨u, h1, h2⟩ := Vals.get (i := i) (x := x) t (by simpa using e)
    exact ⟨u, by simpa using h1, h2⟩
theorem Vals.set {x : V} {u : Value} (r : RelV x u) : ∀ {xs : List V} {us : List Value} (i : Nat), Vals xs us → Vals (xs.set i x) (us.set i u)
  | _, _, _, .nil => .nil
  | _, _, 0, .cons _ t => .cons r t
  | _, _, i + 1, .cons q t => .cons q (Vals.set r i t)
theorem Vals.append : ∀ {xs ys : List V} {us ws : List Value}, Vals xs us → Vals ys ws → Vals (xs ++ ys) (us ++ ws)
  | _, _, _, _, .nil, s => s
  | _, _, _, _, .cons r t, s => .cons r (Vals.append t s)
theorem Vals.take : ∀ {xs : List V} {us : List Value} (n : Nat), Vals xs us → Vals (xs.take n) (us.take n)
  | _, _, 0, _ => .nil
  | _, _, _ + 1, .nil => .nil
  | _, _, n + 1, .cons r t => .cons r (Vals.take n t)
theorem Vals.drop : ∀ {xs : List V} {us : List Value} (n : Nat), Vals xs us → Vals (xs.drop n) (us.drop n)
  | _, _, 0, r => r
  | _, _, _ + 1, .nil => .nil
  | _, _, n + 1, .cons _ t => Vals.drop n t
theorem Vals.none_of : ∀ {xs : List V} {us : List Value} {i : Nat}, Vals xs us → xs[i]? = none → us[i]? = none := fun {xs us i} r e => by
  have h1 := r.length
  have h2 : xs.length ≤ i := List.getElem?_eq_none_iff.mp e
  exact List.getElem?_eq_none_iff.mpr (by omega)

def RelO : Option V → Option Value → Prop
  | some v, some u => RelV v u
  | none, none => True
  | _, _ => False
def KV {κ : Type} : List (κ × V) → List (κ × Value) → Prop := Paired fun (p : κ × V) (q : κ × Value) => p.1 = q.1 ∧ RelV p.2 q.2

/-- a key of a dict (00_mix): an int or a text -/
def kV : Key → V
  | .inl i => .int i
  | .inr x => .str x

/-- what stands at a tracked address -/
inductive HO where
  /-- a list -/
  | lst (xs : List V)
  /-- a tuple (never changes) -/
  | tup (xs : List V)
  /-- a dict whose keys are ints and texts; one whose keys are tuples of ints and texts (the empty one is both) -/
  | dK (kvs : List (Key × V)) | dT (kvs : List (List Key × V))
  /-- a set of ints: its members, its size -/
  | set (S : Int → Bool) (n : Nat)
  /-- an instance of the class at C, its dict at dx, its attributes -/
  | ins (C dx : Addr) (fs : List (Str × V))
  /-- the dict of the instance at x -/
  | own (x : Addr)
  /-- the dict of an exception -/
  | xd (fs : List (Str × V))
  /-- a bound method, f of x -/
  | met (f x : Addr)
  /-- a range object lo, lo + 1, .. below hi -/
  | rng (lo hi : Int)
  /-- a thing that is known to the object (the script; a dict while a loop walks it): read, never written while it is so -/
  | frz (o : Obj) (u : HO)
  /-- a code object's table -/
  | tbl (ps : Array Value)
  /-- any other thing, by what is true of its one object (a def of one's own: SetO a S n := HO.ext fun h => ..) -/
  | ext (φ : Heap → Prop)

abbrev Hp := Addr → Option HO
def upd (H : Hp) (a : Addr) (o : HO) : Hp := fun b => if b = a then some o else H b
theorem upd_same {H : Hp} {a : Addr} {o : HO} : upd H a o a = some o := by unfold upd; rw [if_pos rfl]
theorem upd_ne {H : Hp} {a b : Addr} {o : HO} (h : b ≠ a) : upd H a o b = H b := by unfold upd; rw [if_neg h]
theorem upd_upd {H : Hp} {a : Addr} {o u : HO} : upd (upd H a o) a u = upd H a u := by
  funext b; unfold upd; split <;> rfl
/-- two objects of different content stand apart -/
theorem ne_of {H : Hp} {a b : Addr} {o u : HO} (h : H a = some o) (h' : H b = some u) (d : o ≠ u) : a ≠ b := by
  intro e; subst e; rw [h] at h'; exact d (Option.some.inj h')
theorem ne_of_none {H : Hp} {a b : Addr} {o : HO} (h : H a = some o) (h' : H b = none) : a ≠ b := by
  intro e; subst e; rw [h] at h'; cases h'

section
variable (P : Program) (w : World)
def ObjOk (H : Hp) (h : Heap) (a : Addr) : HO → Prop
  | .lst xs => xs.length ≤ sizeLine ∧ ∃ (its : List Value) (n : Nat), Vals xs its ∧ h.get? a = some { cls := .type "list", data := .seq its.toArray n }
  | .tup xs => xs.length ≤ sizeLine ∧ ∃ its : List Value, Vals xs its ∧ IsTup h a its.toArray
  | .dK kvs => kvs.length ≤ sizeLine ∧ (a == sysModules) = false ∧ ∃ vs, KV kvs vs ∧ h.DictOf (mixKind P w) a vs
  | .dT kvs => kvs.length ≤ sizeLine ∧ (a == sysModules) = false ∧ ∃ xs : List (List Key × Addr × Value),
      Paired (fun (p : List Key × V) (q : List Key × Addr × Value) => p.1 = q.1 ∧ H q.2.1 = some (.tup (p.1.map kV)) ∧ RelV p.2 q.2.2) kvs xs ∧
      ∃ o es ep, h.get? a = some o ∧ o.ExactDict ∧ o.data = .dict es ep ∧ es.toList = xs.map (entryOfKey (tupleKind (mixKind P w))) ∧ (xs.map (·.1)).Nodup
  | .set S n => h.SetOf (intKind P w) a S n
  | .ins C dx fs => H dx = some (.own a) ∧ fs.length ≤ 1000 ∧ dx ≠ a ∧ h.get? a = some (PySem.W.instObj C dx) ∧
      ∃ mA, h.Ns1 dx mA ∧ (∀ f, RelO (fs.lookup f) (mA f)) ∧ PySem.Within mA (fs.map (·.1))
  | .own _ => ∃ o, h.get? a = some o
  | .xd fs => ∃ mA, h.Ns1 a mA ∧ ∀ f, RelO (fs.lookup f) (mA f)
  | .rng lo hi => ∃ t u v, h.get? a = some { cls := .type "range", data := .fields #[.int lo t, .int hi u, .int 1 v] }
  | .frz o u => h.get? a = some o ∧ ObjOk H h a u
  | .tbl ps => h.get? a = some { cls := .none, data := .fields ps }
  | .met f x => h.get? a = some (PySem.W.methodObj (.ref f) (.ref x))
  | .ext φ => φ h ∧ (∃ o, h.get? a = some o) ∧ ∀ h1 h2 : Heap, φ h1 → (∀ o, h1.get? a = some o → h2.get? a = some o) → φ h2
/-- the abstract heap is held -/
def HOk (H : Hp) (h : Heap) : Prop := ∀ a o, H a = some o → ObjOk P w H h a o
end

section
variable {P : Program} {w : World} {H H' : Hp} {h h' : Heap} {a : Addr} {o : HO}
theorem ObjOk.lt (x : ObjOk P w H h a o) : a < h.objs.size := by
  cases o with
  | lst xs => obtain ⟨_, _, _, _, e⟩ := x; exact Heap.lt_size e
  | tup xs => obtain ⟨_, _, _, p⟩ := x; exact p.lt
  | dK kvs => obtain ⟨_, _, _, _, o, _, _, e, _⟩ := x; exact Heap.lt_size e
  | dT kvs => obtain ⟨_, _, _, _, o, _, _, e, _⟩ := x; exact Heap.lt_size e
  | set S n => obtain ⟨o, _, _, _, e, _⟩ := x; exact Heap.lt_size e
  | ins C dx fs => obtain ⟨_, _, _, e, _⟩ := x; exact Heap.lt_size e
  | own y => obtain ⟨_, e⟩ := x; exact Heap.lt_size e
  | xd fs => obtain ⟨_, ⟨_, _, _, e, _⟩, _⟩ := x; exact Heap.lt_size e
  | rng lo hi => obtain ⟨_, _, _, e⟩ := x; exact Heap.lt_size e
  | frz ob u => obtain ⟨e, _⟩ := x; exact Heap.lt_size e
  | tbl ps => exact Heap.lt_size (show h.get? a = some _ from x)
  | met f y => exact Heap.lt_size (show h.get? a = some _ from x)
  | ext φ => obtain ⟨_, ⟨_, e⟩, _⟩ := x; exact Heap.lt_size e
theorem Paired.mapP {α β : Type} {F G : α → β → Prop} : ∀ {l₁ : List α} {l₂ : List β}, Paired F l₁ l₂ → (∀ a b, F a b → G a b) → Paired G l₁ l₂
  | _, _, .nil, _ => .nil
  | _, _, .cons r t, f => .cons (f _ _ r) (Paired.mapP t f)
theorem Paired.imp' {α β : Type} {F G : α → β → Prop} (f : ∀ a b, F a b → G a b) {l₁ : List α} {l₂ : List β} (r : Paired F l₁ l₂) : Paired G l₁ l₂ := Paired.mapP r f
/-- what an object's description leans on: its own object, its own dict, the tuples -/
theorem ObjOk.stay (x : ObjOk P w H h a o) (k : ∀ b u, (b = a ∨ H b = some (.own a)) → h.get? b = some u → h'.get? b = some u)
    (ho : ∀ b, H b = some (.own a) → H' b = some (.own a)) (ht : ∀ b xs, H b = some (.tup xs) → H' b = some (.tup xs)) : ObjOk P w H' h' a o := by
  induction o with
  | lst xs => obtain ⟨z, its, n, r, e⟩ := x; exact ⟨z, its, n, r, k _ _ (.inl rfl) e⟩
  | tup xs => obtain ⟨z, its, r, ob, e, c⟩ := x; exact ⟨z, its, r, ob, k _ _ (.inl rfl) e, c⟩
  | dK kvs => obtain ⟨z, y, vs, r, ob, es, ep, e, c⟩ := x; exact ⟨z, y, vs, r, ob, es, ep, k _ _ (.inl rfl) e, c⟩
  | dT kvs =>
    obtain ⟨z, y, xs, r, ob, es, ep, e, c⟩ := x
    exact ⟨z, y, xs, Paired.mapP r fun p q z => ⟨z.1, ht _ _ z.2.1, z.2.2⟩, ob, es, ep, k _ _ (.inl rfl) e, c⟩
  | set S n => obtain ⟨ob, es, ep, t, e, c⟩ := x; exact ⟨ob, es, ep, t, k _ _ (.inl rfl) e, c⟩
  | ins C dx fs =>
    obtain ⟨d, z, ne, e, mA, ⟨od, es, ep, e2, c⟩, r⟩ := x
    exact ⟨ho _ d, z, ne, k _ _ (.inl rfl) e, mA, ⟨od, es, ep, k _ _ (.inr d) e2, c⟩, r⟩
  | own y => obtain ⟨ob, e⟩ := x; exact ⟨ob, k _ _ (.inl rfl) e⟩
  | xd fs => obtain ⟨mA, ⟨od, es, ep, e, c⟩, r⟩ := x; exact ⟨mA, ⟨od, es, ep, k _ _ (.inl rfl) e, c⟩, r⟩
  | rng lo hi => obtain ⟨t, u, v, e⟩ := x; exact ⟨t, u, v, k _ _ (.inl rfl) e⟩
  | frz ob u ih => obtain ⟨e, q⟩ := x; exact ⟨k _ _ (.inl rfl) e, ih q⟩
  | tbl ps =>
    have e : h.get? a = some { cls := .none, data := .fields ps } := x
    show h'.get? a = some { cls := .none, data := .fields ps }
    exact k a _ (.inl rfl) e
  | met f y =>
    have e : h.get? a = some (PySem.W.methodObj (.ref f) (.ref y)) := x
    show h'.get? a = some (PySem.W.methodObj (.ref f) (.ref y))
    exact k a _ (.inl rfl) e
  | ext φ => obtain ⟨p, ⟨o, e⟩, st⟩ := x; exact ⟨st _ _ p fun o q => k _ _ (.inl rfl) q, ⟨o, k _ _ (.inl rfl) e⟩, st⟩
theorem HOk.lt (x : HOk P w H h) (e : H a = some o) : a < h.objs.size := (x a o e).lt
theorem HOk.fresh (x : HOk P w H h) (e : h.objs.size ≤ a) : H a = none := by
  cases q : H a with
  | none => rfl
  | some u => exact absurd (Nat.lt_of_lt_of_le (x.lt q) e) (Nat.lt_irrefl _)
/-- every object of the heap is kept -/
theorem HOk.kept (x : HOk P w H h) (k : ∀ b u, h.get? b = some u → h'.get? b = some u) : HOk P w H h' := fun a o e =>
  (x a o e).stay (fun b u _ q => k b u q) (fun _ q => q) fun _ _ q => q
/-- a new object is laid and tracked -/
theorem HOk.laid (x : HOk P w H h) (k : ∀ b u, h.get? b = some u → h'.get? b = some u) (hp : h.objs.size ≤ a) (new : ObjOk P w (upd H a o) h' a o) : HOk P w (upd H a o) h' := fun b u e => by
  have hn := x.fresh hp
  by_cases hb : b = a
  · subst hb; rw [upd_same] at e; cases e; exact new
  · rw [upd_ne hb] at e
    exact (x b u e).stay (fun c v _ q => k c v q) (fun c q => by rw [upd_ne (ne_of_none q hn)]; exact q) fun c xs q => by rw [upd_ne (ne_of_none q hn)]; exact q
end

/-- what may be read as u: it is u, or a known u -/
def Rd (H : Hp) (a : Addr) (u : HO) : Prop := H a = some u ∨ ∃ o, H a = some (.frz o u)
theorem Rd.of {H : Hp} {a : Addr} {u : HO} (h : H a = some u) : Rd H a u := .inl h
theorem Rd.ok {P : Program} {w : World} {H : Hp} {h : Heap} {a : Addr} {u : HO} (r : Rd H a u) (x : HOk P w H h) : ObjOk P w H h a u := by
  rcases r with r | ⟨o, r⟩
  · exact x a u r
  · obtain ⟨_, q⟩ := x a _ r
    exact q
/-- what may be written -/
def Mut : Option HO → Prop
  | some (.lst _) => True
  | some (.dK _) => True
  | some (.dT _) => True
  | some (.set _ _) => True
  | some (.ins _ _ _) => True
  | some (.ext _) => True
  | _ => False
section
variable {P : Program} {w : World} {H : Hp} {h h' : Heap} {x e : Addr} {o' : HO}
/-- the object at e is changed: x itself, or the dict of the instance x -/
theorem HOk.write (ok : HOk P w H h) (mu : Mut (H x)) (he : e = x ∨ H e = some (.own x)) (k : ∀ b u, b ≠ e → h.get? b = some u → h'.get? b = some u) (heo : ∃ u, h'.get? e = some u)
    (new : ObjOk P w (upd H x o') h' x o') : HOk P w (upd H x o') h' := fun b u q => by
  have nown : ∀ c y, H c = some (.own y) → c ≠ x := fun c y r z => by subst z; rw [r] at mu; exact mu
  have ntup : ∀ c xs, H c = some (.tup xs) → c ≠ x := fun c xs r z => by subst z; rw [r] at mu; exact mu
  by_cases hb : b = x
  · subst hb; rw [upd_same] at q; cases q; exact new
  · rw [upd_ne hb] at q
    by_cases hbe : b = e
    · have q' : H b = some (.own x) := by
        rcases he with z | z
        · exact absurd (hbe.trans z) hb
        · rw [hbe]; exact z
      rw [q] at q'; cases q'
      obtain ⟨v, hv⟩ := heo
      exact ⟨v, by rw [hbe]; exact hv⟩
    · refine (ok b u q).stay (fun c v hc r => k c v ?_ r) (fun c r => by rw [upd_ne (nown c b r)]; exact r) fun c xs r => by rw [upd_ne (ntup c xs r)]; exact r
      rcases hc with rfl | hc
      · exact hbe
      · rintro rfl
        rcases he with z | z
        · exact nown c b hc z
        · rw [hc] at z; cases z; exact hb rfl
end

/-! ### kept unless tracked; of the frames at fs (the callers') the slots may change (an exception that passes writes there); of the records at ex (iterators) nothing is said -/
structure Un (fs ex : List Addr) (H H' : Hp) (h h' : Heap) : Prop where
  keep : ∀ b o, h.get? b = some o → H b = none → b ∉ fs → b ∉ ex → h'.get? b = some o
  slot : ∀ b o, h.get? b = some o → H b = none → b ∈ fs → b ∉ ex → ∃ sl, h'.get? b = some { o with slots := sl }
  free : ∀ b o, h.get? b = some o → H b = none → b ∉ ex → H' b = none
  there : ∀ b o, h.get? b = some o → b ∉ ex → ∃ o', h'.get? b = some o'
  tups : ∀ b xs, H b = some (.tup xs) → H' b = some (.tup xs)
  frzs : ∀ b o u, H b = some (.frz o u) → H' b = some (.frz o u)
  tbls : ∀ b ps, H b = some (.tbl ps) → ∃ more, H' b = some (.tbl (ps ++ more))
section
variable {fs fs' ex ex' : List Addr} {H H1 H2 : Hp} {h h1 h2 h' : Heap} {a x e : Addr} {o : HO}
theorem Un.any (u : Un fs ex H H1 h h1) {b : Addr} {ob : Obj} (q : h.get? b = some ob) (n : H b = none) (hx : b ∉ ex) : ∃ sl, h1.get? b = some { ob with slots := sl } := by
  by_cases hb : b ∈ fs
  · exact u.slot b ob q n hb hx
  · exact ⟨ob.slots, u.keep b ob q n hb hx⟩
theorem Un.trans (a : Un fs ex H H1 h h1) (b : Un fs ex H1 H2 h1 h2) : Un fs ex H H2 h h2 where
  keep := fun c ob q n hc hx => b.keep c ob (a.keep c ob q n hc hx) (a.free c ob q n hx) hc hx
  slot := fun c ob q n hc hx => by
    obtain ⟨sl, e1⟩ := a.slot c ob q n hc hx
    obtain ⟨sl', e2⟩ := b.slot c _ e1 (a.free c ob q n hx) hc hx
    exact ⟨sl', e2⟩
  free := fun c ob q n hx => by
    obtain ⟨o', e1⟩ := a.there c ob q hx
    exact b.free c o' e1 (a.free c ob q n hx) hx
  there := fun c ob q hx => by
    obtain ⟨o', e1⟩ := a.there c ob q hx
    exact b.there c o' e1 hx
  tups := fun c xs q => b.tups c xs (a.tups c xs q)
  frzs := fun c ob xs q => b.frzs c ob xs (a.frzs c ob xs q)
  tbls := fun c ps q => by
    obtain ⟨m1, e1⟩ := a.tbls c ps q
    obtain ⟨m2, e2⟩ := b.tbls c _ e1
    exact ⟨m1 ++ m2, by rw [e2, Array.append_assoc]⟩
theorem Un.kept (k : ∀ b u, h.get? b = some u → h'.get? b = some u) : Un fs ex H H h h' :=
  ⟨fun b ob q _ _ _ => k b ob q, fun b ob q _ _ _ => ⟨ob.slots, k b ob q⟩, fun _ _ _ n _ => n, fun b ob q _ => ⟨ob, k b ob q⟩, fun _ _ q => q, fun _ _ _ q => q, fun _ ps q => ⟨#[], by rw [q]; simp⟩⟩
theorem Un.refl : Un fs ex H H h h := Un.kept fun _ _ q => q
theorem Un.laid (k : ∀ b u, h.get? b = some u → h'.get? b = some u) (hp : h.objs.size ≤ a) (hn : H a = none) : Un fs ex H (upd H a o) h h' where
  keep := fun b u q _ _ _ => k b u q
  slot := fun b u q _ _ _ => ⟨u.slots, k b u q⟩
  free := fun b u q n _ => by rw [upd_ne (Nat.ne_of_lt (Nat.lt_of_lt_of_le (Heap.lt_size q) hp))]; exact n
  there := fun b u q _ => ⟨u, k b u q⟩
  tups := fun b xs q => by rw [upd_ne (ne_of_none q hn)]; exact q
  frzs := fun b u xs q => by rw [upd_ne (ne_of_none q hn)]; exact q
  tbls := fun b ps q => ⟨#[], by rw [upd_ne (ne_of_none q hn), q]; simp⟩
theorem Un.write (mu : Mut (H x)) (he : e = x ∨ H e = some (.own x)) (k : ∀ b u, b ≠ e → h.get? b = some u → h'.get? b = some u) (heo : ∃ u, h'.get? e = some u) : Un fs ex H (upd H x o) h h' := by
  have hx : ∀ b, H b = none → b ≠ x := fun b n z => by subst z; rw [n] at mu; exact mu
  have hb : ∀ b, H b = none → b ≠ e := fun b n z => by
    subst z
    rcases he with r | r
    · exact hx b n r
    · rw [n] at r; cases r
  have hm : ∀ b u, H b = some u → ¬ Mut (some u) → b ≠ x := fun b u q nm z => by subst z; rw [q] at mu; exact nm mu
  refine ⟨fun b u q n _ _ => k b u (hb b n) q, fun b u q n _ _ => ⟨u.slots, k b u (hb b n) q⟩, fun b u q n _ => by rw [upd_ne (hx b n)]; exact n, fun b u q _ => ?_,
    fun b xs q => by rw [upd_ne (hm b _ q fun z => z)]; exact q, fun b u xs q => by rw [upd_ne (hm b _ q fun z => z)]; exact q, fun b ps q => ⟨#[], by rw [upd_ne (hm b _ q fun z => z), q]; simp⟩⟩
  by_cases hbe : b = e
  · subst hbe; exact heo
  · exact ⟨u, k b u hbe q⟩
theorem Un.mono (u : Un fs ex H H1 h h1) (hs : ∀ b ∈ fs, b ∈ fs') (hx : ∀ b ∈ ex, b ∈ ex') : Un fs' ex' H H1 h h1 :=
  ⟨fun b ob q n hb he => u.keep b ob q n (fun z => hb (hs b z)) fun z => he (hx b z), fun _ _ q n _ he => u.any q n fun z => he (hx _ z), fun b ob q n he => u.free b ob q n fun z => he (hx b z), fun b ob q he => u.there b ob q fun z => he (hx b z), u.tups, u.frzs, u.tbls⟩
end

/-! ### the heap without what is tracked -/
def trk (h : Heap) (H : Hp) : List Addr := (List.range h.objs.size).filter fun a => (H a).isSome
def hidT (h : Heap) (H : Hp) : Heap := PySem.W.hideAll h (trk h H)
theorem hidT_size (h : Heap) (H : Hp) : (hidT h H).objs.size = h.objs.size := PySem.W.hideAll_size _ _
theorem hidT_get {h : Heap} {H : Hp} {b : Addr} {o : Obj} (e : h.get? b = some o) (n : H b = none) : (hidT h H).get? b = some o :=
  PySem.W.hideAll_get _ e fun hm => by
    have q : (H b).isSome = true := (List.mem_filter.mp hm).2
    rw [n] at q; simp at q
theorem of_hidT {h : Heap} {H : Hp} {b : Addr} {o : Obj} (e : (hidT h H).get? b = some o) : h.get? b = some o ∧ H b = none := by
  have e' : h.get? b = some o := PySem.W.of_hideAll (trk h H) e
  refine ⟨e', ?_⟩
  cases q : H b with
  | none => rfl
  | some x =>
    have hm : b ∈ trk h H := List.mem_filter.mpr ⟨List.mem_range.mpr (Heap.lt_size e'), by simp [q]⟩
    have z : (hidT h H).get? b = none := PySem.W.hideAll_none (trk h H) hm
    rw [z] at e; cases e

/-! ### OpenK's ledger, filled with every new object but one -/
def allNews (g h : Heap) (L : Addr) : List (Addr × Obj) := (List.range h.objs.size).filterMap fun a => if a = L ∨ (g.get? a).isSome = true then none else (h.get? a).map fun o => (a, o)
theorem mem_allNews {g h : Heap} {L a : Addr} {o : Obj} (h1 : a ≠ L) (h2 : g.get? a = none) (h3 : h.get? a = some o) : (a, o) ∈ allNews g h L :=
  List.mem_filterMap.mpr ⟨a, List.mem_range.mpr (Heap.lt_size h3), by simp [h1, h2, h3]⟩
theorem of_mem_allNews {g h : Heap} {L : Addr} {p : Addr × Obj} (hp : p ∈ allNews g h L) : p.1 ≠ L ∧ g.get? p.1 = none ∧ h.get? p.1 = some p.2 := by
  obtain ⟨b, _, e⟩ := List.mem_filterMap.mp hp
  split at e
  · cases e
  · rename_i hn
    cases q : h.get? b with
    | none => rw [q] at e; simp at e
    | some u =>
      rw [q] at e
      simp only [Option.map_some, Option.some.injEq] at e
      subst e
      refine ⟨fun z => hn (.inl z), ?_, q⟩
      show g.get? b = none
      cases r : g.get? b with
      | none => rfl
      | some v => exact (hn (.inr (by simp [r]))).elim
def rest (g h : Heap) (L d : Addr) : List (Addr × Obj) := (allNews g h L).filter fun p => decide (p.1 ≠ d)
theorem rest_ne {g h : Heap} {L d : Addr} : ∀ p ∈ rest g h L d, p.1 ≠ d := fun p hp => of_decide_eq_true (List.mem_filter.mp hp).2
theorem mem_rest {g h : Heap} {L d a : Addr} {o : Obj} (h1 : a ≠ L) (h2 : g.get? a = none) (h3 : h.get? a = some o) (h4 : a ≠ d) : (a, o) ∈ rest g h L d :=
  List.mem_filter.mpr ⟨mem_allNews h1 h2 h3, decide_eq_true h4⟩
theorem news_all {g h : Heap} {L : Addr} : News g L h (allNews g h L) := fun p hp => let ⟨a, b, c⟩ := of_mem_allNews hp; ⟨c, a, b⟩
theorem news_at {g h : Heap} {L d : Addr} {o : Obj} (h1 : d ≠ L) (h2 : g.get? d = none) (h3 : h.get? d = some o) : News g L h ((d, o) :: rest g h L d) := fun p hp => by
  rcases List.mem_cons.mp hp with rfl | hp
  · exact ⟨h3, h1, h2⟩
  · exact news_all p (List.mem_filter.mp hp).1
/-- behind a rule that changed d alone: all else but the frame is kept -/
theorem kept_of_news {g h h' : Heap} {L d : Addr} {m : Str → Option Value} (k : ∀ b o, g.get? b = some o → h.get? b = some o) (F : Fr g L h' m) (N : News g L h' (rest g h L d)) :
    ∀ b o, b ≠ L → b ≠ d → h.get? b = some o → h'.get? b = some o := fun b o h1 h2 e => by
  cases q : g.get? b with
  | some u =>
    have := k b u q
    rw [e] at this; cases this
    exact F.keep b _ q
  | none => exact (N (b, o) (mem_rest h1 q e h2)).1
end L2

namespace L2
open PySem PySem.Spec PyProof.Rows

/-- the module's facts, over the base: the heap at the law's entry without what is tracked there -/
structure Mod (K : PySem.W.Frag) (mg : Str → Option Value) (base : Heap) : Prop where
  kin : K.In base
  glob : base.Ns mainGlobals mg
  blt : ∃ mb, base.Ns builtinsNs mb ∧ ∀ x : Str, x ≠ "__name__" → mb x = bootBuiltins x
  nolimit : base.NoLimit

/-- the context: a def's body (or a comprehension's block) running. base: fixed through the whole law; s₀, H₀: the entry; outer: the frames whose slots others may change (a def's callers); stack: all frames that run;
   ex: iterators that were made ahead of the entry and are walked here (a comprehension's); fn: the names whose cells were made at the entry (a def: all; a comprehension's block: its own); calm: not within an except suite; pn: pins that every state bears; xe: what is wanted of an exception that leaves the code -/
structure Cx where
  prog : Program
  w : World
  K : PySem.W.Frag
  mg : Str → Option Value
  base : Heap
  A : Around
  N : List Str
  s₀ : Shared
  H₀ : Hp
  env : Env
  outer : List Env
  stack : List Env
  ex : List Addr
  fn : Str → Bool
  calm : Bool
  pn : List (Addr × Obj)
  xe : Value → Shared → Prop
/-- the callers' frames -/
def frs (l : List Env) : List Addr := l.filterMap (·.frame)
abbrev Cx.fs (X : Cx) : List Addr := frs X.outer

def Vis (sc : Scope) (x : Str) : Prop := sc.names.lookup x = some .local ∨ sc.names.lookup x = some .cell ∨ sc.names.lookup x = some .free
def Loc (sc : Scope) (x : Str) : Prop := sc.names.lookup x = some .local ∨ sc.names.lookup x = some .cell
def Look (env : Env) (h : Heap) (m : Str → Option Value) (x : Str) (u : Value) : Prop :=
  (env.kindOf x = some .local ∧ m x = some u) ∨ ((env.kindOf x = some .cell ∨ env.kindOf x = some .free) ∧ ∃ c, env.cells.lookup x = some c ∧ h.IsCell c (some u))

structure Cx.Ok (X : Cx) : Prop where
  mod : Mod X.K X.mg X.base
  kind : X.env.scope.kind = .function
  glob : X.env.globals = mainGlobals
  blt : X.env.builtins = builtinsNs
  above : X.s₀.heap.objs.size ≤ X.env.locals
  inj : ∀ x y c, X.env.cells.lookup x = some c → X.env.cells.lookup y = some c → x = y
  has : ∀ x, (X.env.kindOf x = some .cell ∨ X.env.kindOf x = some .free) → ∃ c, X.env.cells.lookup x = some c
  cab : ∀ x c, X.fn x = true → X.env.cells.lookup x = some c → X.s₀.heap.objs.size ≤ c
  hd : X.calm = true → X.A.handled = none
  frames : X.A.frames = some X.stack
  stk : X.stack = X.outer ∨ (X.stack = X.env :: X.outer ∧ X.env.frame = some X.env.locals)
  exf : ∀ b ∈ X.ex, b ≠ X.env.locals ∧ ∀ x c, X.env.cells.lookup x = some c → c ≠ b
  bs : ∀ b o, X.base.get? b = some o → X.s₀.heap.get? b = some o ∧ X.H₀ b = none
  bsz : X.base.objs.size ≤ X.s₀.heap.objs.size
  noex : ∀ b o, X.base.get? b = some o → b ∉ X.ex
  exfs : ∀ b ∈ X.ex, b ∉ X.fs
  funs : X.s₀.heap.FunFrames X.base X.outer
  frf : ∀ b ∈ X.fs, X.H₀ b = none

structure Inv (X : Cx) (pins : List (Addr × Obj)) (σ : List (Option V)) (H : Hp) (s : Shared) : Prop where
  ok : X.Ok
  os : s.os = X.s₀.os
  bare : AllBare s.gens
  base : Un X.fs X.ex X.H₀ H X.s₀.heap s.heap
  loc : ∃ m, s.heap.Ns X.env.locals m ∧ ∀ (i : Nat) (x : Str) (v : V), X.N[i]? = some x → σ[i]? = some (some v) → Vis X.env.scope x → ∃ u, RelV v u ∧ Look X.env s.heap m x u
  cell : ∀ x c, X.env.cells.lookup x = some c → ∃ v, s.heap.IsCell c v
  free : H X.env.locals = none
  freeC : ∀ x c, X.env.cells.lookup x = some c → H c = none
  pin : ∀ p ∈ X.pn ++ pins, s.heap.get? p.1 = some p.2 ∧ H p.1 = none ∧ p.1 ≠ X.env.locals ∧ p.1 ∉ X.fs ∧ ∀ v, p.2.data ≠ .cell v
  hok : HOk X.prog X.w H s.heap
  len : σ.length = X.N.length

section
variable {X : Cx} {pins : List (Addr × Obj)} {σ : List (Option V)} {H H' : Hp} {s : Shared} {h' : Heap}

theorem Cx.Ok.nofr (ok : X.Ok) {b : Addr} {o : Obj} (e : X.base.get? b = some o) : b ∉ X.fs := fun hb => by
  have := (ok.funs.mem hb).1
  rw [e] at this; cases this
theorem Inv.bs (I : Inv X pins σ H s) : ∀ b o, X.base.get? b = some o → s.heap.get? b = some o ∧ H b = none := fun b o e =>
  ⟨I.base.keep b o (I.ok.bs b o e).1 (I.ok.bs b o e).2 (I.ok.nofr e) (I.ok.noex b o e), I.base.free b o (I.ok.bs b o e).1 (I.ok.bs b o e).2 (I.ok.noex b o e)⟩
theorem Inv.bk (I : Inv X pins σ H s) : ∀ b o, X.base.get? b = some o → s.heap.get? b = some o := fun b o e => (I.bs b o e).1
theorem Inv.mod (I : Inv X pins σ H s) : Mod X.K X.mg X.base := I.ok.mod
theorem Inv.kIn (I : Inv X pins σ H s) : X.K.In s.heap := I.ok.mod.kin.keeps I.bk
theorem Inv.nolimit (I : Inv X pins σ H s) : s.heap.NoLimit := I.ok.mod.nolimit.keeps I.bk
/-- the frame over the base: for OpenK's rules (K.In X.base is I.mod.kin) -/
theorem Inv.fr (I : Inv X pins σ H s) : ∃ m, Fr X.base X.env.locals s.heap m :=
  let ⟨m, hn, _⟩ := I.loc
  ⟨m, hn, I.bk, Nat.le_trans I.ok.bsz I.ok.above⟩
theorem Inv.lt (I : Inv X pins σ H s) : X.env.locals < s.heap.objs.size := let ⟨_, hn, _⟩ := I.loc; hn.lt
theorem Inv.sz (I : Inv X pins σ H s) : X.s₀.heap.objs.size ≤ s.heap.objs.size := Nat.le_trans I.ok.above (Nat.le_of_lt I.lt)
theorem Inv.nofs (I : Inv X pins σ H s) {a : Addr} (h : s.heap.objs.size ≤ a) : a ∉ X.fs := fun hb => by
  obtain ⟨_, o, ho, _⟩ := I.ok.funs.mem hb
  exact absurd (Nat.lt_of_lt_of_le (Heap.lt_size ho) (Nat.le_trans I.sz h)) (Nat.lt_irrefl _)
theorem Inv.cne (I : Inv X pins σ H s) : ∀ x c, X.env.cells.lookup x = some c → c ≠ X.env.locals := fun x c e z => by
  obtain ⟨v, o, ho, hd⟩ := I.cell x c e
  obtain ⟨m, ⟨o', es, ep, ho', hd', _⟩, _⟩ := I.loc
  rw [z, ho'] at ho; cases ho; rw [hd'] at hd; cases hd
theorem Inv.funs (I : Inv X pins σ H s) : s.heap.FunFrames X.base X.outer := by
  have all : ∀ (l : List Env), (∀ b ∈ frs l, b ∈ X.fs) → X.s₀.heap.FunFrames X.base l → s.heap.FunFrames X.base l := by
    intro l
    induction l with
    | nil => intro _ _; trivial
    | cons env r ih =>
      intro hs hl
      obtain ⟨hk, ⟨L, o, hf, hn, ho, hd⟩, hr⟩ := hl
      have hL : L ∈ X.fs := hs L (by unfold frs; rw [List.filterMap_cons, hf]; exact List.mem_cons_self)
      obtain ⟨sl, e⟩ := I.base.slot L o ho (I.ok.frf L hL) hL fun z => I.ok.exfs L z hL
      exact ⟨hk, ⟨L, _, hf, hn, e, hd⟩, ih (fun b hb => hs b (by unfold frs; rw [List.filterMap_cons, hf]; exact List.mem_cons_of_mem _ hb)) hr⟩
  exact all X.outer (fun _ hb => hb) I.ok.funs

/-- the frames that run, for a call -/
theorem Inv.stack (I : Inv X pins σ H s) : s.heap.FunFrames X.base X.stack := by
  rcases I.ok.stk with e | ⟨e, hf⟩
  · rw [e]; exact I.funs
  · rw [e]
    obtain ⟨m, hn, _⟩ := I.loc
    refine .cons (by rw [I.ok.kind]; decide) hf hn ?_ I.funs
    exact Heap.get?_none_of_le (Nat.le_trans I.ok.bsz I.ok.above)
theorem Inv.stkSub (I : Inv X pins σ H s) : ∀ b ∈ frs X.stack, b ∈ X.env.locals :: X.fs := fun b hb => by
  rcases I.ok.stk with e | ⟨e, hf⟩
  · rw [e] at hb; exact List.mem_cons_of_mem _ hb
  · rw [e] at hb
    unfold frs at hb
    rw [List.filterMap_cons, hf] at hb
    exact hb
theorem Inv.stkFree (I : Inv X pins σ H s) : ∀ b ∈ frs X.stack, H b = none := fun b hb => by
  rcases List.mem_cons.mp (I.stkSub b hb) with e | hb
  · rw [e]; exact I.free
  · obtain ⟨_, o, ho, _⟩ := I.ok.funs.mem hb
    exact I.base.free b o ho (I.ok.frf b hb) fun z => I.ok.exfs b z hb

/-- THE STEP: the untracked objects but the frame and the records at ch are kept (the callers' frames up to slots), the frame's map is kept, the new abstract heap is held -/
theorem Inv.step {g' : Array GenState} {t' : Nat} {d' : Drawn} {ch : List Addr} (I : Inv X pins σ H s)
    (hch : ∀ b ∈ ch, (b ∈ X.ex ∨ X.s₀.heap.objs.size ≤ b) ∧ b ≠ X.env.locals ∧ (∀ x c, X.env.cells.lookup x = some c → c ≠ b) ∧ ∀ p ∈ X.pn ++ pins, p.1 ≠ b)
    (keep : ∀ b o, b ≠ X.env.locals → b ∉ X.fs → b ∉ ch → s.heap.get? b = some o → H b = none → h'.get? b = some o)
    (slot : ∀ b o, b ≠ X.env.locals → b ∈ X.fs → b ∉ ch → s.heap.get? b = some o → H b = none → ∃ sl, h'.get? b = some { o with slots := sl }) (free : ∀ b o, b ∉ ch → s.heap.get? b = some o → H b = none → H' b = none)
    (there : ∀ b o, b ∉ ch → s.heap.get? b = some o → ∃ o', h'.get? b = some o')
    (tups : ∀ b xs, H b = some (.tup xs) → H' b = some (.tup xs)) (frzs : ∀ b o u, H b = some (.frz o u) → H' b = some (.frz o u)) (tbls : ∀ b ps, H b = some (.tbl ps) → ∃ more, H' b = some (.tbl (ps ++ more)))
    (ns : ∀ m, s.heap.Ns X.env.locals m → h'.Ns X.env.locals m) (hok : HOk X.prog X.w H' h') (hg : AllBare g') :
    Inv X pins σ H' { s with heap := h', gens := g', drawn := d', toks := t' } := by
  have neL : ∀ b o, X.s₀.heap.get? b = some o → b ≠ X.env.locals := fun b o e => Nat.ne_of_lt (Nat.lt_of_lt_of_le (Heap.lt_size e) I.ok.above)
  have neC : ∀ b o, X.s₀.heap.get? b = some o → b ∉ X.ex → b ∉ ch := fun b o e hx hb => by
    rcases (hch b hb).1 with z | z
    · exact hx z
    · exact absurd (Nat.lt_of_lt_of_le (Heap.lt_size e) z) (Nat.lt_irrefl _)
  have cellK : ∀ x c, X.env.cells.lookup x = some c → ∀ v, s.heap.IsCell c v → h'.IsCell c v := fun x c e v ⟨o, ho, hd⟩ => by
    have nch : c ∉ ch := fun z => (hch c z).2.2.1 x c e rfl
    by_cases hc : c ∈ X.fs
    · obtain ⟨sl, q⟩ := slot c o (I.cne x c e) hc nch ho (I.freeC x c e)
      exact ⟨_, q, hd⟩
    · exact ⟨o, keep c o (I.cne x c e) hc nch ho (I.freeC x c e), hd⟩
  refine ⟨I.ok, I.os, hg, ⟨fun b o e n hb hx => ?_, fun b o e n hb hx => ?_, fun b o e n hx => ?_, fun b o e hx => ?_, fun b xs e => tups b xs (I.base.tups b xs e), fun b o xs e => frzs b o xs (I.base.frzs b o xs e), fun b ps e => ?_⟩, ?_, fun x c e => ?_, ?_, fun x c e => ?_, fun p hp => ?_, hok, I.len⟩
  · exact keep b o (neL b o e) hb (neC b o e hx) (I.base.keep b o e n hb hx) (I.base.free b o e n hx)
  · obtain ⟨sl, e1⟩ := I.base.slot b o e n hb hx
    obtain ⟨sl', e2⟩ := slot b _ (neL b o e) hb (neC b o e hx) e1 (I.base.free b o e n hx)
    exact ⟨sl', e2⟩
  · obtain ⟨o', e1⟩ := I.base.there b o e hx
    exact free b o' (neC b o e hx) e1 (I.base.free b o e n hx)
  · obtain ⟨o', e1⟩ := I.base.there b o e hx
    exact there b o' (neC b o e hx) e1
  · obtain ⟨m1, e1⟩ := I.base.tbls b ps e
    obtain ⟨m2, e2⟩ := tbls b _ e1
    exact ⟨m1 ++ m2, by rw [e2, Array.append_assoc]⟩
  · obtain ⟨m, hn, hl⟩ := I.loc
    refine ⟨m, ns m hn, fun i x v e1 e2 e3 => ?_⟩
    obtain ⟨u, r, l⟩ := hl i x v e1 e2 e3
    refine ⟨u, r, ?_⟩
    rcases l with l | ⟨k, c, e, z⟩
    · exact .inl l
    · exact .inr ⟨k, c, e, cellK x c e _ z⟩
  · obtain ⟨v, z⟩ := I.cell x c e
    exact ⟨v, cellK x c e v z⟩
  · obtain ⟨m, ⟨o, _, _, ho, _⟩, _⟩ := I.loc
    exact free _ o (fun z => (hch _ z).2.1 rfl) ho I.free
  · obtain ⟨v, o, ho, hd⟩ := I.cell x c e
    exact free c o (fun z => (hch c z).2.2.1 x c e rfl) ho (I.freeC x c e)
  · obtain ⟨e, n, ne, nf, d⟩ := I.pin p hp
    have nch : p.1 ∉ ch := fun z => (hch p.1 z).2.2.2 p hp rfl
    exact ⟨keep p.1 p.2 ne nf nch e n, free p.1 p.2 nch e n, ne, nf, d⟩
/-- .. where the frame's own object is kept too -/
theorem Inv.un {t' : Nat} (I : Inv X pins σ H s) (u : Un X.fs [] H H' s.heap h') (hok : HOk X.prog X.w H' h') : Inv X pins σ H' { s with heap := h', toks := t' } := by
  obtain ⟨m, ⟨o, es, ep, ho, r⟩, _⟩ := id I.loc
  obtain ⟨sl, hL⟩ := u.any ho I.free (by simp)
  exact I.step (g' := s.gens) (d' := s.drawn) (ch := []) (fun _ z => nomatch z) (fun b o _ hb _ e n => u.keep b o e n hb (by simp)) (fun b o _ hb _ e n => u.slot b o e n hb (by simp)) (fun b o _ e n => u.free b o e n (by simp)) (fun b o _ e => u.there b o e (by simp)) u.tups u.frzs u.tbls (fun m' hm => by
    obtain ⟨o', es', ep', ho', r'⟩ := hm
    rw [ho] at ho'; cases ho'
    exact ⟨_, es', ep', hL, r'⟩) hok I.bare
/-- behind a call (or a comprehension's block): the slots of this frame may have changed too, the records at ch may have turned -/
theorem Inv.call {g' : Array GenState} {t' : Nat} {d' : Drawn} {ch : List Addr} (I : Inv X pins σ H s) (u : Un (frs X.stack) ch H H' s.heap h') (hok : HOk X.prog X.w H' h') (hg : AllBare g')
    (hch : ∀ b ∈ ch, (b ∈ X.ex ∨ X.s₀.heap.objs.size ≤ b) ∧ b ≠ X.env.locals ∧ (∀ x c, X.env.cells.lookup x = some c → c ≠ b) ∧ ∀ p ∈ X.pn ++ pins, p.1 ≠ b) :
    Inv X pins σ H' { s with heap := h', gens := g', drawn := d', toks := t' } := by
  obtain ⟨m, ⟨o, es, ep, ho, r⟩, _⟩ := id I.loc
  obtain ⟨sl, hL⟩ := u.any ho I.free fun z => (hch _ z).2.1 rfl
  exact I.step (ch := ch) hch (fun b o hL hb hc e n => u.keep b o e n (fun z => (List.mem_cons.mp (I.stkSub b z)).elim hL hb) hc) (fun b o _ _ hc e n => u.any e n hc) (fun b o hc e n => u.free b o e n hc) (fun b o hc e => u.there b o e hc) u.tups u.frzs u.tbls (fun m' hm => by
    obtain ⟨o', es', ep', ho', r'⟩ := hm
    rw [ho] at ho'; cases ho'
    exact ⟨_, es', ep', hL, r'⟩) hok hg
/-- an untracked record of ours (an iterator) has turned -/
theorem Inv.turned {t' : Nat} {it : Addr} (I : Inv X pins σ H s) (k : ∀ b o, b ≠ it → s.heap.get? b = some o → h'.get? b = some o) (hn : H it = none) (hL : it ≠ X.env.locals)
    (h1 : it ∈ X.ex ∨ X.s₀.heap.objs.size ≤ it) (h2 : ∀ x c, X.env.cells.lookup x = some c → c ≠ it) (h3 : ∀ p ∈ X.pn ++ pins, p.1 ≠ it) : Inv X pins σ H { s with heap := h', toks := t' } := by
  have nit : ∀ b u, H b = some u → b ≠ it := fun b u e z => by rw [z, hn] at e; cases e
  refine I.step (g' := s.gens) (d' := s.drawn) (ch := [it]) (fun b hb => ?_) (fun b o _ _ hc e _ => k b o (fun z => hc (by simp [z])) e) (fun b o _ _ hc e _ => ⟨o.slots, k b o (fun z => hc (by simp [z])) e⟩) (fun _ _ _ _ n => n)
    (fun b o hc e => ⟨o, k b o (fun z => hc (by simp [z])) e⟩) (fun _ _ e => e) (fun _ _ _ e => e) (fun b ps e => ⟨#[], by rw [e]; simp⟩) (fun m hm => ?_) (fun b u e => ?_) I.bare
  · have e : b = it := by simpa using hb
    subst e
    exact ⟨h1, hL, h2, h3⟩
  · obtain ⟨o, es, ep, ho, r⟩ := hm
    exact ⟨o, es, ep, k _ o (Ne.symm hL) ho, r⟩
  · refine (I.hok b u e).stay (fun c v hc q => k c v ?_ q) (fun _ q => q) fun _ _ q => q
    rcases hc with z | z
    · rw [z]; exact nit b u e
    · exact nit c _ z
theorem Inv.tok (I : Inv X pins σ H s) (t : Nat) : Inv X pins σ H { s with toks := t } := I.un (h' := s.heap) (t' := t) Un.refl I.hok
/-- all objects kept -/
theorem Inv.kept {t' : Nat} (I : Inv X pins σ H s) (k : ∀ b u, s.heap.get? b = some u → h'.get? b = some u) : Inv X pins σ H { s with heap := h', toks := t' } := I.un (Un.kept k) (I.hok.kept k)
/-- a new object laid and tracked -/
theorem Inv.laid {a : Addr} {o : HO} {t' : Nat} (I : Inv X pins σ H s) (k : ∀ b u, s.heap.get? b = some u → h'.get? b = some u) (hp : s.heap.objs.size ≤ a) (new : ObjOk X.prog X.w (upd H a o) h' a o) :
    Inv X pins σ (upd H a o) { s with heap := h', toks := t' } := I.un (Un.laid k hp (I.hok.fresh hp)) (I.hok.laid k hp new)
/-- an object written -/
theorem Inv.write {x e : Addr} {o : HO} {t' : Nat} (I : Inv X pins σ H s) (mu : Mut (H x)) (he : e = x ∨ H e = some (.own x)) (k : ∀ b u, b ≠ e → s.heap.get? b = some u → h'.get? b = some u) (heo : ∃ u, h'.get? e = some u)
    (new : ObjOk X.prog X.w (upd H x o) h' x o) : Inv X pins σ (upd H x o) { s with heap := h', toks := t' } := I.un (Un.write mu he k heo) (I.hok.write mu he k heo new)
/-- forgetting slots, pins -/
theorem Inv.weak {σ' : List (Option V)} (I : Inv X pins σ H s) (hl : σ'.length = σ.length) (w : ∀ (i : Nat) v, σ'[i]? = some (some v) → σ[i]? = some (some v)) : Inv X pins σ' H s :=
  ⟨I.ok, I.os, I.bare, I.base, let ⟨m, hn, hl'⟩ := I.loc; ⟨m, hn, fun i x v e1 e2 e3 => hl' i x v e1 (w i v e2) e3⟩, I.cell, I.free, I.freeC, I.pin, I.hok, hl.trans I.len⟩
theorem Inv.pins_of {pins' : List (Addr × Obj)} (I : Inv X pins σ H s) (h : ∀ p ∈ pins', s.heap.get? p.1 = some p.2 ∧ H p.1 = none ∧ p.1 ≠ X.env.locals ∧ p.1 ∉ X.fs ∧ ∀ v, p.2.data ≠ .cell v) : Inv X pins' σ H s :=
  ⟨I.ok, I.os, I.bare, I.base, I.loc, I.cell, I.free, I.freeC, fun p hp => (List.mem_append.mp hp).elim (fun z => I.pin p (List.mem_append_left _ z)) (h p), I.hok, I.len⟩

theorem nodup_ix {N : List Str} (hN : N.Nodup) {i j : Nat} {x : Str} (a : N[i]? = some x) (b : N[j]? = some x) : i = j := by
  obtain ⟨h1, e1⟩ := List.getElem?_eq_some_iff.mp a
  obtain ⟨h2, e2⟩ := List.getElem?_eq_some_iff.mp b
  exact (List.getElem_inj hN).mp (e1.trans e2.symm)

/-- a name is stored; what changed -/
theorem store_ok2 {M : Model} {A : Around} {E : Value → Shared → Prop} {i : Nat} {x : Str} {v : V} {u : Value} {Q : Unit → Shared → Prop} (I : Inv X pins σ H s) (hN : X.N.Nodup) (hi : X.N[i]? = some x) (hx : Loc X.env.scope x) (r : RelV v u)
    (h : ∀ s', Inv X pins (σ.set i (some v)) H s' → (∃ a, Heap.SameBut a s.heap s'.heap ∧ (a = X.env.locals ∨ X.env.cells.lookup x = some a)) → Q () s') (hf : X.fn x = true ∨ X.env.scope.names.lookup x = some .local := by first | exact .inl rfl | exact .inr rfl | assumption) : wpAny M A (storeName X.env x u) Q E s := by
  obtain ⟨m, hn, hl⟩ := id I.loc
  have hcls : (X.env.scope.kind == .class || (X.env.scope.kind == .module && X.env.locals != X.env.globals)) = false := by rw [I.ok.kind]; rfl
  have hiσ : i < σ.length := by rw [I.len]; exact (List.getElem?_eq_some_iff.mp hi).1
  have cne := I.cne
  have tracked : ∀ {a : Addr} {h' : Heap}, (∃ o, s.heap.get? a = some o ∧ H a = none) → Heap.SameBut a s.heap h' → HOk X.prog X.w H h' := fun {a h'} ha hs b ob e => by
    obtain ⟨_, _, hfree⟩ := ha
    refine (I.hok b ob e).stay (fun c w' hc q => (hs.2 c ?_).trans q) (fun _ q => q) fun _ _ q => q
    rintro rfl
    rcases hc with rfl | hc
    · rw [hfree] at e; cases e
    · rw [hfree] at hc; cases hc
  rcases hx with hk | hk
  · refine wpAny_storeName_local hk hn (fun h' hn' hs => ?_) hcls
    obtain ⟨oL, _, _, hoL, _⟩ := id hn
    refine h _ ⟨I.ok, I.os, I.bare, ⟨fun b o e n hb hx => ?_, fun b o e n hb hx => ?_, I.base.free, fun b o e hx => ?_, I.base.tups, I.base.frzs, I.base.tbls⟩, ⟨_, hn', fun j y v' e1 e2 e3 => ?_⟩, fun y c e => ?_, I.free, I.freeC, fun p hp => ?_, tracked ⟨oL, hoL, I.free⟩ hs, by simpa using I.len⟩ ⟨_, hs, .inl rfl⟩
    · exact (hs.2 b (Nat.ne_of_lt (Nat.lt_of_lt_of_le (Heap.lt_size e) I.ok.above))).trans (I.base.keep b o e n hb hx)
    · obtain ⟨sl, e1⟩ := I.base.slot b o e n hb hx
      exact ⟨sl, (hs.2 b (Nat.ne_of_lt (Nat.lt_of_lt_of_le (Heap.lt_size e) I.ok.above))).trans e1⟩
    · obtain ⟨o', e1⟩ := I.base.there b o e hx
      exact ⟨o', (hs.2 b (Nat.ne_of_lt (Nat.lt_of_lt_of_le (Heap.lt_size e) I.ok.above))).trans e1⟩
    · by_cases hj : j = i
      · subst hj
        rw [hi] at e1; cases e1
        rw [List.getElem?_set_self hiσ] at e2
        cases e2
        exact ⟨u, r, .inl ⟨hk, by simp⟩⟩
      · rw [List.getElem?_set_ne (Ne.symm hj)] at e2
        obtain ⟨u', r', q⟩ := hl j y v' e1 e2 e3
        refine ⟨u', r', ?_⟩
        rcases q with ⟨k, e⟩ | ⟨k, c, e, z⟩
        · refine .inl ⟨k, ?_⟩
          have : y ≠ x := fun e => hj (nodup_ix hN e1 (e ▸ hi))
          simp [this, e]
        · exact .inr ⟨k, c, e, z.sameBut hs (cne y c e)⟩
    · obtain ⟨w', z⟩ := I.cell y c e
      exact ⟨w', z.sameBut hs (cne y c e)⟩
    · obtain ⟨e, n, ne, nf, d⟩ := I.pin p hp
      exact ⟨(hs.2 p.1 ne).trans e, n, ne, nf, d⟩
  · have hfn : X.fn x = true := by
      rcases hf with z | z
      · exact z
      · rw [z] at hk; cases hk
    obtain ⟨c, hc⟩ := I.ok.has x (.inl hk)
    obtain ⟨w', z⟩ := I.cell x c hc
    refine wpAny_storeName_cell I.ok.kind hk hc z (fun h' hc' hs => ?_)
    obtain ⟨oc, hoc, hocd⟩ := id z
    refine h { s with heap := h' } ⟨I.ok, I.os, I.bare, ⟨fun b o e n hb hx => ?_, fun b o e n hb hx => ?_, I.base.free, fun b o e hx => ?_, I.base.tups, I.base.frzs, I.base.tbls⟩, ⟨m, hn.sameBut hs (Ne.symm (cne x c hc)), fun j y v' e1 e2 e3 => ?_⟩, fun y c' e => ?_, I.free, I.freeC, fun p hp => ?_, tracked ⟨oc, hoc, I.freeC x c hc⟩ hs, by simpa using I.len⟩ ⟨c, hs, .inr hc⟩
    · exact (hs.2 b (Nat.ne_of_lt (Nat.lt_of_lt_of_le (Heap.lt_size e) (I.ok.cab x c hfn hc)))).trans (I.base.keep b o e n hb hx)
    · obtain ⟨sl, e1⟩ := I.base.slot b o e n hb hx
      exact ⟨sl, (hs.2 b (Nat.ne_of_lt (Nat.lt_of_lt_of_le (Heap.lt_size e) (I.ok.cab x c hfn hc)))).trans e1⟩
    · obtain ⟨o', e1⟩ := I.base.there b o e hx
      exact ⟨o', (hs.2 b (Nat.ne_of_lt (Nat.lt_of_lt_of_le (Heap.lt_size e) (I.ok.cab x c hfn hc)))).trans e1⟩
    · by_cases hj : j = i
      · subst hj
        rw [hi] at e1; cases e1
        rw [List.getElem?_set_self hiσ] at e2
        cases e2
        exact ⟨u, r, .inr ⟨.inl hk, c, hc, hc'⟩⟩
      · rw [List.getElem?_set_ne (Ne.symm hj)] at e2
        obtain ⟨u', r', q⟩ := hl j y v' e1 e2 e3
        refine ⟨u', r', ?_⟩
        rcases q with q | ⟨k, c', e, z'⟩
        · exact .inl q
        · refine .inr ⟨k, c', e, z'.sameBut hs ?_⟩
          rintro rfl
          exact hj (nodup_ix hN e1 (I.ok.inj _ _ _ e hc ▸ hi))
    · by_cases hcc : c' = c
      · subst hcc; exact ⟨_, hc'⟩
      · obtain ⟨w2, z2⟩ := I.cell y c' e
        exact ⟨w2, z2.sameBut hs hcc⟩
    · obtain ⟨e, n, ne, nf, d⟩ := I.pin p hp
      refine ⟨(hs.2 p.1 ?_).trans e, n, ne, nf, d⟩
      intro q
      rw [q, hoc] at e
      have q' : oc = p.2 := Option.some.inj e
      exact d w' (by rw [← q']; exact hocd)
theorem store_ok {M : Model} {A : Around} {E : Value → Shared → Prop} {i : Nat} {x : Str} {v : V} {u : Value} {Q : Unit → Shared → Prop} (I : Inv X pins σ H s) (hN : X.N.Nodup) (hi : X.N[i]? = some x) (hx : Loc X.env.scope x) (r : RelV v u)
    (h : ∀ s', Inv X pins (σ.set i (some v)) H s' → Q () s') (hf : X.fn x = true ∨ X.env.scope.names.lookup x = some .local := by first | exact .inl rfl | exact .inr rfl | assumption) : wpAny M A (storeName X.env x u) Q E s :=
  store_ok2 I hN hi hx r (fun s' I' _ => h s' I') hf
/-- behind a call or a block, the state as it is -/
theorem Inv.call' {s' : Shared} {ch : List Addr} (I : Inv X pins σ H s) (ho : s'.os = s.os) (u : Un (frs X.stack) ch H H' s.heap s'.heap) (hok : HOk X.prog X.w H' s'.heap) (hg : AllBare s'.gens)
    (hch : ∀ b ∈ ch, (b ∈ X.ex ∨ X.s₀.heap.objs.size ≤ b) ∧ b ≠ X.env.locals ∧ (∀ x c, X.env.cells.lookup x = some c → c ≠ b) ∧ ∀ p ∈ X.pn ++ pins, p.1 ≠ b) : Inv X pins σ H' s' := by
  obtain ⟨h', g', d', t', o'⟩ := s'
  have e : o' = s.os := ho
  subst e
  exact I.call (g' := g') (t' := t') (d' := d') u hok hg hch
end

/-! ### the judgements -/
/-- an exception: its class, its own dict's address (where it has one), the abstract heap behind it -/
abbrev XK := Value → Option Addr → Hp → Prop
abbrev St := List (Option V)
abbrev VK := V → Hp → Prop
/-- an expression's reading; a test's; an argument list's -/
abbrev TE := St → Hp → VK → Prop
abbrev TT := St → Hp → (Bool → Hp → Prop) → Prop
abbrev TA := St → Hp → (List V → Hp → Prop) → Prop
/-- what is wanted behind a statement -/
structure Ends where
  nx : St → Hp → Prop
  rt : VK
  bk : St → Hp → Prop := fun _ _ => False
  ct : St → Hp → Prop := fun _ _ => False
abbrev TS := Ends → St → Hp → Prop

def EP (X : Cx) (pins : List (Addr × Obj)) (σ : St) (Q : VK) (u : Value) (s' : Shared) : Prop := ∃ v H', Inv X pins σ H' s' ∧ RelV v u ∧ Q v H'
def TP (X : Cx) (pins : List (Addr × Obj)) (σ : St) (Q : Bool → Hp → Prop) (b : Bool) (s' : Shared) : Prop := ∃ H', Inv X pins σ H' s' ∧ Q b H'
def AP (X : Cx) (pins : List (Addr × Obj)) (σ : St) (Q : List V → Hp → Prop) (us : List Value) (s' : Shared) : Prop := ∃ vs H', Inv X pins σ H' s' ∧ Vals vs us ∧ Q vs H'
def SP (X : Cx) (pins : List (Addr × Obj)) (D : Ends) (f : Flow) (s' : Shared) : Prop :=
  match f with
  | .next => ∃ σ' H', Inv X pins σ' H' s' ∧ D.nx σ' H'
  | .brk => ∃ σ' H', Inv X pins σ' H' s' ∧ D.bk σ' H'
  | .cont => ∃ σ' H', Inv X pins σ' H' s' ∧ D.ct σ' H'
  | .ret u => ∃ v σ' H', Inv X pins σ' H' s' ∧ RelV v u ∧ D.rt v H'

def PE (X : Cx) (e : Expr) (t : TE) : Prop :=
  ∀ (pins : List (Addr × Obj)) (s : Shared) (σ : St) (H : Hp) (Q : VK), Inv X pins σ H s → t σ H Q → wpAny (model X.prog X.w) X.A (eval e X.env) (EP X pins σ Q) X.xe s
def PT (X : Cx) (e : Expr) (t : TT) : Prop :=
  ∀ (pins : List (Addr × Obj)) (s : Shared) (σ : St) (H : Hp) (Q : Bool → Hp → Prop), Inv X pins σ H s → t σ H Q → wpAny (model X.prog X.w) X.A (isTrue e X.env (eval e X.env)) (TP X pins σ Q) X.xe s
/-- a test whatever its 'whole' is (and, or) -/
def PW (X : Cx) (e : Expr) (t : TT) : Prop :=
  ∀ (whole : Sem Value) (pins : List (Addr × Obj)) (s : Shared) (σ : St) (H : Hp) (Q : Bool → Hp → Prop), Inv X pins σ H s → t σ H Q → wpAny (model X.prog X.w) X.A (isTrue e X.env whole) (TP X pins σ Q) X.xe s
theorem PW.pt {X : Cx} {e : Expr} {t : TT} (h : PW X e t) : PT X e t := h _
/-- an argument list (no star), from the left -/
def PA (X : Cx) (es : List Expr) (t : TA) : Prop :=
  ∀ (pos : Pos) (pins : List (Addr × Obj)) (s : Shared) (σ : St) (H : Hp) (Q : List V → Hp → Prop), Inv X pins σ H s → t σ H Q → wpAny (model X.prog X.w) X.A (spliced (backTo pos (starEach es X.env))) (AP X pins σ Q) X.xe s
def PS (X : Cx) (st : Stmt) (t : TS) : Prop :=
  ∀ (pins : List (Addr × Obj)) (s : Shared) (σ : St) (H : Hp) (D : Ends), Inv X pins σ H s → t D σ H → wpAny (model X.prog X.w) X.A (exec st X.env) (SP X pins D) X.xe s
def PSs (X : Cx) (st : List Stmt) (t : TS) : Prop :=
  ∀ (pins : List (Addr × Obj)) (s : Shared) (σ : St) (H : Hp) (D : Ends), Inv X pins σ H s → t D σ H → wpAny (model X.prog X.w) X.A (execs st X.env) (SP X pins D) X.xe s
/-- weaken the end -/
theorem thn {α : Type} {t : Sem α} {Q Q' : α → Shared → Prop} {M : Model} {A : Around} {E : Value → Shared → Prop} {s : Shared} (h : wpAny M A t Q E s) (hQ : ∀ a s, Q a s → Q' a s) : wpAny M A t Q' E s := wpAny_mono h hQ fun _ _ x => x
end L2

namespace L2
open PySem PySem.Spec PyProof.Rows
section
variable {X : Cx}

/-- two expressions in a row -/
theorem bin {a b : Expr} {ta tb : TE} (ha : PE X a ta) (hb : PE X b tb) {pins : List (Addr × Obj)} {s : Shared} {σ : St} {H : Hp} {R : V → V → Hp → Prop} (I : Inv X pins σ H s) (h : ta σ H fun x H1 => tb σ H1 fun y H2 => R x y H2)
    {α : Type} {Q : α → Shared → Prop} {f : Value → Value → Sem α}
    (hf : ∀ v u s2 x y H2, Inv X pins σ H2 s2 → RelV x v → RelV y u → R x y H2 → wpAny (model X.prog X.w) X.A (f v u) Q X.xe s2) :
    wpAny (model X.prog X.w) X.A (eval a X.env) (fun v s₁ => wpAny (model X.prog X.w) X.A (eval b X.env) (fun u s₂ => wpAny (model X.prog X.w) X.A (f v u) Q X.xe s₂) X.xe s₁) X.xe s := by
  refine thn (ha pins s σ H _ I h) fun v s1 ⟨x, H1, I1, r1, q1⟩ => ?_
  refine thn (hb pins s1 σ H1 _ I1 q1) fun u s2 ⟨y, H2, I2, r2, q2⟩ => ?_
  exact hf v u s2 x y H2 I2 r1 r2 q2

/-! ### names and constants -/
def tVar (i : Nat) : TE := fun σ H Q => ∃ v, σ[i]? = some (some v) ∧ Q v H
def tC (v : V) : TE := fun _ H Q => Q v H
theorem pe_var {i : Nat} {x : Str} {pos : Pos} (hN : X.N[i]? = some x) (hv : Vis X.env.scope x) (hd : (x == ("__debug__" : Str)) = false := by decide) (hcd : (x == ("__classdict__" : Str)) = false := by decide) : PE X (.Name x pos) (tVar i) := by
  intro pins s σ H Q I h
  obtain ⟨v, e, h⟩ := h
  obtain ⟨m, hn, hl⟩ := I.loc
  obtain ⟨u, r, l⟩ := hl i x v hN e hv
  have fin : EP X pins σ Q u s := ⟨v, H, I, r, h⟩
  rcases l with ⟨hk, hm⟩ | ⟨hk, c, hc, hcell⟩
  · exact wpAny_Name (wpAny_loadName_local I.ok.kind hk hn hm fin) hd
  · rcases hk with hk | hk
    · exact wpAny_Name (wpAny_loadName_cell I.ok.kind hk hc hcell fin) hd
    · exact wpAny_Name (wpAny_loadName_free I.ok.kind hk hc hcell fin hcd) hd
theorem pe_int {i j pos} : PE X (.Constant (.int i) j pos) (tC (.int i)) := fun _ _ _ H _ I h => wpAny_Constant_int ⟨.int i, H, I.tok _, ⟨_, rfl⟩, h⟩
theorem pe_bl {b j pos} : PE X (.Constant (.bool b) j pos) (tC (.bl b)) := fun _ _ _ H _ I h => Constant_bool ⟨.bl b, H, I, rfl, h⟩
theorem pe_non {j pos} : PE X (.Constant .none j pos) (tC .non) := fun _ _ _ H _ I h => Constant_none ⟨.non, H, I, rfl, h⟩
theorem pe_str {x j pos} : PE X (.Constant (.str x) j pos) (tC (.str x)) := fun _ _ _ H _ I h => Calls.Constant_str ⟨.str x, H, I.tok _, ⟨_, rfl⟩, h⟩

/-- a global name of the def -/
def Gl (X : Cx) (x : Str) : Prop := X.env.kindOf x = some .globalImplicit
theorem ld_glob {E : Value → Shared → Prop} {pins : List (Addr × Obj)} {s : Shared} {σ : St} {H : Hp} {x : Str} {u : Value} {pos : Pos} {Q : Value → Shared → Prop} (I : Inv X pins σ H s) (hg : Gl X x) (hm : X.mg x = some u) (h : Q u s)
    (hd : (x == ("__debug__" : Str)) = false := by decide) : wpAny (model X.prog X.w) X.A (eval (.Name x pos) X.env) Q E s :=
  Calls.Name_function_global I.ok.kind hg (Calls.loadGlobal_global (by rw [I.ok.glob]; exact I.mod.glob.keeps I.bk) hm h) hd
theorem ld_blt {E : Value → Shared → Prop} {pins : List (Addr × Obj)} {s : Shared} {σ : St} {H : Hp} {x : Str} {u : Value} {pos : Pos} {Q : Value → Shared → Prop} (I : Inv X pins σ H s) (hg : Gl X x) (hm : X.mg x = none) (hv : bootBuiltins x = some u) (h : Q u s)
    (hn : x ≠ "__name__" := by decide) (hd : (x == ("__debug__" : Str)) = false := by decide) : wpAny (model X.prog X.w) X.A (eval (.Name x pos) X.env) Q E s := by
  obtain ⟨mb, h1, h2⟩ := I.mod.blt
  exact Calls.Name_function_global I.ok.kind hg (Calls.loadGlobal_builtin (by rw [I.ok.glob]; exact I.mod.glob.keeps I.bk) hm (by rw [I.ok.blt]; exact h1.keeps I.bk) ((h2 x hn).trans hv) h) hd
/-- a module's constant, a class, a function, as a value -/
theorem pe_glob {x : Str} {v : V} {u : Value} {pos : Pos} (hg : Gl X x) (hm : X.mg x = some u) (r : RelV v u) (hd : (x == ("__debug__" : Str)) = false := by decide) : PE X (.Name x pos) (tC v) :=
  fun _ _ _ H _ I h => ld_glob I hg hm ⟨v, H, I, r, h⟩ hd
theorem pe_bltn {x : Str} {v : V} {u : Value} {pos : Pos} (hg : Gl X x) (hm : X.mg x = none) (hv : bootBuiltins x = some u) (r : RelV v u) (hn : x ≠ "__name__" := by decide) (hd : (x == ("__debug__" : Str)) = false := by decide) : PE X (.Name x pos) (tC v) :=
  fun _ _ _ H _ I h => ld_blt I hg hm hv ⟨v, H, I, r, h⟩ hn hd

/-! ### arithmetic -/
/-- two ints -/
def t2I (ta tb : TE) (k : Int → Int → Hp → Prop) : St → Hp → Prop := fun σ H => ta σ H fun x H1 => tb σ H1 fun y H2 => ∃ i j, x = .int i ∧ y = .int j ∧ k i j H2
def tAdd (ta tb : TE) : TE := fun σ H Q => t2I ta tb (fun i j H2 => Q (.int (i + j)) H2) σ H
def tSub (ta tb : TE) : TE := fun σ H Q => t2I ta tb (fun i j H2 => Q (.int (i - j)) H2) σ H
/-- the left factor below 2^64 -/
def tMul (ta tb : TE) : TE := fun σ H Q => t2I ta tb (fun i j H2 => (-(2 ^ 64) < i ∧ i < 2 ^ 64) ∧ Q (.int (i * j)) H2) σ H
variable {a b : Expr} {ta tb : TE} {pos : Pos}
theorem pe_add (ha : PE X a ta) (hb : PE X b tb) : PE X (.BinOp a .Add b pos) (tAdd ta tb) := by
  intro pins s σ H Q I h
  refine wpAny_BinOp (bin ha hb I h fun v u s2 x y H2 I2 rx ry q => ?_)
  obtain ⟨i, j, rfl, rfl, q⟩ := q
  obtain ⟨t, rfl⟩ := rx
  obtain ⟨t', rfl⟩ := ry
  exact add_int ⟨.int _, H2, I2.tok _, ⟨_, rfl⟩, q⟩
theorem pe_sub (ha : PE X a ta) (hb : PE X b tb) : PE X (.BinOp a .Sub b pos) (tSub ta tb) := by
  intro pins s σ H Q I h
  refine wpAny_BinOp (bin ha hb I h fun v u s2 x y H2 I2 rx ry q => ?_)
  obtain ⟨i, j, rfl, rfl, q⟩ := q
  obtain ⟨t, rfl⟩ := rx
  obtain ⟨t', rfl⟩ := ry
  exact sub_int ⟨.int _, H2, I2.tok _, ⟨_, rfl⟩, q⟩
theorem pe_mul (ha : PE X a ta) (hb : PE X b tb) : PE X (.BinOp a .Mult b pos) (tMul ta tb) := by
  intro pins s σ H Q I h
  refine wpAny_BinOp (bin ha hb I h fun v u s2 x y H2 I2 rx ry q => ?_)
  obtain ⟨i, j, rfl, rfl, ⟨q1, q2⟩, q⟩ := q
  obtain ⟨t, rfl⟩ := rx
  obtain ⟨t', rfl⟩ := ry
  exact mul_int ⟨.int _, H2, I2.tok _, ⟨_, rfl⟩, q⟩ (.of_left (intBits_le_64 q1 q2))

/-! ### comparisons -/
def PC (X : Cx) (op : CmpOp) (a b : Expr) (t : TE) : Prop :=
  ∀ (pins : List (Addr × Obj)) (s : Shared) (σ : St) (H : Hp) (Q : VK), Inv X pins σ H s → t σ H Q →
    wpAny (model X.prog X.w) X.A (eval a X.env) (fun v s₁ => wpAny (model X.prog X.w) X.A (eval b X.env) (fun u s₂ => wpAny (model X.prog X.w) X.A (compareOp op v u) (EP X pins σ Q) X.xe s₂) X.xe s₁) X.xe s
theorem nobehind (b : Expr) {op : CmpOp} (h : op ≠ .In) (h2 : op ≠ .NotIn) : behindInMarks op b = false := by
  have e1 : (op == CmpOp.In) = false := by cases op <;> first | rfl | exact absurd rfl h
  have e2 : (op == CmpOp.NotIn) = false := by cases op <;> first | rfl | exact absurd rfl h2
  cases b <;> simp [behindInMarks, e1, e2]
def tCmp (p : Int → Int → Bool) (ta tb : TE) : TE := fun σ H Q => t2I ta tb (fun i j H2 => Q (.bl (p i j)) H2) σ H
abbrev tLt : TE → TE → TE := tCmp fun i j => decide (i < j)
abbrev tLe : TE → TE → TE := tCmp fun i j => decide (i ≤ j)
abbrev tGt : TE → TE → TE := tCmp fun i j => decide (j < i)
abbrev tGe : TE → TE → TE := tCmp fun i j => decide (j ≤ i)
abbrev tEqI : TE → TE → TE := tCmp fun i j => decide (i = j)
abbrev tNeI : TE → TE → TE := tCmp fun i j => !decide (i = j)
/-- a comparison of two ints, by its rule -/
theorem pc_int {op : CmpOp} {p : Int → Int → Bool} (ha : PE X a ta) (hb : PE X b tb)
    (rule : ∀ (i j : Int) (t u : Tok) (Q : Value → Shared → Prop) (s : Shared), Q (.bool (p i j)) s → wpAny (model X.prog X.w) X.A (compareOp op (.int i t) (.int j u)) Q X.xe s) : PC X op a b (tCmp p ta tb) := by
  intro pins s σ H Q I h
  refine bin ha hb I h fun v u s2 x y H2 I2 rx ry q => ?_
  obtain ⟨i, j, rfl, rfl, q⟩ := q
  obtain ⟨t, rfl⟩ := rx
  obtain ⟨t', rfl⟩ := ry
  exact rule i j t t' _ s2 ⟨.bl _, H2, I2, rfl, q⟩
theorem pc_lt (ha : PE X a ta) (hb : PE X b tb) : PC X .Lt a b (tLt ta tb) := pc_int ha hb fun _ _ _ _ _ _ h => lt_int h
theorem pc_le (ha : PE X a ta) (hb : PE X b tb) : PC X .LtE a b (tLe ta tb) := pc_int ha hb fun _ _ _ _ _ _ h => le_int h
theorem pc_gt (ha : PE X a ta) (hb : PE X b tb) : PC X .Gt a b (tGt ta tb) := pc_int ha hb fun _ _ _ _ _ _ h => gt_int h
theorem pc_ge (ha : PE X a ta) (hb : PE X b tb) : PC X .GtE a b (tGe ta tb) := pc_int ha hb fun _ _ _ _ _ _ h => ge_int h
theorem pc_eqI (ha : PE X a ta) (hb : PE X b tb) : PC X .Eq a b (tEqI ta tb) := pc_int ha hb fun _ _ _ _ _ _ h => eq_int (by rw [Bool.beq_eq_decide_eq]; exact h)
theorem pc_neI (ha : PE X a ta) (hb : PE X b tb) : PC X .NotEq a b (tNeI ta tb) := pc_int ha hb fun _ _ _ _ _ _ h => ne_int (by rw [bne, Bool.beq_eq_decide_eq]; exact h)
/-- is None -/
def tIsN (ta : TE) : TE := fun σ H Q => ta σ H fun x H1 => Q (.bl (decide (x = .non))) H1
def tNotN (ta : TE) : TE := fun σ H Q => ta σ H fun x H1 => Q (.bl (!decide (x = .non))) H1
theorem RelV.none_iff {x : V} {v : Value} (r : RelV x v) : (v == Value.none) = decide (x = .non) := by
  cases x with
  | non => cases r; rfl
  | bl _ => cases r; rfl
  | int _ => obtain ⟨t, rfl⟩ := r; rfl
  | str _ => obtain ⟨t, rfl⟩ := r; rfl
  | byt _ => obtain ⟨t, rfl⟩ := r; rfl
  | flt _ => obtain ⟨t, rfl⟩ := r; rfl
  | ref _ => cases r; rfl
  | ty _ => cases r; rfl
theorem pc_isN {j pos'} (ha : PE X a ta) : PC X .Is a (.Constant .none j pos') (tIsN ta) := by
  intro pins s σ H Q I h
  refine thn (ha pins s σ H _ I h) fun v s1 ⟨x, H1, I1, r1, q1⟩ => ?_
  exact Constant_none (is_none_gen ⟨.bl _, H1, I1, by rw [r1.none_iff]; rfl, q1⟩)
theorem pc_notN {j pos'} (ha : PE X a ta) : PC X .IsNot a (.Constant .none j pos') (tNotN ta) := by
  intro pins s σ H Q I h
  refine thn (ha pins s σ H _ I h) fun v s1 ⟨x, H1, I1, r1, q1⟩ => ?_
  exact Constant_none (isnot_none_gen ⟨.bl _, H1, I1, by rw [r1.none_iff]; rfl, q1⟩)
/-- a comparison as a value, as a test -/
def tB (t : TE) : TT := fun σ H Q => t σ H fun x H1 => ∃ c, x = .bl c ∧ Q c H1
theorem pe_cmp {op : CmpOp} {t : TE} (h : PC X op a b t) (h1 : behindInMarks op b = false := by first | exact nobehind _ (by decide) (by decide) | rfl) : PE X (.Compare a [op] [b] pos) t := fun pins s σ H Q I hw => wpAny_Compare1 (h pins s σ H Q I hw) h1
theorem pt_cmp {op : CmpOp} {t : TE} (h : PC X op a b t) (h1 : behindInMarks op b = false := by first | exact nobehind _ (by decide) (by decide) | rfl) : PT X (.Compare a [op] [b] pos) (tB t) := by
  intro pins s σ H Q I hw
  refine wpAny_isTrue_Compare1 (thn (h pins s σ H _ I hw) fun v s1 h1 => thn h1 fun u s2 h2 => thn h2 fun c s3 ⟨x, H1, I1, r1, q1⟩ => ?_) h1
  obtain ⟨d, rfl, q⟩ := q1
  cases r1
  exact wpAny_truthy_bool ⟨H1, I1, q⟩
/-- an expression whose value is a bool, as a test -/
theorem pt_val {e : Expr} {t : TE} (h : PE X e t) (he : ∀ whole, isTrue e X.env whole = (do let v ← whole; standAt e.pos; holding [v] (truthy v)) := by intro _; rfl) : PT X e (tB t) := by
  intro pins s σ H Q I hw
  refine isTrue_plain (thn (h pins s σ H _ I hw) fun v s1 ⟨x, H1, I1, r1, q1⟩ => ?_) (he _)
  obtain ⟨d, rfl, q⟩ := q1
  cases r1
  exact wpAny_truthy_bool ⟨H1, I1, q⟩

/-! ### and, or, not -/
variable {tA tB' : TT} {rest : List Expr}
def tAnd (t u : TT) : TT := fun σ H Q => t σ H fun c H1 => if c = true then u σ H1 Q else Q false H1
def tOr (t u : TT) : TT := fun σ H Q => t σ H fun c H1 => if c = true then Q true H1 else u σ H1 Q
def tNot (t : TT) : TT := fun σ H Q => t σ H fun c H1 => Q (!c) H1
theorem pw_and1 (ha : PT X a tA) : PW X (.BoolOp .And [a] pos) tA := by
  intro wh pins s σ H Q I h
  refine isTrue_and (thn (ha pins s σ H Q I h) fun c s1 e => ?_)
  cases c with
  | true => exact isTrue_and_nil e
  | false => exact e
theorem pw_or1 (ha : PT X a tA) : PW X (.BoolOp .Or [a] pos) tA := by
  intro wh pins s σ H Q I h
  refine isTrue_or (thn (ha pins s σ H Q I h) fun c s1 e => ?_)
  cases c with
  | false => exact isTrue_or_nil e
  | true => exact e
theorem pw_and (ha : PT X a tA) (hb : PW X (.BoolOp .And (b :: rest) pos) tB') : PW X (.BoolOp .And (a :: b :: rest) pos) (tAnd tA tB') := by
  intro wh pins s σ H Q I h
  refine isTrue_and (thn (ha pins s σ H _ I h) fun c s1 ⟨H1, I1, q1⟩ => ?_)
  cases c with
  | true => exact hb wh pins s1 σ H1 Q I1 q1
  | false => exact ⟨H1, I1, q1⟩
theorem pw_or (ha : PT X a tA) (hb : PW X (.BoolOp .Or (b :: rest) pos) tB') : PW X (.BoolOp .Or (a :: b :: rest) pos) (tOr tA tB') := by
  intro wh pins s σ H Q I h
  refine isTrue_or (thn (ha pins s σ H _ I h) fun c s1 ⟨H1, I1, q1⟩ => ?_)
  cases c with
  | true => exact ⟨H1, I1, q1⟩
  | false => exact hb wh pins s1 σ H1 Q I1 q1
theorem pt_not (ha : PT X a tA) : PT X (.UnaryOp .Not a pos) (tNot tA) := by
  intro pins s σ H Q I h
  exact isTrue_not (ha pins s σ H (fun c H1 => Q (!c) H1) I h)
/-- .. as values (bools) -/
def tAndV (ta tb : TE) : TE := fun σ H Q => ta σ H fun x H1 => ∃ c, x = .bl c ∧ if c = true then tb σ H1 Q else Q (.bl false) H1
def tOrV (ta tb : TE) : TE := fun σ H Q => ta σ H fun x H1 => ∃ c, x = .bl c ∧ if c = true then Q (.bl true) H1 else tb σ H1 Q
def tNotV (ta : TE) : TE := fun σ H Q => ta σ H fun x H1 => ∃ c, x = .bl c ∧ Q (.bl (!c)) H1
theorem pe_one {op} {t : TE} (h : PE X a t) : PE X (.BoolOp op [a] pos) t := fun pins s σ H Q I hw => BoolOp_one (h pins s σ H Q I hw)
theorem pe_and (ha : PE X a ta) (hb : PE X (.BoolOp .And (b :: rest) pos) tb) : PE X (.BoolOp .And (a :: b :: rest) pos) (tAndV ta tb) := by
  intro pins s σ H Q I h
  refine BoolOp_and (thn (ha pins s σ H _ I h) fun v s1 ⟨x, H1, I1, r1, q1⟩ => ?_)
  obtain ⟨c, rfl, q1⟩ := q1
  cases r1
  refine wpAny_truthy_bool ?_
  cases c with
  | true => exact hb pins s1 σ H1 Q I1 q1
  | false => exact ⟨.bl false, H1, I1, rfl, q1⟩
theorem pe_or (ha : PE X a ta) (hb : PE X (.BoolOp .Or (b :: rest) pos) tb) : PE X (.BoolOp .Or (a :: b :: rest) pos) (tOrV ta tb) := by
  intro pins s σ H Q I h
  refine BoolOp_or (thn (ha pins s σ H _ I h) fun v s1 ⟨x, H1, I1, r1, q1⟩ => ?_)
  obtain ⟨c, rfl, q1⟩ := q1
  cases r1
  refine wpAny_truthy_bool ?_
  cases c with
  | false => exact hb pins s1 σ H1 Q I1 q1
  | true => exact ⟨.bl true, H1, I1, rfl, q1⟩
theorem pe_not (ha : PE X a ta) : PE X (.UnaryOp .Not a pos) (tNotV ta) := by
  intro pins s σ H Q I h
  refine UnaryOp_ (thn (ha pins s σ H _ I h) fun v s1 ⟨x, H1, I1, r1, q1⟩ => ?_)
  obtain ⟨c, rfl, q1⟩ := q1
  cases r1
  exact not_of (wpAny_truthy_bool ⟨.bl (!c), H1, I1, rfl, q1⟩)
/-- a if t else b -/
def tIf (t : TT) (ta tb : TE) : TE := fun σ H Q => t σ H fun c H1 => if c = true then ta σ H1 Q else tb σ H1 Q
theorem pe_ifExp {c : Expr} (hc : PT X c tA) (ha : PE X a ta) (hb : PE X b tb) : PE X (.IfExp c a b pos) (tIf tA ta tb) := by
  intro pins s σ H Q I h
  refine wpAny_IfExp (thn (hc pins s σ H _ I h) fun d s1 ⟨H1, I1, q1⟩ => ?_)
  cases d with
  | true => exact ha pins s1 σ H1 Q I1 q1
  | false => exact hb pins s1 σ H1 Q I1 q1
end
end L2

namespace L2
open PySem PySem.Spec PyProof.Rows

/-! ### a list, a tuple that is read: tracked, frozen, or an object of the module -/
def SqL (K : PySem.W.Frag) (H : Hp) (a : Addr) (xs : List V) : Prop :=
  Rd H a (.lst xs) ∨
    ∃ (o : Obj) (its : Array Value) (n : Nat), K.lookup a = some o ∧ o.cls = .type "list" ∧ o.dict = none ∧ o.data = .seq its n ∧ its.size ≤ sizeLine ∧ Vals xs its.toList
def SqT (K : PySem.W.Frag) (H : Hp) (a : Addr) (xs : List V) : Prop :=
  Rd H a (.tup xs) ∨
    ∃ (o : Obj) (its : Array Value) (n : Nat), K.lookup a = some o ∧ o.cls = .type "tuple" ∧ o.data = .seq its n ∧ its.size ≤ sizeLine ∧ Vals xs its.toList
def absV : Value → Option V
  | .none => some .non
  | .bool b => some (.bl b)
  | .int i _ => some (.int i)
  | .str x _ => some (.str x)
  | .bytes b _ => some (.byt b)
  | .float b _ => some (.flt b)
  | .ref a => some (.ref a)
  | .type n => some (.ty n)
  | _ => none
theorem RelV.abs {x : V} {u : Value} (r : RelV x u) : absV u = some x := by
  cases x with
  | non => cases r; rfl
  | bl _ => cases r; rfl
  | int _ => obtain ⟨t, rfl⟩ := r; rfl
  | str _ => obtain ⟨t, rfl⟩ := r; rfl
  | byt _ => obtain ⟨t, rfl⟩ := r; rfl
  | flt _ => obtain ⟨t, rfl⟩ := r; rfl
  | ref _ => cases r; rfl
  | ty _ => cases r; rfl
theorem RelV.inj {x y : V} {u : Value} (r : RelV x u) (q : RelV y u) : x = y := Option.some.inj (r.abs.symm.trans q.abs)
theorem Vals.inj : ∀ {xs ys : List V} {us : List Value}, Vals xs us → Vals ys us → xs = ys
  | _, _, _, .nil, .nil => rfl
  | _, _, _, .cons r t, .cons r' t' => by rw [r.inj r', Vals.inj t t']
section
variable {X : Cx} {pins : List (Addr × Obj)} {σ : St} {H : Hp} {s : Shared} {a : Addr} {xs ys : List V}
theorem SqL.of {K : PySem.W.Frag} (h : H a = some (.lst xs)) : SqL K H a xs := .inl (.inl h)
theorem SqT.of {K : PySem.W.Frag} (h : H a = some (.tup xs)) : SqT K H a xs := .inl (.inl h)
theorem Inv.list (I : Inv X pins σ H s) (h : SqL X.K H a xs) : ∃ its : List Value, Vals xs its ∧ PlainL s.heap a its.toArray ∧ xs.length ≤ sizeLine := by
  rcases h with h | ⟨o, its, n, hk, hc, hd, hs, hz, r⟩
  · obtain ⟨z, its, n, r, e⟩ := h.ok I.hok
    exact ⟨its, r, ⟨_, n, e, rfl, rfl, rfl⟩, z⟩
  · refine ⟨its.toList, r, ⟨o, n, I.kIn a o hk, hc, hd, by simpa using hs⟩, ?_⟩
    have e := r.length
    simp only [Array.length_toList] at e
    omega
theorem Inv.tuple (I : Inv X pins σ H s) (h : SqT X.K H a xs) : ∃ its : List Value, Vals xs its ∧ IsTup s.heap a its.toArray ∧ xs.length ≤ sizeLine := by
  rcases h with h | ⟨o, its, n, hk, hc, hs, hz, r⟩
  · obtain ⟨z, its, r, p⟩ := h.ok I.hok
    exact ⟨its, r, p, z⟩
  · refine ⟨its.toList, r, ⟨o, I.kIn a o hk, hc, n, by simpa using hs⟩, ?_⟩
    have e := r.length
    simp only [Array.length_toList] at e
    omega
theorem Inv.list_inj (I : Inv X pins σ H s) (h : SqL X.K H a xs) (h' : SqL X.K H a ys) : xs = ys := by
  obtain ⟨its, r, ⟨o, n, e, _, _, d⟩, _⟩ := I.list h
  obtain ⟨its', r', ⟨o', n', e', _, _, d'⟩, _⟩ := I.list h'
  rw [e] at e'; cases e'
  rw [d] at d'
  injection d' with d1 _
  have : its = its' := by simpa using congrArg Array.toList d1
  subst this
  exact r.inj r'
theorem Inv.tuple_inj (I : Inv X pins σ H s) (h : SqT X.K H a xs) (h' : SqT X.K H a ys) : xs = ys := by
  obtain ⟨its, r, ⟨o, e, _, n, d⟩, _⟩ := I.tuple h
  obtain ⟨its', r', ⟨o', e', _, n', d'⟩, _⟩ := I.tuple h'
  rw [e] at e'; cases e'
  rw [d] at d'
  injection d' with d1 _
  have : its = its' := by simpa using congrArg Array.toList d1
  subst this
  exact r.inj r'
end

/-! ### another wish about exceptions -/
abbrev Cx.wish (X : Cx) (E : Value → Shared → Prop) : Cx := { X with xe := E }
/-- no exception leaves -/
abbrev Cx.nox (X : Cx) : Cx := X.wish fun _ _ => False
theorem Cx.Ok.wish {X : Cx} (ok : X.Ok) (E : Value → Shared → Prop) : (X.wish E).Ok :=
  ⟨ok.mod, ok.kind, ok.glob, ok.blt, ok.above, ok.inj, ok.has, ok.cab, ok.hd, ok.frames, ok.stk, ok.exf, ok.bs, ok.bsz, ok.noex, ok.exfs, ok.funs, ok.frf⟩
theorem Cx.Ok.unwish {X : Cx} {E : Value → Shared → Prop} (ok : (X.wish E).Ok) : X.Ok :=
  ⟨ok.mod, ok.kind, ok.glob, ok.blt, ok.above, ok.inj, ok.has, ok.cab, ok.hd, ok.frames, ok.stk, ok.exf, ok.bs, ok.bsz, ok.noex, ok.exfs, ok.funs, ok.frf⟩
section
variable {X : Cx} {pins : List (Addr × Obj)} {σ : St} {H : Hp} {s : Shared} {E : Value → Shared → Prop}
theorem Inv.wish (I : Inv X pins σ H s) (E : Value → Shared → Prop) : Inv (X.wish E) pins σ H s := ⟨I.ok.wish E, I.os, I.bare, I.base, I.loc, I.cell, I.free, I.freeC, I.pin, I.hok, I.len⟩
theorem Inv.unwish (I : Inv (X.wish E) pins σ H s) : Inv X pins σ H s := ⟨I.ok.unwish, I.os, I.bare, I.base, I.loc, I.cell, I.free, I.freeC, I.pin, I.hok, I.len⟩
theorem SP.unwish {D : Ends} {f : Flow} {s' : Shared} (h : SP (X.wish E) pins D f s') : SP X pins D f s' := by
  cases f with
  | next => obtain ⟨σ', H', I, q⟩ := h; exact ⟨σ', H', I.unwish, q⟩
  | brk => obtain ⟨σ', H', I, q⟩ := h; exact ⟨σ', H', I.unwish, q⟩
  | cont => obtain ⟨σ', H', I, q⟩ := h; exact ⟨σ', H', I.unwish, q⟩
  | ret u => obtain ⟨v, σ', H', I, r, q⟩ := h; exact ⟨v, σ', H', I.unwish, r, q⟩
theorem PE.nox {e : Expr} {t : TE} (h : PE X.nox e t) : PE X e t := fun pins s σ H Q I hw =>
  wpAny_mono (h pins s σ H Q (I.wish _) hw) (fun _ _ ⟨v, H', I', r, q⟩ => ⟨v, H', I'.unwish, r, q⟩) fun _ _ z => False.elim z
theorem PT.nox {e : Expr} {t : TT} (h : PT X.nox e t) : PT X e t := fun pins s σ H Q I hw =>
  wpAny_mono (h pins s σ H Q (I.wish _) hw) (fun _ _ ⟨H', I', q⟩ => ⟨H', I'.unwish, q⟩) fun _ _ z => False.elim z
theorem PSs.nox {st : List Stmt} {t : TS} (h : PSs X.nox st t) : PSs X st t := fun pins s σ H D I hw =>
  wpAny_mono (h pins s σ H D (I.wish _) hw) (fun _ _ q => q.unwish) fun _ _ z => False.elim z
end

/-! ### blocks and small statements -/
section
variable {X : Cx} {st : Stmt} {rest : List Stmt} {t u : TS} {e : Expr} {te : TE} {pos : Pos}
def tNext : TS := fun D σ H => D.nx σ H
def tSeq (t u : TS) : TS := fun D σ H => t { D with nx := u D } σ H
theorem pss_nil : PSs X [] tNext := fun _ _ σ H _ I h => wpAny_execs_nil ⟨σ, H, I, h⟩
theorem pss_cons (h1 : PS X st t) (h2 : PSs X rest u) : PSs X (st :: rest) (tSeq t u) := by
  intro pins s σ H D I h
  refine wpAny_execs_cons (thn (h1 pins s σ H { D with nx := u D } I h) fun f s1 q => ?_)
  cases f with
  | next =>
    obtain ⟨σ', H', I', q⟩ := q
    exact h2 pins s1 σ' H' D I' q
  | ret v => exact q
  | brk => exact q
  | cont => exact q
theorem pss_one (h1 : PS X st t) : PSs X [st] t := by
  intro pins s σ H D I h
  refine wpAny_execs_cons (thn (h1 pins s σ H D I h) fun f s1 q => ?_)
  cases f with
  | next => exact wpAny_execs_nil q
  | ret v => exact q
  | brk => exact q
  | cont => exact q
def tBreak : TS := fun D σ H => D.bk σ H
def tCont : TS := fun D σ H => D.ct σ H
theorem ps_pass : PS X (.Pass pos) tNext := fun _ _ σ H _ I h => wpAny_Pass ⟨σ, H, I, h⟩
theorem ps_break : PS X (.Break pos) tBreak := fun _ _ σ H _ I h => wpAny_Break ⟨σ, H, I, h⟩
theorem ps_continue : PS X (.Continue pos) tCont := fun _ _ σ H _ I h => wpAny_Continue ⟨σ, H, I, h⟩
/-- in a def's body nothing is shown -/
theorem Inv.quiet {pins : List (Addr × Obj)} {σ : St} {H : Hp} {s : Shared} (I : Inv X pins σ H s) : interactive X.env = false := by simp [interactive, I.ok.kind]
/-- a docstring -/
theorem ps_doc {x j pos pos'} : PS X (.Expr (.Constant (.str x) j pos) pos') tNext := fun _ s σ H _ I h => wpAny_Expr (Calls.Constant_str (show SP X _ _ .next { s with toks := s.toks + 1 } from ⟨σ, H, I.tok _, h⟩)) I.quiet
/-- an expression whose value is dropped -/
def tDrop (te : TE) : TS := fun D σ H => te σ H fun _ H1 => D.nx σ H1
theorem ps_expr (he : PE X e te) (hs : swapsWith e none pos.line X.env = pure false := by rfl) : PS X (.Expr e pos) (tDrop te) := by
  intro pins s σ H D I h
  exact wpAny_Expr_any (thn (he pins s σ H _ I h) fun v s1 ⟨x, H1, I1, r1, q1⟩ => ⟨σ, H1, I1, q1⟩) I.quiet hs
def tRet (te : TE) : TS := fun D σ H => te σ H D.rt
theorem ps_ret (he : PE X e te) : PS X (.Return (some e) pos) (tRet te) := by
  intro pins s σ H D I h
  exact wpAny_Return_some (thn (he pins s σ H _ I h) fun v s1 ⟨x, H1, I1, r1, q1⟩ => ⟨x, σ, H1, I1, r1, q1⟩)
def tRetN : TS := fun D _ H => D.rt .non H
theorem ps_retN : PS X (.Return none pos) tRetN := fun _ _ σ H _ I h => wpAny_Return_none ⟨.non, σ, H, I, rfl, h⟩
def tIfS (c : TT) (t u : TS) : TS := fun D σ H => c σ H fun b H1 => if b = true then t D σ H1 else u D σ H1
theorem ps_if {c : Expr} {a b : List Stmt} {tc : TT} (hc : PT X c tc) (ha : PSs X a t) (hb : PSs X b u) : PS X (.If c a b pos) (tIfS tc t u) := by
  intro pins s σ H D I h
  refine wpAny_If (thn (hc pins s σ H _ I h) fun d s1 ⟨H1, I1, q1⟩ => ?_)
  cases d with
  | true => exact ha pins s1 σ H1 D I1 q1
  | false => exact hb pins s1 σ H1 D I1 q1
/-- code that the proof never comes to -/
def tNever : TS := fun _ _ _ => False
theorem ps_never : PS X st tNever := fun _ _ _ _ _ _ h => h.elim
theorem pss_never {sts : List Stmt} : PSs X sts tNever := fun _ _ _ _ _ _ h => h.elim
end

/-! ### targets -/
abbrev TG := V → St → Hp → (St → Hp → Prop) → Prop
abbrev TGs := List V → St → Hp → (St → Hp → Prop) → Prop
def PG (X : Cx) (target : Expr) (t : TG) : Prop :=
  ∀ (pins : List (Addr × Obj)) (s : Shared) (σ : St) (H : Hp) (v : V) (u : Value) (Q : St → Hp → Prop), Inv X pins σ H s → RelV v u → t v σ H Q →
    wpAny (model X.prog X.w) X.A (assign target X.env u) (fun _ s' => ∃ σ' H', Inv X pins σ' H' s' ∧ Q σ' H') X.xe s
/-- several targets, one after another -/
def PGs (X : Cx) (ts : List Expr) (t : TGs) : Prop :=
  ∀ (pins : List (Addr × Obj)) (s : Shared) (σ : St) (H : Hp) (vs : List V) (us : List Value) (Q : St → Hp → Prop), Inv X pins σ H s → Vals vs us → t vs σ H Q →
    wpAny (model X.prog X.w) X.A (assignInOrder ((assignEach ts X.env).map (·.2)) us) (fun _ s' => ∃ σ' H', Inv X pins σ' H' s' ∧ Q σ' H') X.xe s
/-- o[i] = v, by values -/
abbrev TSet := V → V → V → Hp → (Hp → Prop) → Prop
def PSet (X : Cx) (t : TSet) : Prop :=
  ∀ (pins : List (Addr × Obj)) (s : Shared) (σ : St) (H : Hp) (o i v : V) (ov iv u : Value) (Q : Hp → Prop), Inv X pins σ H s → RelV o ov → RelV i iv → RelV v u → t o i v H Q →
    wpAny (model X.prog X.w) X.A (setItem ov iv u) (fun _ s' => ∃ H', Inv X pins σ H' s' ∧ Q H') X.xe s
/-- a op= b, by values -/
abbrev TIp := V → V → Hp → VK → Prop
def PIp (X : Cx) (op : Operator) (t : TIp) : Prop :=
  ∀ (pins : List (Addr × Obj)) (s : Shared) (σ : St) (H : Hp) (x y : V) (v u : Value) (Q : VK), Inv X pins σ H s → RelV x v → RelV y u → t x y H Q →
    wpAny (model X.prog X.w) X.A (inplaceOp op v u) (EP X pins σ Q) X.xe s
section
variable {X : Cx} {pos : Pos}
def gName (i : Nat) : TG := fun v σ H Q => Q (σ.set i (some v)) H
theorem pg_name {i : Nat} {x : Str} (hN : X.N.Nodup) (hi : X.N[i]? = some x) (hx : Loc X.env.scope x) (hf : X.fn x = true ∨ X.env.scope.names.lookup x = some .local := by first | exact .inl rfl | exact .inr rfl | assumption) : PG X (.Name x pos) (gName i) := by
  intro pins s σ H v u Q I r h
  exact wpAny_assign_Name (store_ok I hN hi hx r (fun s' I' => ⟨_, H, I', h⟩) hf)
def gNil : TGs := fun vs σ H Q => vs = [] ∧ Q σ H
def gCons (t : TG) (u : TGs) : TGs := fun vs σ H Q => ∃ v r, vs = v :: r ∧ t v σ H fun σ' H' => u r σ' H' Q
theorem pgs_nil : PGs X [] gNil := by
  intro pins s σ H vs us Q I r h
  obtain ⟨e, h⟩ := h
  subst e
  cases r
  exact assignInOrder_nil ⟨σ, H, I, h⟩
theorem pgs_cons {e : Expr} {es : List Expr} {t : TG} {u : TGs} (h1 : PG X e t) (h2 : PGs X es u)
    (hs : (assignEach (e :: es) X.env).map (·.2) = assign e X.env :: (assignEach es X.env).map (·.2) := by rfl) : PGs X (e :: es) (gCons t u) := by
  intro pins s σ H vs us Q I r h
  obtain ⟨v, vr, e1, h⟩ := h
  subst e1
  cases r with
  | cons r rr =>
    rw [hs]
    refine assignInOrder_cons (thn (h1 pins s σ H _ _ _ I r h) fun _ s1 ⟨σ1, H1, I1, q1⟩ => ?_)
    exact h2 pins s1 σ1 H1 _ _ Q I1 rr q1
/-- (a, b, ..) = a tuple of that length -/
def gTup (K : PySem.W.Frag) (n : Nat) (t : TGs) : TG := fun v σ H Q => ∃ a xs, v = .ref a ∧ SqT K H a xs ∧ xs.length = n ∧ t xs σ H Q
theorem pg_tup {es : List Expr} {k : Nat} {t : TGs} {n : Nat} (hc : X.calm = true) (h : PGs X es t)
    (hn : (assignEach es X.env).length = n := by rfl) (hst : (assignEach es X.env).findIdx? (·.1) = none := by rfl) : PG X (.Tuple es k pos) (gTup X.K n t) := by
  intro pins s σ H v u Q I r hw
  obtain ⟨a, xs, e1, hq, hl, hw⟩ := hw
  subst e1
  cases r
  obtain ⟨its, rv, ht, hz⟩ := I.tuple hq
  refine assign_Tuple_tuple (I.ok.hd hc) ht (by simp [hn, ← hl, rv.length]) hst fun h' hx => ?_
  have I1 : Inv X pins σ H { s with heap := h' } := I.kept (t' := s.toks) fun b o e => hx b o (Nat.ne_of_lt (Heap.lt_size e)) e
  exact h pins _ σ H xs _ Q I1 (by simpa using rv) hw
/-- o[i] = .. -/
def gSub (to ti : TE) (t : TSet) : TG := fun v σ H Q => to σ H fun o H1 => ti σ H1 fun i H2 => t o i v H2 fun H3 => Q σ H3
theorem pg_sub {o i : Expr} {to ti : TE} {t : TSet} (ho : PE X o to) (hi : PE X i ti) (hs : PSet X t)
    (ha : ∀ v, assign (.Subscript o i pos) X.env v = (do
      let ov ← holding [v] (eval o X.env)
      let iv ← holding [v, ov] (eval i X.env)
      standAt pos
      holding [v, ov, iv] (setItem ov iv v)
      release [v, ov, iv] []) := by intro _; rfl) : PG X (.Subscript o i pos) (gSub to ti t) := by
  intro pins s σ H v u Q I r h
  rw [ha]
  refine wpAny_bind (wpAny_holding (thn (ho pins s σ H _ I h) fun ov s1 ⟨x, H1, I1, r1, q1⟩ => ?_))
  refine wpAny_bind (wpAny_holding (thn (hi pins s1 σ H1 _ I1 q1) fun iv s2 ⟨y, H2, I2, r2, q2⟩ => ?_))
  refine wpAny_bind (wpAny_standAt (wpAny_bind (wpAny_holding (thn (hs pins s2 σ H2 x y v ov iv u _ I2 r1 r2 r q2) fun _ s3 ⟨H3, I3, q3⟩ => ?_))))
  exact wpAny_release ⟨σ, H3, I3, q3⟩
/-- target = value -/
def tAsg (te : TE) (g : TG) : TS := fun D σ H => te σ H fun x H1 => g x σ H1 D.nx
theorem ps_asg {tg e : Expr} {te : TE} {g : TG} (he : PE X e te) (hg : PG X tg g) (hs : swapsWithSole [tg] e pos.line X.env = pure false := by rfl) (hw : swappedStores [tg] e X.env = pure none := by rfl)
    (h1 : (assignEach [tg] X.env).map (·.2) = [assign tg X.env] := by rfl) : PS X (.Assign [tg] e pos) (tAsg te g) := by
  intro pins s σ H D I h
  refine wpAny_Assign_stores (thn (he pins s σ H _ I h) fun v s1 ⟨x, H1, I1, r1, q1⟩ => ?_) hs hw
  rw [h1]
  exact thn (hg pins s1 σ H1 x v _ I1 r1 q1) fun _ s2 q => q
/-- name = value -/
theorem ps_set {i : Nat} {x : Str} {e : Expr} {te : TE} {pos' : Pos} (hN : X.N.Nodup) (hi : X.N[i]? = some x) (hx : Loc X.env.scope x) (he : PE X e te) (hs : swapsWith e (some (.Name x pos')) pos.line X.env = pure false := by rfl) (hf : X.fn x = true ∨ X.env.scope.names.lookup x = some .local := by first | exact .inl rfl | exact .inr rfl | assumption) :
    PS X (.Assign [.Name x pos'] e pos) (tAsg te (gName i)) := by
  intro pins s σ H D I h
  refine wpAny_Assign_Name (thn (he pins s σ H _ I h) fun v s1 ⟨y, H1, I1, r1, q1⟩ => ?_) hs
  exact store_ok I1 hN hi hx r1 (fun s2 I2 => ⟨_, H1, I2, q1⟩) hf
/-- a, b = x, y with plain local names: stored from the right; the pair itself is not tracked (the opening rows as in PyProof/Rows/TupAssign.lean:23) -/
def tPar (i j : Nat) (ta : TA) : TS := fun D σ H => ta σ H fun vs H1 => ∃ v w, vs = [v, w] ∧ D.nx ((σ.set i (some v)).set j (some w)) H1
theorem ps_par {i j : Nat} {x y : Str} {a b : Expr} {ta : TA} {px py pt : Pos} {kt k2 pt2} (hc : X.calm = true) (hN : X.N.Nodup) (hi : X.N[i]? = some x) (hj : X.N[j]? = some y) (hij : i ≠ j)
    (hx : X.env.scope.names.lookup x = some .local) (hy : X.env.scope.names.lookup y = some .local) (ha : PA X [a, b] ta)
    (hw : swappedStores [.Tuple [.Name x px, .Name y py] kt pt] (.Tuple [a, b] k2 pt2) X.env = pure (some [x, y]))
    (hs : swapsWithSole [.Tuple [.Name x px, .Name y py] kt pt] (.Tuple [a, b] k2 pt2) pos.line X.env = pure false := by rfl) :
    PS X (.Assign [.Tuple [.Name x px, .Name y py] kt pt] (.Tuple [a, b] k2 pt2) pos) (tPar i j ta) := by
  intro pins s σ H D I h
  rw [exec_Assign_arm]
  refine wpAny_bind (wpAny_standAt ?_)
  rw [hs]
  refine wpAny_bind (wpAny_pure ?_)
  rw [if_neg (by decide)]
  refine wpAny_bind (Tuple_ (thn (ha _ pins s σ H _ I h) fun us s1 ⟨vs, H1, I1, r1, q1⟩ => ?_))
  obtain ⟨v, w, e1, q1⟩ := q1
  subst e1
  obtain ⟨u1, u2, rfl, rv, rw'⟩ : ∃ u1 u2, us = [u1, u2] ∧ RelV v u1 ∧ RelV w u2 := by
    cases r1 with
    | cons p q =>
      cases q with
      | cons p' q' =>
        cases q'
        exact ⟨_, _, rfl, p, p'⟩
  refine wpAny_newObj_type ?_ (by show 2 ≤ sizeLine; decide)
  have I2 : Inv X pins σ H1 { s1 with heap := s1.heap.push { cls := .type "tuple", data := .seq [u1, u2].toArray } } := I1.kept (t' := s1.toks) fun b o e => Heap.get?_push_of_some _ e
  rw [hw]
  refine wpAny_bind (wpAny_pure ?_)
  show wpAny (model X.prog X.w) X.A (do rule "assign.swapped-stores"; let items ← unpackItems (.ref s1.heap.objs.size) 2 none; assignInOrder [fun v => bindName X.env y v, fun v => bindName X.env x v] items.reverse; pure Flow.next) _ _ _
  refine wpAny_bind (wpAny_rule (wpAny_bind (unpackItems_tuple (items := #[u1, u2]) (I.ok.hd hc) (IsTup.new s1.heap _) fun h' hx' => ?_)))
  have I3 := I2.kept (h' := h') (t' := s1.toks) fun b o e => hx' b o (Nat.ne_of_lt (Heap.lt_size e)) e
  show wpAny _ _ (assignInOrder [fun v => bindName X.env y v, fun v => bindName X.env x v] [u2, u1] >>= fun _ => pure Flow.next) _ _ _
  refine wpAny_bind (assignInOrder_cons (wpAny_bindName (store_ok I3 hN hj (.inl hy) rw' (fun s2 I4 => ?_) (.inr hy))))
  refine assignInOrder_cons (wpAny_bindName (store_ok I4 hN hi (.inl hx) rv (fun s3 I5 => assignInOrder_nil (wpAny_pure ?_)) (.inr hx)))
  rw [List.set_comm _ _ (Ne.symm hij)] at I5
  exact ⟨_, H1, I5, q1⟩
/-- name op= e -/
def tAug (i : Nat) (te : TE) (ti : TIp) : TS := fun D σ H => ∃ x, σ[i]? = some (some x) ∧ te σ H fun y H1 => ti x y H1 fun z H2 => D.nx (σ.set i (some z)) H2
theorem ps_aug {i : Nat} {x : Str} {e : Expr} {te : TE} {op : Operator} {ti : TIp} {pos' : Pos} (hN : X.N.Nodup) (hi : X.N[i]? = some x) (hx : Loc X.env.scope x) (he : PE X e te) (ho : PIp X op ti) (hf : X.fn x = true ∨ X.env.scope.names.lookup x = some .local := by first | exact .inl rfl | exact .inr rfl | assumption) :
    PS X (.AugAssign (.Name x pos') op e pos) (tAug i te ti) := by
  intro pins s σ H D I h
  obtain ⟨v, e1, h⟩ := h
  obtain ⟨m, hn, hl⟩ := I.loc
  have vis : Vis X.env.scope x := by rcases hx with k | k; exact .inl k; exact .inr (.inl k)
  obtain ⟨u, r, l⟩ := hl i x v hi e1 vis
  refine wpAny_AugAssign_Name ?_
  have go : wpAny (model X.prog X.w) X.A (eval e X.env) (fun w s₂ => wpAny (model X.prog X.w) X.A (inplaceOp op u w) (fun r s₃ => wpAny (model X.prog X.w) X.A (storeName X.env x r) (fun _ => SP X pins D .next) X.xe s₃) X.xe s₂) X.xe s := by
    refine thn (he pins s σ H _ I h) fun w s1 ⟨y, H1, I1, r1, q1⟩ => ?_
    refine thn (ho pins s1 σ H1 v y u w _ I1 r r1 q1) fun z s2 ⟨zv, H2, I2, r2, q2⟩ => ?_
    exact store_ok I2 hN hi hx r2 (fun s3 I3 => ⟨_, H2, I3, q2⟩) hf
  rcases l with ⟨hk, hm⟩ | ⟨hk, c, hc, hcell⟩
  · exact wpAny_loadName_local I.ok.kind hk hn hm go
  · rcases hk with hk | hk
    · exact wpAny_loadName_cell I.ok.kind hk hc hcell go
    · rcases hx with k | k
      · have : X.env.scope.names.lookup x = some .free := hk
        rw [k] at this; cases this
      · have : X.env.scope.names.lookup x = some .free := hk
        rw [k] at this; cases this
/-- o[i] op= e -/
def tAugS (to ti te : TE) (tget : V → V → Hp → VK → Prop) (tip : TIp) (tset : TSet) : TS := fun D σ H => to σ H fun o H1 => ti σ H1 fun i H2 => tget o i H2 fun x H3 => te σ H3 fun y H4 => tip x y H4 fun z H5 => tset o i z H5 fun H6 => D.nx σ H6
/-- o[i], by values -/
def PGet (X : Cx) (t : V → V → Hp → VK → Prop) : Prop :=
  ∀ (pins : List (Addr × Obj)) (s : Shared) (σ : St) (H : Hp) (o i : V) (ov iv : Value) (Q : VK), Inv X pins σ H s → RelV o ov → RelV i iv → t o i H Q →
    wpAny (model X.prog X.w) X.A (getItem ov iv) (EP X pins σ Q) X.xe s
theorem ps_augS {o i e : Expr} {to ti te : TE} {tget : V → V → Hp → VK → Prop} {tip : TIp} {tset : TSet} {op : Operator} {tpos : Pos} (ho : PE X o to) (hi : PE X i ti) (hg : PGet X tget) (he : PE X e te) (hp : PIp X op tip) (hs : PSet X tset)
    (ha : ∀ ov iv new, augStore i ov iv new = (do holding [new, ov, iv] (setItem ov iv new); release [new, ov, iv] []; pure .next) := by intros; rfl) : PS X (.AugAssign (.Subscript o i tpos) op e pos) (tAugS to ti te tget tip tset) := by
  intro pins s σ H D I h
  refine wpAny_AugAssign_SubscriptAny (thn (ho pins s σ H _ I h) fun ov s1 ⟨x1, H1, I1, r1, q1⟩ => ?_) ha
  refine thn (hi pins s1 σ H1 _ I1 q1) fun iv s2 ⟨x2, H2, I2, r2, q2⟩ => ?_
  refine thn (hg pins s2 σ H2 x1 x2 ov iv _ I2 r1 r2 q2) fun old s3 ⟨x3, H3, I3, r3, q3⟩ => ?_
  refine thn (he pins s3 σ H3 _ I3 q3) fun v s4 ⟨x4, H4, I4, r4, q4⟩ => ?_
  refine thn (hp pins s4 σ H4 x3 x4 old v _ I4 r3 r4 q4) fun new s5 ⟨x5, H5, I5, r5, q5⟩ => ?_
  exact thn (hs pins s5 σ H5 x1 x2 x5 ov iv new _ I5 r1 r2 r5 q5) fun _ s6 ⟨H6, I6, q6⟩ => ⟨σ, H6, I6, q6⟩
/-- ints -/
def ipI (f : Int → Int → Int) : TIp := fun x y H Q => ∃ i j, x = .int i ∧ y = .int j ∧ Q (.int (f i j)) H
theorem ip_add : PIp X .Add (ipI fun i j => i + j) := by
  intro pins s σ H x y v u Q I r1 r2 h
  obtain ⟨i, j, e1, e2, q⟩ := h
  subst e1; subst e2
  obtain ⟨t, rfl⟩ := r1
  obtain ⟨t', rfl⟩ := r2
  exact iadd_int ⟨.int _, H, I.tok _, ⟨_, rfl⟩, q⟩
theorem ip_sub : PIp X .Sub (ipI fun i j => i - j) := by
  intro pins s σ H x y v u Q I r1 r2 h
  obtain ⟨i, j, e1, e2, q⟩ := h
  subst e1; subst e2
  obtain ⟨t, rfl⟩ := r1
  obtain ⟨t', rfl⟩ := r2
  exact isub_int ⟨.int _, H, I.tok _, ⟨_, rfl⟩, q⟩
end

/-! ### while -/
section
variable {X : Cx} {pos : Pos}
/-- the invariant W with its measure -/
def tWhile (c : TT) (tb : TS) : TS := fun D σ H => ∃ W : Nat → St → Hp → Prop, (∃ m, W m σ H) ∧ ∀ m σ H, W m σ H →
  c σ H fun b H1 => if b = true then ∃ N : St → Hp → Prop, (∀ σ' H', N σ' H' → ∃ m', m' < m ∧ W m' σ' H') ∧ tb { D with nx := N, ct := N, bk := D.nx } σ H1 else D.nx σ H1
theorem ps_while {c : Expr} {body : List Stmt} {tc : TT} {tb : TS} (hp : PassesOwn (model X.prog X.w) X.A X.env X.xe) (hc : PT X c tc) (hb : PSs X body tb) : PS X (.While c body [] pos) (tWhile tc tb) := by
  intro pins s σ H D I h
  obtain ⟨W, ⟨m0, w0⟩, turn⟩ := h
  refine wpAny_While (codeAny_whileLoop (fun n s' => ∃ σ' H', Inv X pins σ' H' s' ∧ W n σ' H') ?_ m0 ⟨σ, H, I, w0⟩)
  rintro n s1 ⟨σ1, H1, I1, w1⟩
  refine wpAny_passesOwn hp (thn (hc pins s1 σ1 H1 _ I1 (turn n σ1 H1 w1)) fun b s2 ⟨H2, I2, q2⟩ => ?_)
  cases b with
  | true =>
    obtain ⟨N, hN, q2⟩ := q2
    rw [if_pos rfl]
    refine wpAny_passesOwn hp (thn (hb pins s2 σ1 H2 _ I2 q2) fun f s3 q3 => ?_)
    cases f with
    | next =>
      obtain ⟨σ3, H3, I3, n3⟩ := q3
      obtain ⟨m', hm, w3⟩ := hN σ3 H3 n3
      exact ⟨m', hm, σ3, H3, I3, w3⟩
    | cont =>
      obtain ⟨σ3, H3, I3, n3⟩ := q3
      obtain ⟨m', hm, w3⟩ := hN σ3 H3 n3
      exact ⟨m', hm, σ3, H3, I3, w3⟩
    | brk => exact q3
    | ret v => exact q3
  | false =>
    rw [if_neg Bool.false_ne_true]
    exact wpAny_execs_nil ⟨σ1, H2, I2, q2⟩
end

/-! ### what a loop or a comprehension walks -/
/-- at turn i: it yields x (the heap may grow), or it stops -/
structure It where
  go : Nat → Hp → Prop
  yld : Nat → Hp → V → Hp → Prop
  stop : Nat → Hp → Prop
/-- the iterator's own objects may turn: they are not the frame's, not pinned, younger than the entry (or a comprehension's own) -/
def FpOk (X : Cx) (pins : List (Addr × Obj)) (H : Hp) (b : Addr) : Prop :=
  H b = none ∧ b ≠ X.env.locals ∧ b ∉ X.fs ∧ (b ∈ X.ex ∨ X.s₀.heap.objs.size ≤ b) ∧ (∀ x c, X.env.cells.lookup x = some c → c ≠ b) ∧ ∀ p ∈ X.pn ++ pins, p.1 ≠ b
theorem Inv.fpOk {X : Cx} {pins : List (Addr × Obj)} {σ : St} {H H' : Hp} {s : Shared} {b : Addr} (I : Inv X pins σ H s) (hb : s.heap.objs.size ≤ b) (hn : H' b = none) : FpOk X pins H' b := by
  refine ⟨hn, Nat.ne_of_gt (Nat.lt_of_lt_of_le I.lt hb), I.nofs hb, .inr (Nat.le_trans I.sz hb), fun x c e z => ?_, fun p hp z => ?_⟩
  · obtain ⟨v, q⟩ := I.cell x c e
    exact absurd (Nat.lt_of_lt_of_le q.lt (by rw [z]; exact hb)) (Nat.lt_irrefl _)
  · exact absurd (Nat.lt_of_lt_of_le (Heap.lt_size (I.pin p hp).1) (by rw [z]; exact hb)) (Nat.lt_irrefl _)
structure Turn (P : Program) (w : World) (K : PySem.W.Frag) (tg : Expr) (J : It) (fp : List Addr) (it : Addr) (tn : Nat → Heap → Prop) : Prop where
  mem : it ∈ fp
  obj : ∀ i h, tn i h → ∀ b ∈ fp, ∃ o, h.get? b = some o ∧ ∀ v, o.data ≠ .cell v
  keep : ∀ i h h', tn i h → (∀ b ∈ fp, ∀ o, h.get? b = some o → h'.get? b = some o) → tn i h'
  item : ∀ (X : Cx), X.prog = P → X.w = w → X.K = K → X.calm = true → ∀ (i : Nat) (pins : List (Addr × Obj)) (s : Shared) (σ : St) (H : Hp) (E : Value → Shared → Prop), Inv X pins σ H s → (∀ b ∈ fp, FpOk X pins H b) → tn i s.heap → J.go i H →
    wpAny (model P w) X.A (pyNext (.ref it)) (fun r s1 => ∃ u, r = some u ∧
      wpAny (model P w) X.A (letOwnedTupleGo tg (.ref it) u) (fun _ s2 => ∃ x H', Inv X pins σ H' s2 ∧ RelV x u ∧ J.yld i H x H' ∧ tn (i + 1) s2.heap ∧ ∀ b ∈ fp, H' b = none) E s1) E s
  done : ∀ (X : Cx), X.prog = P → X.w = w → X.K = K → X.calm = true → ∀ (i : Nat) (pins : List (Addr × Obj)) (s : Shared) (σ : St) (H : Hp) (E : Value → Shared → Prop), Inv X pins σ H s → (∀ b ∈ fp, FpOk X pins H b) → tn i s.heap → J.stop i H →
    wpAny (model P w) X.A (pyNext (.ref it)) (fun r s1 => r = none ∧ Inv X pins σ H s1) E s
  self : ∀ (A : Around) (i : Nat) (s : Shared) (Q : Value → Shared → Prop) (E : Value → Shared → Prop), tn i s.heap → Q (.ref it) s → wpAny (model P w) A (pyIter (.ref it)) Q E s
abbrev TI := St → Hp → (It → Hp → Prop) → Prop
/-- an iterator has come -/
def PIE (X : Cx) (pins : List (Addr × Obj)) (σ : St) (tg : Expr) (R : It → Hp → Prop) (itv : Value) (s2 : Shared) : Prop :=
  ∃ (it : Addr) (fp : List Addr) (tn : Nat → Heap → Prop) (J : It) (H' : Hp), itv = .ref it ∧ Inv X pins σ H' s2 ∧ Turn X.prog X.w X.K tg J fp it tn ∧ tn 0 s2.heap ∧ (∀ b ∈ fp, FpOk X pins H' b) ∧ R J H'
def PI (X : Cx) (tg iter : Expr) (wi : TI) : Prop :=
  ∀ (pins : List (Addr × Obj)) (s : Shared) (σ : St) (H : Hp) (R : It → Hp → Prop), Inv X pins σ H s → wi σ H R →
    wpAny (model X.prog X.w) X.A (eval iter X.env) (fun v s1 => wpAny (model X.prog X.w) X.A (pyIter v) (PIE X pins σ tg R) X.xe s1) X.xe s

/-- the step ahead of the store is nothing for an iterator that keeps no tuple -/
theorem go_of {M : Model} {A : Around} {E : Value → Shared → Prop} {s : Shared} {tg : Expr} {it : Addr} {u : Value} {o : Obj} {n : String} {vs : Array Value} {Q : Unit → Shared → Prop} (ho : s.heap.get? it = some o) (hc : o.cls = .type n) (hd : o.data = .fields vs)
    (hn : ["enumerate", "zip", "dict_itemiterator", "dict_reverseitemiterator", "odict_iterator", "itertools.zip_longest", "itertools.pairwise"].contains n = false) (hQ : Q () s) : wpAny M A (letOwnedTupleGo tg (.ref it) u) Q E s := by
  unfold letOwnedTupleGo
  cases tg <;> first
    | exact wpAny_pure hQ
    | (cases u <;> first
        | exact wpAny_pure hQ
        | (refine wpAny_bind (wpAny_load ho ?_)
           rw [hc, hd]
           show wpAny M A (if (["enumerate", "zip", "dict_itemiterator", "dict_reverseitemiterator", "odict_iterator", "itertools.zip_longest", "itertools.pairwise"].contains n && vs[0]? == some (rawInt _)) = true then _ else _) Q E s
           rw [if_neg (by intro h; rw [hn, Bool.false_and] at h; cases h)]
           exact wpAny_pure hQ))

/-- the list at a, as it stands at each turn (a loop may append to it) -/
def Itl (K : PySem.W.Frag) (a : Addr) : It :=
  ⟨fun i H => ∃ xs x, SqL K H a xs ∧ xs[i]? = some x, fun i H x H' => H' = H ∧ ∀ xs, SqL K H a xs → xs[i]? = some x, fun i H => ∃ xs, SqL K H a xs ∧ xs.length ≤ i⟩
def Itt (K : PySem.W.Frag) (a : Addr) : It :=
  ⟨fun i H => ∃ xs x, SqT K H a xs ∧ xs[i]? = some x, fun i H x H' => H' = H ∧ ∀ xs, SqT K H a xs → xs[i]? = some x, fun i H => ∃ xs, SqT K H a xs ∧ xs.length ≤ i⟩
/-- lo, lo + 1, .. (n of them) -/
def Itr (lo : Int) (n : Nat) : It := ⟨fun i _ => i < n, fun i H x H' => H' = H ∧ x = .int (lo + i), fun i _ => n ≤ i⟩
theorem turn_list {P : Program} {w : World} {K : PySem.W.Frag} {tg : Expr} (a it : Addr) : Turn P w K tg (Itl K a) [it] it (fun i h => h.IsListIter it a i) where
  mem := by simp
  obj := fun i h st b hb => by
    have e : b = it := by simpa using hb
    subst e
    obtain ⟨o, e, c, d⟩ := st
    exact ⟨o, e, fun v z => by rw [d] at z; cases z⟩
  keep := fun i h h' st k => st.at fun o e => k it (by simp) o e
  item := by
    intro X hP hw hK hc i pins s σ H E I hf st hg
    subst hP hw hK
    obtain ⟨xs, x, hq, hx⟩ := hg
    obtain ⟨its, rv, p, hz⟩ := I.list hq
    obtain ⟨u, hu, ru⟩ := rv.get hx
    obtain ⟨f0, f1, f2, f3, f4, f5⟩ := hf it (by simp)
    refine wpAny_pyNext_list_item st p.isList (x := u) (by simpa using hu) fun h' st' sb => ?_
    have I1 : Inv X pins σ H { s with heap := h' } := I.turned (t' := s.toks) (fun b o hb e => (sb.2 b hb).trans e) f0 f1 f3 f4 f5
    obtain ⟨o, e, c, d⟩ := id st'
    exact ⟨u, rfl, go_of (s := { s with heap := h' }) e c d (by decide) ⟨x, H, I1, ru, ⟨rfl, fun ys hy => by rw [I.list_inj hy hq]; exact hx⟩, st', fun b hb => (hf b hb).1⟩⟩
  done := by
    intro X hP hw hK hc i pins s σ H E I hf st hg
    subst hP hw hK
    obtain ⟨xs, hq, hx⟩ := hg
    obtain ⟨its, rv, p, hz⟩ := I.list hq
    obtain ⟨f0, f1, f2, f3, f4, f5⟩ := hf it (by simp)
    have hl := rv.length
    exact wpAny_pyNext_list_end (I.ok.hd hc) st p.isList (by simp; omega) fun h' eb => ⟨rfl, I.turned (t' := s.toks) (fun b o hb e => eb b o hb e) f0 f1 f3 f4 f5⟩
  self := fun _ _ _ _ _ st h => wpAny_pyIter_listiter st h
theorem turn_tuple {P : Program} {w : World} {K : PySem.W.Frag} {tg : Expr} (a it : Addr) : Turn P w K tg (Itt K a) [it] it (fun i h => h.IsTupleIter it a i) where
  mem := by simp
  obj := fun i h st b hb => by
    have e : b = it := by simpa using hb
    subst e
    obtain ⟨o, e, c, d⟩ := st
    exact ⟨o, e, fun v z => by rw [d] at z; cases z⟩
  keep := fun i h h' st k => st.at fun o e => k it (by simp) o e
  item := by
    intro X hP hw hK hc i pins s σ H E I hf st hg
    subst hP hw hK
    obtain ⟨xs, x, hq, hx⟩ := hg
    obtain ⟨its, rv, p, hz⟩ := I.tuple hq
    obtain ⟨u, hu, ru⟩ := rv.get hx
    obtain ⟨f0, f1, f2, f3, f4, f5⟩ := hf it (by simp)
    refine wpAny_pyNext_tuple_item st (show s.heap.IsTuple a its.toArray from p) (x := u) (by simpa using hu) fun h' st' sb => ?_
    have I1 : Inv X pins σ H { s with heap := h' } := I.turned (t' := s.toks) (fun b o hb e => (sb.2 b hb).trans e) f0 f1 f3 f4 f5
    obtain ⟨o, e, c, d⟩ := id st'
    exact ⟨u, rfl, go_of (s := { s with heap := h' }) e c d (by decide) ⟨x, H, I1, ru, ⟨rfl, fun ys hy => by rw [I.tuple_inj hy hq]; exact hx⟩, st', fun b hb => (hf b hb).1⟩⟩
  done := by
    intro X hP hw hK hc i pins s σ H E I hf st hg
    subst hP hw hK
    obtain ⟨xs, hq, hx⟩ := hg
    obtain ⟨its, rv, p, hz⟩ := I.tuple hq
    obtain ⟨f0, f1, f2, f3, f4, f5⟩ := hf it (by simp)
    have hl := rv.length
    exact wpAny_pyNext_tuple_end (I.ok.hd hc) st (show s.heap.IsTuple a its.toArray from p) (by simp; omega) fun h' eb => ⟨rfl, I.turned (t' := s.toks) (fun b o hb e => eb b o hb e) f0 f1 f3 f4 f5⟩
  self := fun _ _ _ _ _ st h => wpAny_pyIter_tupleiter st h
theorem turn_range {P : Program} {w : World} {K : PySem.W.Frag} {tg : Expr} (it : Addr) (lo : Int) (n : Nat) : Turn P w K tg (Itr lo n) [it] it (fun i h => IsRangeIter h it (lo + (i : Nat) * 1) ((n : Int) - (i : Nat)) 1) where
  mem := by simp
  obj := fun i h st b hb => by
    have e : b = it := by simpa using hb
    subst e
    exact ⟨_, st, fun v z => by
      have z' : Data.fields _ = Data.cell v := z
      cases z'⟩
  keep := fun i h h' st k => k it (by simp) _ st
  item := by
    intro X hP hw hK hc i pins s σ H E I hf st hg
    subst hP hw hK
    obtain ⟨f0, f1, f2, f3, f4, f5⟩ := hf it (by simp)
    have W := Walks.range (prog := X.prog) (w := X.w) (I.ok.hd hc) it lo 1 n
    refine W.item i s _ _ hg st fun v h' tk hv st' kk => ?_
    obtain ⟨t, rfl⟩ := hv
    have I1 : Inv X pins σ H { s with heap := h', toks := tk } := I.turned (fun b o hb e => kk b o (by simpa using hb) e) f0 f1 f3 f4 f5
    refine ⟨_, rfl, go_of (s := { s with heap := h', toks := tk }) (n := "range_iterator") st' rfl rfl (by decide) ⟨.int (lo + i), H, I1, ⟨t, ?_⟩, ⟨rfl, rfl⟩, st', fun b hb => (hf b hb).1⟩⟩
    rw [Int.mul_one]
  done := by
    intro X hP hw hK hc i pins s σ H E I hf st hg
    subst hP hw hK
    obtain ⟨f0, f1, f2, f3, f4, f5⟩ := hf it (by simp)
    exact wpAny_pyNext_range_end (I.ok.hd hc) st (by have : n ≤ i := hg; omega) fun h' eb => ⟨rfl, I.turned (t' := s.toks) (fun b o hb e => eb b o hb e) f0 f1 f3 f4 f5⟩
  self := fun _ _ _ _ _ st h => wpAny_pyIter_rangeiter st h
end L2

namespace L2
open PySem PySem.Spec PyProof.Rows
section
variable {X : Cx} {tg : Expr}
def iList (K : PySem.W.Frag) (tl : TE) : TI := fun σ H R => tl σ H fun x H1 => ∃ a, x = .ref a ∧ (∃ xs, SqL K H1 a xs) ∧ R (Itl K a) H1
def iTup (K : PySem.W.Frag) (tl : TE) : TI := fun σ H R => tl σ H fun x H1 => ∃ a, x = .ref a ∧ (∃ xs, SqT K H1 a xs) ∧ R (Itt K a) H1
theorem pi_list {l : Expr} {tl : TE} (hl : PE X l tl) : PI X tg l (iList X.K tl) := by
  intro pins s σ H R I h
  refine thn (hl pins s σ H _ I h) fun v s1 ⟨x, H1, I1, r1, q1⟩ => ?_
  obtain ⟨a, e, ⟨xs, hq⟩, q⟩ := q1
  subst e
  cases r1
  obtain ⟨its, rv, p, hz⟩ := I1.list hq
  refine wpAny_pyIter_list p.isList ?_
  refine ⟨s1.heap.objs.size, [s1.heap.objs.size], _, _, H1, rfl, I1.kept (t' := s1.toks) fun b o e => Heap.get?_push_of_some _ e, turn_list a _, ⟨_, Heap.get?_push_size _ rfl, rfl, rfl⟩, fun b hb => ?_, q⟩
  have e : b = s1.heap.objs.size := by simpa using hb
  subst e
  exact I1.fpOk (Nat.le_refl _) (I1.hok.fresh (Nat.le_refl _))
theorem pi_tup {l : Expr} {tl : TE} (hl : PE X l tl) : PI X tg l (iTup X.K tl) := by
  intro pins s σ H R I h
  refine thn (hl pins s σ H _ I h) fun v s1 ⟨x, H1, I1, r1, q1⟩ => ?_
  obtain ⟨a, e, ⟨xs, hq⟩, q⟩ := q1
  subst e
  cases r1
  obtain ⟨its, rv, p, hz⟩ := I1.tuple hq
  refine wpAny_pyIter_tuple (show s1.heap.IsTuple a its.toArray from p) ?_
  refine ⟨s1.heap.objs.size, [s1.heap.objs.size], _, _, H1, rfl, I1.kept (t' := s1.toks) fun b o e => Heap.get?_push_of_some _ e, turn_tuple a _, ⟨_, Heap.get?_push_size _ rfl, rfl, rfl⟩, fun b hb => ?_, q⟩
  have e : b = s1.heap.objs.size := by simpa using hb
  subst e
  exact I1.fpOk (Nat.le_refl _) (I1.hok.fresh (Nat.le_refl _))
/-- a range object just made, walked -/
theorem range_it {pins : List (Addr × Obj)} {σ : St} {H : Hp} {s : Shared} {R : It → Hp → Prop} {E : Value → Shared → Prop} {lo hi : Int} {t u v : Tok} {tk : Nat} (I : Inv X pins σ H s) (h1 : -(2 ^ 62) ≤ lo) (h2 : lo < 2 ^ 62) (h3 : -(2 ^ 62) ≤ hi) (h4 : hi < 2 ^ 62)
    (q : R (Itr lo (hi - lo).toNat) H) : wpAny (model X.prog X.w) X.A (pyIter (.ref s.heap.objs.size)) (PIE X pins σ tg R) E { s with heap := s.heap.push { cls := .type "range", data := .fields #[.int lo t, .int hi u, .int 1 v] }, toks := tk } := by
  refine wpAny_pyIter_range (IsRange.new ..) (small_one h1 h2 h3 h4) ?_
  have I1 : Inv X pins σ H { s with heap := s.heap.push { cls := .type "range", data := .fields #[.int lo t, .int hi u, .int 1 v] }, toks := tk } := I.kept fun b o e => Heap.get?_push_of_some _ e
  refine ⟨(s.heap.push { cls := .type "range", data := .fields #[.int lo t, .int hi u, .int 1 v] }).objs.size, [(s.heap.push { cls := .type "range", data := .fields #[.int lo t, .int hi u, .int 1 v] }).objs.size], _, _, H, rfl,
    I1.kept (t' := tk) fun b o e => Heap.get?_push_of_some _ e, turn_range _ lo (hi - lo).toNat, ?_, fun b hb => ?_, q⟩
  · have e1 : lo + ((0 : Nat) : Int) * 1 = lo := by simp
    have e2 : (((hi - lo).toNat : Nat) : Int) - ((0 : Nat) : Int) = Builtin.Range.rangeSize lo hi 1 := by rw [rangeSize_one]; split <;> omega
    show IsRangeIter _ _ (lo + ((0 : Nat) : Int) * 1) ((((hi - lo).toNat : Nat) : Int) - ((0 : Nat) : Int)) 1
    rw [e1, e2]
    exact Heap.get?_push_size _ rfl
  · have e : b = (s.heap.push { cls := .type "range", data := .fields #[.int lo t, .int hi u, .int 1 v] }).objs.size := by simpa using hb
    subst e
    exact I1.fpOk (Nat.le_refl _) (I1.hok.fresh (Nat.le_refl _))
def iRng1 (ta : TA) : TI := fun σ H R => ta σ H fun vs H1 => ∃ j : Int, vs = [.int j] ∧ -(2 ^ 62) ≤ j ∧ j < 2 ^ 62 ∧ R (Itr 0 j.toNat) H1
def iRng2 (ta : TA) : TI := fun σ H R => ta σ H fun vs H1 => ∃ i j : Int, vs = [.int i, .int j] ∧ (-(2 ^ 62) ≤ i ∧ i < 2 ^ 62 ∧ -(2 ^ 62) ≤ j ∧ j < 2 ^ 62) ∧ R (Itr i (j - i).toNat) H1
theorem pi_range1 {a : Expr} {ta : TA} {p pos : Pos} (hg : Gl X "range") (hm : X.mg "range" = none) (ha : PA X [a] ta) (hs : starEach [a] X.env = [(false, eval a X.env)] := by rfl) : PI X tg (.Call (.Name "range" p) [a] [] pos) (iRng1 ta) := by
  intro pins s σ H R I h
  refine Call_ (ld_blt I hg hm boot_range (PyProof.Rows.callWith_type1 (thn (ha pos pins s σ H _ I h) fun us s1 ⟨vs, H1, I1, r1, q1⟩ => ?_) hs rfl))
  obtain ⟨j, e, q1, q2, q⟩ := q1
  subst e
  cases r1 with
  | cons r rr =>
    cases rr
    obtain ⟨t, rfl⟩ := r
    exact call_range_1 (range_it I1 (by omega) (by omega) q1 q2 (by simpa using q))
theorem pi_range2 {a b : Expr} {ta : TA} {p pos : Pos} (hg : Gl X "range") (hm : X.mg "range" = none) (ha : PA X [a, b] ta) (hs : starEach [a, b] X.env = [(false, eval a X.env), (false, eval b X.env)] := by rfl) (hs2 : starEach [b] X.env = [(false, eval b X.env)] := by rfl) :
    PI X tg (.Call (.Name "range" p) [a, b] [] pos) (iRng2 ta) := by
  intro pins s σ H R I h
  refine Call_ (ld_blt I hg hm boot_range (PyProof.Rows.callWith_type1 (thn (ha pos pins s σ H _ I h) fun us s1 ⟨vs, H1, I1, r1, q1⟩ => ?_) (by rw [hs, hs2]) (by rw [hs2]; rfl)))
  obtain ⟨i, j, e, ⟨q1, q2, q3, q4⟩, q⟩ := q1
  subst e
  cases r1 with
  | cons r rr =>
    cases rr with
    | cons r' rr =>
      cases rr
      obtain ⟨t, rfl⟩ := r
      obtain ⟨t', rfl⟩ := r'
      exact call_range_2 (range_it I1 q1 q2 q3 q4 q)

/-! ### for -/
/-- W: the invariant by the turn and a measure; N: what the body is to reach -/
def tFor (wi : TI) (g : TG) (tb : TS) : TS := fun D σ H => wi σ H fun J H1 => ∃ W : Nat → Nat → St → Hp → Prop, (∃ m, W 0 m σ H1) ∧ ∀ i m σ H, W i m σ H →
  (J.stop i H ∧ D.nx σ H) ∨ (J.go i H ∧ ∃ N : St → Hp → Prop, (∀ σ' H', N σ' H' → ∃ m', m' < m ∧ W (i + 1) m' σ' H') ∧ ∀ x H', J.yld i H x H' → g x σ H' fun σ2 H2 => tb { D with nx := N, ct := N, bk := D.nx } σ2 H2)
/-- the records at fp as they stand -/
def pinsAt (fp : List Addr) (h : Heap) : List (Addr × Obj) := fp.filterMap fun b => (h.get? b).map fun o => (b, o)
theorem mem_pinsAt {fp : List Addr} {h : Heap} {b : Addr} {o : Obj} (hb : b ∈ fp) (e : h.get? b = some o) : (b, o) ∈ pinsAt fp h := List.mem_filterMap.mpr ⟨b, hb, by rw [e]; rfl⟩
theorem of_pinsAt {fp : List Addr} {h : Heap} {p : Addr × Obj} (hp : p ∈ pinsAt fp h) : p.1 ∈ fp ∧ h.get? p.1 = some p.2 := by
  obtain ⟨b, hb, e⟩ := List.mem_filterMap.mp hp
  cases q : h.get? b with
  | none => rw [q] at e; cases e
  | some o =>
    rw [q] at e
    have e' : (b, o) = p := Option.some.inj e
    subst e'
    exact ⟨hb, q⟩
theorem Inv.pinned {pins : List (Addr × Obj)} {σ : St} {H : Hp} {s : Shared} {fp : List Addr} (I : Inv X pins σ H s) (hf : ∀ b ∈ fp, FpOk X pins H b) (ho : ∀ b ∈ fp, ∃ o, s.heap.get? b = some o ∧ ∀ v, o.data ≠ .cell v) : Inv X (pins ++ pinsAt fp s.heap) σ H s :=
  I.pins_of fun p hp => (List.mem_append.mp hp).elim (fun z => I.pin p (List.mem_append_right _ z)) fun z => by
    obtain ⟨hb, e⟩ := of_pinsAt z
    obtain ⟨f0, f1, f2, _⟩ := hf p.1 hb
    obtain ⟨o, e', d⟩ := ho p.1 hb
    rw [e] at e'; cases e'
    exact ⟨e, f0, f1, f2, d⟩
theorem Inv.unpinned {pins pl : List (Addr × Obj)} {σ : St} {H : Hp} {s : Shared} (I : Inv X (pins ++ pl) σ H s) : Inv X pins σ H s := I.pins_of fun p hp => I.pin p (List.mem_append_right _ (List.mem_append_left _ hp))
theorem ps_for {iter : Expr} {body : List Stmt} {wi : TI} {g : TG} {tb : TS} {pos : Pos} (hp : PassesOwn (model X.prog X.w) X.A X.env X.xe) (hc : X.calm = true) (hi : PI X tg iter wi) (hg : PG X tg g) (hb : PSs X body tb)
    (hs : ∀ x, foldedSetIterable iter X.env x = pure x := by intro _; rfl) : PS X (.For tg iter body [] pos) (tFor wi g tb) := by
  intro pins s σ H D I h
  refine wpAny_For (thn (hi pins s σ H _ I h) fun v s1 h1 => thn h1 fun itv s2 h2 => ?_) hs
  obtain ⟨it, fp, tn, J, H2, e, I2, T, st2, f2, W, ⟨m0, w0⟩, turn⟩ := h2
  subst e
  -- what stays true of the iterator's objects through the loop
  have stat : ∀ {H' : Hp}, (∀ b ∈ fp, H' b = none) → ∀ b ∈ fp, FpOk X pins H' b := fun hn b hb => ⟨hn b hb, (f2 b hb).2⟩
  refine codeAny_forLoop_any (fun n s' => ∃ i σ' H', Inv X pins σ' H' s' ∧ tn i s'.heap ∧ (∀ b ∈ fp, H' b = none) ∧ W i n σ' H') ?_ m0 ⟨0, σ, H2, I2, st2, fun b hb => (f2 b hb).1, w0⟩
  rintro n s3 ⟨i, σ3, H3, I3, st3, fr3, w3⟩
  rcases turn i n σ3 H3 w3 with ⟨stop, qn⟩ | ⟨go, N, hN, step⟩
  · refine wpAny_passesOwn hp (thn (T.done X rfl rfl rfl hc i pins s3 σ3 H3 X.xe I3 (stat fr3) st3 stop) fun r s4 ⟨hr, I4⟩ => ?_)
    subst hr
    exact wpAny_execs_nil ⟨σ3, H3, I4, qn⟩
  · refine wpAny_passesOwn hp (thn (T.item X rfl rfl rfl hc i pins s3 σ3 H3 X.xe I3 (stat fr3) st3 go) fun r s4 ⟨u, hr, h4⟩ => ?_)
    subst hr
    refine wpAny_passesOwn hp (thn h4 fun _ s5 ⟨x, H5, I5, r5, y5, st5, fr5⟩ => ?_)
    have I5' := I5.pinned (stat fr5) (T.obj _ _ st5)
    refine wpAny_passesOwn hp (thn (hg _ s5 σ3 H5 x u _ I5' r5 (step x H5 y5)) fun _ s6 ⟨σ6, H6, I6, q6⟩ => ?_)
    refine wpAny_passesOwn hp (thn (hb _ s6 σ6 H6 _ I6 q6) fun f s7 q7 => ?_)
    have again : ∀ {σ7 : St} {H7 : Hp}, Inv X (pins ++ pinsAt fp s5.heap) σ7 H7 s7 → N σ7 H7 → ∃ m, m < n ∧ ∃ i σ' H', Inv X pins σ' H' s7 ∧ tn i s7.heap ∧ (∀ b ∈ fp, H' b = none) ∧ W i m σ' H' := fun {σ7 H7} I7 n7 => by
      obtain ⟨m', hm, w7⟩ := hN σ7 H7 n7
      refine ⟨m', hm, i + 1, σ7, H7, I7.unpinned, T.keep _ _ _ st5 fun b hb o e => (I7.pin (b, o) (List.mem_append_right _ (List.mem_append_right _ (mem_pinsAt hb e)))).1, fun b hb => ?_, w7⟩
      obtain ⟨o, e, d⟩ := T.obj _ _ st5 b hb
      exact (I7.pin (b, o) (List.mem_append_right _ (List.mem_append_right _ (mem_pinsAt hb e)))).2.1
    cases f with
    | next => obtain ⟨σ7, H7, I7, n7⟩ := q7; exact again I7 n7
    | cont => obtain ⟨σ7, H7, I7, n7⟩ := q7; exact again I7 n7
    | brk => obtain ⟨σ7, H7, I7, q7⟩ := q7; exact ⟨σ7, H7, I7.unpinned, q7⟩
    | ret v => obtain ⟨x7, σ7, H7, I7, r7, q7⟩ := q7; exact ⟨x7, σ7, H7, I7.unpinned, r7, q7⟩
end

/-! ### the forms one uses -/
/-- over a list that the body leaves as it is -/
theorem for_list {K : PySem.W.Frag} {a : Addr} {xs : List V} {g : TG} {tb : TS} {D : Ends} {σ : St} {H : Hp} (Pv : Nat → St → Hp → Prop) (h0 : Pv 0 σ H) (hl : ∀ i σ H, i ≤ xs.length → Pv i σ H → SqL K H a xs)
    (hs : ∀ i x σ H, xs[i]? = some x → Pv i σ H → g x σ H fun σ2 H2 => tb { D with nx := Pv (i + 1), ct := Pv (i + 1), bk := D.nx } σ2 H2) (hd : ∀ σ H, Pv xs.length σ H → D.nx σ H) :
    ∃ W : Nat → Nat → St → Hp → Prop, (∃ m, W 0 m σ H) ∧ ∀ i m σ H, W i m σ H →
      ((Itl K a).stop i H ∧ D.nx σ H) ∨ ((Itl K a).go i H ∧ ∃ N : St → Hp → Prop, (∀ σ' H', N σ' H' → ∃ m', m' < m ∧ W (i + 1) m' σ' H') ∧ ∀ x H', (Itl K a).yld i H x H' → g x σ H' fun σ2 H2 => tb { D with nx := N, ct := N, bk := D.nx } σ2 H2) := by
  refine ⟨fun i m σ H => m = xs.length - i ∧ i ≤ xs.length ∧ Pv i σ H, ⟨xs.length, by simp, Nat.zero_le _, h0⟩, ?_⟩
  rintro i m σ H ⟨rfl, hi, p⟩
  have q := hl i σ H hi p
  by_cases hlt : i < xs.length
  · refine .inr ⟨⟨xs, xs[i], q, by simp [hlt]⟩, Pv (i + 1), fun σ' H' p' => ⟨xs.length - (i + 1), by omega, rfl, hlt, p'⟩, fun x H' y => ?_⟩
    obtain ⟨e, y⟩ := y
    subst e
    exact hs i x σ _ (y xs q) p
  · have e : i = xs.length := by omega
    subst e
    exact .inl ⟨⟨xs, q, Nat.le_refl _⟩, hd σ H p⟩
theorem for_tup {K : PySem.W.Frag} {a : Addr} {xs : List V} {g : TG} {tb : TS} {D : Ends} {σ : St} {H : Hp} (Pv : Nat → St → Hp → Prop) (h0 : Pv 0 σ H) (hl : ∀ i σ H, i ≤ xs.length → Pv i σ H → SqT K H a xs)
    (hs : ∀ i x σ H, xs[i]? = some x → Pv i σ H → g x σ H fun σ2 H2 => tb { D with nx := Pv (i + 1), ct := Pv (i + 1), bk := D.nx } σ2 H2) (hd : ∀ σ H, Pv xs.length σ H → D.nx σ H) :
    ∃ W : Nat → Nat → St → Hp → Prop, (∃ m, W 0 m σ H) ∧ ∀ i m σ H, W i m σ H →
      ((Itt K a).stop i H ∧ D.nx σ H) ∨ ((Itt K a).go i H ∧ ∃ N : St → Hp → Prop, (∀ σ' H', N σ' H' → ∃ m', m' < m ∧ W (i + 1) m' σ' H') ∧ ∀ x H', (Itt K a).yld i H x H' → g x σ H' fun σ2 H2 => tb { D with nx := N, ct := N, bk := D.nx } σ2 H2) := by
  refine ⟨fun i m σ H => m = xs.length - i ∧ i ≤ xs.length ∧ Pv i σ H, ⟨xs.length, by simp, Nat.zero_le _, h0⟩, ?_⟩
  rintro i m σ H ⟨rfl, hi, p⟩
  have q := hl i σ H hi p
  by_cases hlt : i < xs.length
  · refine .inr ⟨⟨xs, xs[i], q, by simp [hlt]⟩, Pv (i + 1), fun σ' H' p' => ⟨xs.length - (i + 1), by omega, rfl, hlt, p'⟩, fun x H' y => ?_⟩
    obtain ⟨e, y⟩ := y
    subst e
    exact hs i x σ _ (y xs q) p
  · have e : i = xs.length := by omega
    subst e
    exact .inl ⟨⟨xs, q, Nat.le_refl _⟩, hd σ H p⟩
theorem for_range {lo : Int} {n : Nat} {g : TG} {tb : TS} {D : Ends} {σ : St} {H : Hp} (Pv : Nat → St → Hp → Prop) (h0 : Pv 0 σ H)
    (hs : ∀ i σ H, i < n → Pv i σ H → g (.int (lo + i)) σ H fun σ2 H2 => tb { D with nx := Pv (i + 1), ct := Pv (i + 1), bk := D.nx } σ2 H2) (hd : ∀ σ H, Pv n σ H → D.nx σ H) :
    ∃ W : Nat → Nat → St → Hp → Prop, (∃ m, W 0 m σ H) ∧ ∀ i m σ H, W i m σ H →
      ((Itr lo n).stop i H ∧ D.nx σ H) ∨ ((Itr lo n).go i H ∧ ∃ N : St → Hp → Prop, (∀ σ' H', N σ' H' → ∃ m', m' < m ∧ W (i + 1) m' σ' H') ∧ ∀ x H', (Itr lo n).yld i H x H' → g x σ H' fun σ2 H2 => tb { D with nx := N, ct := N, bk := D.nx } σ2 H2) := by
  refine ⟨fun i m σ H => m = n - i ∧ i ≤ n ∧ Pv i σ H, ⟨n, by simp, Nat.zero_le _, h0⟩, ?_⟩
  rintro i m σ H ⟨rfl, hi, p⟩
  by_cases hlt : i < n
  · refine .inr ⟨hlt, Pv (i + 1), fun σ' H' p' => ⟨n - (i + 1), by omega, rfl, hlt, p'⟩, fun x H' y => ?_⟩
    obtain ⟨e, y⟩ := y
    subst e y
    exact hs i σ _ hlt p
  · have e : i = n := by omega
    subst e
    exact .inl ⟨Nat.le_refl _, hd σ H p⟩
/-- while, by a word and a measure of the state -/
theorem while_by {c : TT} {tb : TS} {D : Ends} {σ : St} {H : Hp} (Pv : St → Hp → Prop) (μ : St → Hp → Nat) (h0 : Pv σ H)
    (hs : ∀ σ H, Pv σ H → c σ H fun b H1 => if b = true then tb { D with nx := fun σ' H' => Pv σ' H' ∧ μ σ' H' < μ σ H, ct := fun σ' H' => Pv σ' H' ∧ μ σ' H' < μ σ H, bk := D.nx } σ H1 else D.nx σ H1)
    (mono : ∀ σ H Q Q', (∀ b H1, Q b H1 → Q' b H1) → c σ H Q → c σ H Q') : tWhile c tb D σ H := by
  refine ⟨fun m σ H => m = μ σ H ∧ Pv σ H, ⟨_, rfl, h0⟩, ?_⟩
  rintro m σ H ⟨rfl, p⟩
  refine mono σ H _ _ (fun b H1 q => ?_) (hs σ H p)
  cases b with
  | true => exact ⟨_, fun σ' H' ⟨p', l⟩ => ⟨_, l, rfl, p'⟩, q⟩
  | false => exact q
end L2

namespace L2
open PySem PySem.Spec PyProof.Rows

abbrev R2 := V → V → Hp → VK → Prop
/-- a two-place operation on values: f is binaryOp op, inplaceOp op or compareOp op -/
def OpR (X : Cx) (f : Value → Value → Sem Value) (r : R2) : Prop :=
  ∀ (pins : List (Addr × Obj)) (s : Shared) (σ : St) (H : Hp) (x y : V) (v u : Value) (Q : VK), Inv X pins σ H s → RelV x v → RelV y u → r x y H Q →
    wpAny (model X.prog X.w) X.A (f v u) (EP X pins σ Q) X.xe s
/-- a one-place operation -/
def UnR (X : Cx) (f : Value → Sem Value) (r : V → Hp → VK → Prop) : Prop :=
  ∀ (pins : List (Addr × Obj)) (s : Shared) (σ : St) (H : Hp) (x : V) (v : Value) (Q : VK), Inv X pins σ H s → RelV x v → r x H Q →
    wpAny (model X.prog X.w) X.A (f v) (EP X pins σ Q) X.xe s
/-- a call of a value that is known (a builtin, a type) with values -/
def CallR (X : Cx) (f : Value) (r : List V → Hp → VK → Prop) : Prop :=
  ∀ (pins : List (Addr × Obj)) (s : Shared) (σ : St) (H : Hp) (xs : List V) (us : List Value) (Q : VK), Inv X pins σ H s → Vals xs us → r xs H Q →
    wpAny (model X.prog X.w) X.A (call f us) (EP X pins σ Q) X.xe s
/-- a value's truth -/
def TruR (X : Cx) (r : V → Hp → (Bool → Hp → Prop) → Prop) : Prop :=
  ∀ (pins : List (Addr × Obj)) (s : Shared) (σ : St) (H : Hp) (x : V) (v : Value) (Q : Bool → Hp → Prop), Inv X pins σ H s → RelV x v → r x H Q →
    wpAny (model X.prog X.w) X.A (truthy v) (TP X pins σ Q) X.xe s

def tOp (r : R2) (ta tb : TE) : TE := fun σ H Q => ta σ H fun x H1 => tb σ H1 fun y H2 => r x y H2 Q
def tUn (r : V → Hp → VK → Prop) (ta : TE) : TE := fun σ H Q => ta σ H fun x H1 => r x H1 Q
/-- ints in, under C, and a value out -/
def rI (C : Int → Int → Prop) (g : Int → Int → V) : R2 := fun x y H Q => ∃ i j, x = .int i ∧ y = .int j ∧ C i j ∧ Q (g i j) H
def rI0 (g : Int → Int → V) : R2 := fun x y H Q => ∃ i j, x = .int i ∧ y = .int j ∧ Q (g i j) H
def rU (g : Int → V) : V → Hp → VK → Prop := fun x H Q => ∃ i, x = .int i ∧ Q (g i) H

section
variable {X : Cx} {a b c : Expr} {ta tb tc : TE} {pos : Pos}

theorem binT (ha : PE X a ta) (hb : PE X b tb) {pins : List (Addr × Obj)} {s : Shared} {σ : St} {H : Hp} {R : V → V → Hp → Prop} (I : Inv X pins σ H s)
    (h : ta σ H fun x H1 => tb σ H1 fun y H2 => R x y H2) {Q : Value → Shared → Prop} {f : Value → Value → Sem Value}
    (hf : ∀ v u s2 x y H2, Inv X pins σ H2 s2 → RelV x v → RelV y u → R x y H2 → wpAny (model X.prog X.w) X.A (f v u) Q X.xe s2) :
    wpAny (model X.prog X.w) X.A (eval a X.env) (fun v s₁ => wpAny (model X.prog X.w) X.A (eval b X.env) (fun u s₂ => wpAny (model X.prog X.w) X.A (f v u) Q X.xe s₂) X.xe s₁) X.xe s := by
  refine thn (ha pins s σ H _ I h) fun v s1 ⟨x, H1, I1, r1, q1⟩ => ?_
  refine thn (hb pins s1 σ H1 _ I1 q1) fun u s2 ⟨y, H2, I2, r2, q2⟩ => ?_
  exact hf v u s2 x y H2 I2 r1 r2 q2

theorem pe_op {op : Operator} {r : R2} (ho : OpR X (binaryOp op) r) (ha : PE X a ta) (hb : PE X b tb) : PE X (.BinOp a op b pos) (tOp r ta tb) := by
  intro pins s σ H Q I h
  exact wpAny_BinOp (binT ha hb I h fun v u s2 x y H2 I2 rx ry q => ho pins s2 σ H2 x y v u Q I2 rx ry q)
theorem pe_un {op : UnaryOp} {r : V → Hp → VK → Prop} (ho : UnR X (unaryOp op) r) (ha : PE X a ta) : PE X (.UnaryOp op a pos) (tUn r ta) := by
  intro pins s σ H Q I h
  exact UnaryOp_ (thn (ha pins s σ H _ I h) fun v s1 ⟨x, H1, I1, r1, q1⟩ => ho pins s1 σ H1 x v Q I1 r1 q1)
/-- a op= e at a name: the name's slot i -/
theorem augR {op : Operator} {r : R2} (ho : OpR X (inplaceOp op) r) {pins : List (Addr × Obj)} {s : Shared} {σ : St} {H : Hp} {x y : V} {v u : Value} {Q : VK} (I : Inv X pins σ H s)
    (rx : RelV x v) (ry : RelV y u) (q : r x y H Q) : wpAny (model X.prog X.w) X.A (inplaceOp op v u) (EP X pins σ Q) X.xe s := ho pins s σ H x y v u Q I rx ry q

/-! ### ints -/
theorem opI {f : Value → Value → Sem Value} {C : Int → Int → Prop} {g : Int → Int → Int}
    (rule : ∀ (i j : Int) (t u : Tok) (s : Shared) (Q : Value → Shared → Prop) (E : Value → Shared → Prop), C i j → Q (.int (g i j) s.toks) { s with toks := s.toks + 1 } → wpAny (model X.prog X.w) X.A (f (.int i t) (.int j u)) Q E s) :
    OpR X f (rI C fun i j => .int (g i j)) := by
  intro pins s σ H x y v u Q I rx ry h
  obtain ⟨i, j, rfl, rfl, hc, q⟩ := h
  obtain ⟨t, rfl⟩ := rx
  obtain ⟨t', rfl⟩ := ry
  exact rule i j t t' s _ _ hc ⟨.int (g i j), H, I.tok _, ⟨_, rfl⟩, q⟩
theorem opI0 {f : Value → Value → Sem Value} {g : Int → Int → Int}
    (rule : ∀ (i j : Int) (t u : Tok) (s : Shared) (Q : Value → Shared → Prop) (E : Value → Shared → Prop), Q (.int (g i j) s.toks) { s with toks := s.toks + 1 } → wpAny (model X.prog X.w) X.A (f (.int i t) (.int j u)) Q E s) :
    OpR X f (rI0 fun i j => .int (g i j)) := by
  intro pins s σ H x y v u Q I rx ry h
  obtain ⟨i, j, rfl, rfl, q⟩ := h
  obtain ⟨t, rfl⟩ := rx
  obtain ⟨t', rfl⟩ := ry
  exact rule i j t t' s _ _ ⟨.int (g i j), H, I.tok _, ⟨_, rfl⟩, q⟩
theorem opB0 {f : Value → Value → Sem Value} {g : Int → Int → Bool}
    (rule : ∀ (i j : Int) (t u : Tok) (s : Shared) (Q : Value → Shared → Prop) (E : Value → Shared → Prop), Q (.bool (g i j)) s → wpAny (model X.prog X.w) X.A (f (.int i t) (.int j u)) Q E s) :
    OpR X f (rI0 fun i j => .bl (g i j)) := by
  intro pins s σ H x y v u Q I rx ry h
  obtain ⟨i, j, rfl, rfl, q⟩ := h
  obtain ⟨t, rfl⟩ := rx
  obtain ⟨t', rfl⟩ := ry
  exact rule i j t t' s _ _ ⟨.bl (g i j), H, I, rfl, q⟩

def CDiv (i j : Int) : Prop := 0 < j ∧ j < 1073741824
def CDivN (i j : Int) : Prop := j ≠ 0 ∧ j.natAbs < 1073741824
def CPow (i j : Int) : Prop := 0 ≤ j ∧ j ≤ 1000000 ∧ i.natAbs < 2 ^ 64
def CMul (i j : Int) : Prop := (-(2 ^ 64) < i ∧ i < 2 ^ 64) ∨ (-(2 ^ 64) < j ∧ j < 2 ^ 64)
theorem CMul.ok {i j : Int} (h : CMul i j) : IntMulOk i j := by
  rcases h with ⟨h1, h2⟩ | ⟨h1, h2⟩
  · exact .of_left (intBits_le_64 h1 h2)
  · exact .of_right (intBits_le_64 h1 h2)
theorem two_pow_nn (k : Nat) : (0 : Int) ≤ 2 ^ k := by
  rw [two_pow_cast]
  exact Int.natCast_nonneg _

theorem op_add : OpR X (binaryOp .Add) (rI0 fun i j => .int (i + j)) := opI0 fun _ _ _ _ _ _ _ q => add_int q
theorem op_sub : OpR X (binaryOp .Sub) (rI0 fun i j => .int (i - j)) := opI0 fun _ _ _ _ _ _ _ q => sub_int q
theorem op_mul : OpR X (binaryOp .Mult) (rI CMul fun i j => .int (i * j)) := opI fun _ _ _ _ _ _ _ hc q => mul_int q hc.ok
/-- // by a positive divisor -/
theorem op_fdiv : OpR X (binaryOp .FloorDiv) (rI CDiv fun i j => .int (i / j)) := opI fun i j _ _ _ _ _ hc q => by
  have h1 : (0 : Int) < j := hc.1
  have h2 : j < 1073741824 := hc.2
  exact floordiv_int (by omega) (by rw [Int.fdiv_eq_ediv_of_nonneg i (by omega)]; exact q) (.inl (PyProof.noPylong_small (by omega)))
theorem op_fdivN : OpR X (binaryOp .FloorDiv) (rI CDivN fun i j => .int (i.fdiv j)) := opI fun _ _ _ _ _ _ _ hc q => floordiv_int hc.1 q (.inl (PyProof.noPylong_small hc.2))
/-- % by a positive divisor of any size -/
theorem op_mod : OpR X (binaryOp .Mod) (rI (fun _ j => 0 < j) fun i j => .int (i % j)) := opI fun i j _ _ _ _ _ hc q => by
  have h1 : (0 : Int) < j := hc
  exact mod_int' (by omega) (by rw [Int.fmod_eq_emod_of_nonneg i (by omega)]; exact q)
theorem op_modN : OpR X (binaryOp .Mod) (rI (fun _ j => j ≠ 0) fun i j => .int (i.fmod j)) := opI fun _ _ _ _ _ _ _ hc q => mod_int' hc q
theorem op_pow : OpR X (binaryOp .Pow) (rI CPow fun i j => .int (i ^ j.toNat)) := opI fun _ _ _ _ _ _ _ hc q => pow_int_small hc.1 hc.2.1 hc.2.2 q
theorem op_shl : OpR X (binaryOp .LShift) (rI CPow fun i j => .int (i * 2 ^ j.toNat)) := opI fun _ _ _ _ _ _ _ hc q => lshift_int_small hc.1 hc.2.1 hc.2.2 q
theorem op_shr : OpR X (binaryOp .RShift) (rI (fun _ j => 0 ≤ j) fun i j => .int (i / 2 ^ j.toNat)) := opI fun i j _ _ _ _ _ hc q =>
  rshift_int hc (by rw [Int.fdiv_eq_ediv_of_nonneg i (two_pow_nn _)]; exact q)
theorem op_and : OpR X (binaryOp .BitAnd) (rI0 fun i j => .int (Builtin.bitAnd i j)) := opI0 fun _ _ _ _ _ _ _ q => and_int q
theorem op_or : OpR X (binaryOp .BitOr) (rI0 fun i j => .int (Builtin.bitOr i j)) := opI0 fun _ _ _ _ _ _ _ q => or_int q
theorem op_xor : OpR X (binaryOp .BitXor) (rI0 fun i j => .int (Builtin.bitXor i j)) := opI0 fun _ _ _ _ _ _ _ q => xor_int q

theorem iop_add : OpR X (inplaceOp .Add) (rI0 fun i j => .int (i + j)) := opI0 fun _ _ _ _ _ _ _ q => iadd_int q
theorem iop_sub : OpR X (inplaceOp .Sub) (rI0 fun i j => .int (i - j)) := opI0 fun _ _ _ _ _ _ _ q => isub_int q
theorem iop_mul : OpR X (inplaceOp .Mult) (rI CMul fun i j => .int (i * j)) := opI fun _ _ _ _ _ _ _ hc q => imul_int q hc.ok
theorem iop_fdiv : OpR X (inplaceOp .FloorDiv) (rI CDiv fun i j => .int (i / j)) := opI fun i j _ _ _ _ _ hc q => by
  have h1 : (0 : Int) < j := hc.1
  have h2 : j < 1073741824 := hc.2
  exact ifloordiv_int (by omega) (by rw [Int.fdiv_eq_ediv_of_nonneg i (by omega)]; exact q) (.inl (PyProof.noPylong_small (by omega)))
theorem iop_mod : OpR X (inplaceOp .Mod) (rI (fun _ j => 0 < j) fun i j => .int (i % j)) := opI fun i j _ _ _ _ _ hc q => by
  have h1 : (0 : Int) < j := hc
  exact imod_int (by omega) (by rw [Int.fmod_eq_emod_of_nonneg i (by omega)]; exact q)
theorem iop_shl : OpR X (inplaceOp .LShift) (rI CPow fun i j => .int (i * 2 ^ j.toNat)) := opI fun _ _ _ _ _ _ _ hc q => ilshift_int_small hc.1 hc.2.1 hc.2.2 q
theorem iop_shr : OpR X (inplaceOp .RShift) (rI (fun _ j => 0 ≤ j) fun i j => .int (i / 2 ^ j.toNat)) := opI fun i j _ _ _ _ _ hc q =>
  irshift_int hc (by rw [Int.fdiv_eq_ediv_of_nonneg i (two_pow_nn _)]; exact q)
theorem iop_and : OpR X (inplaceOp .BitAnd) (rI0 fun i j => .int (Builtin.bitAnd i j)) := opI0 fun _ _ _ _ _ _ _ q => iand_int q
theorem iop_or : OpR X (inplaceOp .BitOr) (rI0 fun i j => .int (Builtin.bitOr i j)) := opI0 fun _ _ _ _ _ _ _ q => ior_int q
theorem iop_xor : OpR X (inplaceOp .BitXor) (rI0 fun i j => .int (Builtin.bitXor i j)) := opI0 fun _ _ _ _ _ _ _ q => ixor_int q

theorem unI {f : Value → Sem Value} {g : Int → Int}
    (rule : ∀ (i : Int) (t : Tok) (s : Shared) (Q : Value → Shared → Prop) (E : Value → Shared → Prop), Q (.int (g i) s.toks) { s with toks := s.toks + 1 } → wpAny (model X.prog X.w) X.A (f (.int i t)) Q E s) :
    UnR X f (rU fun i => .int (g i)) := by
  intro pins s σ H x v Q I rx h
  obtain ⟨i, rfl, q⟩ := h
  obtain ⟨t, rfl⟩ := rx
  exact rule i t s _ _ ⟨.int (g i), H, I.tok _, ⟨_, rfl⟩, q⟩
theorem un_neg : UnR X (unaryOp .USub) (rU fun i => .int (-i)) := unI fun _ _ _ _ _ q => neg_int q
theorem un_inv : UnR X (unaryOp .Invert) (rU fun i => .int (Builtin.bitNot i)) := unI fun _ _ _ _ _ q => invert_int q

/-! ### bools among ints: n += (a < b) -/
theorem op_add_ib : OpR X (binaryOp .Add) (fun x y H Q => ∃ i k, x = .int i ∧ y = .bl k ∧ Q (.int (i + b2i k)) H) := by
  intro pins s σ H x y v u Q I rx ry h
  obtain ⟨i, k, rfl, rfl, q⟩ := h
  obtain ⟨t, rfl⟩ := rx
  cases ry
  exact add_int_bool ⟨.int (i + b2i k), H, I.tok _, ⟨_, rfl⟩, q⟩
end

/-! ### comparisons -/
/-- the scalars that == tells apart as data does -/
def scal : V → V → Bool
  | .non, .non => true | .non, .int _ => true | .int _, .non => true | .non, .bl _ => true | .bl _, .non => true | .non, .str _ => true | .str _, .non => true
  | .int _, .int _ => true | .bl _, .bl _ => true | .str _, .str _ => true | .byt _, .byt _ => true
  | .int _, .str _ => true | .str _, .int _ => true | .bl _, .str _ => true | .str _, .bl _ => true
  | _, _ => false
def rEq : R2 := fun x y H Q => scal x y = true ∧ Q (.bl (decide (x = y))) H
def rNe : R2 := fun x y H Q => scal x y = true ∧ Q (.bl (!decide (x = y))) H

theorem dec_int {i j : Int} : decide (V.int i = V.int j) = (i == j) := by
  rw [Bool.eq_iff_iff]
  simp
theorem dec_bl {i j : Bool} : decide (V.bl i = V.bl j) = (i == j) := by
  rw [Bool.eq_iff_iff]
  simp
theorem dec_str {i j : Str} : decide (V.str i = V.str j) = (i == j) := by
  rw [Bool.eq_iff_iff]
  simp
theorem dec_byt {i j : Array UInt8} : decide (V.byt i = V.byt j) = (i.toList == j.toList) := by
  rw [Bool.eq_iff_iff]
  cases i
  cases j
  simp

section
variable {X : Cx} {a b c : Expr} {ta tb tc : TE} {pos : Pos}
theorem fin_bl {pins : List (Addr × Obj)} {σ : St} {H : Hp} {s : Shared} {Q : VK} {k k' : Bool} (I : Inv X pins σ H s) (q : Q (.bl k) H) (e : k = k') : EP X pins σ Q (.bool k') s := by
  subst e
  exact ⟨.bl k, H, I, rfl, q⟩
theorem op_eq : OpR X (compareOp .Eq) rEq := by
  intro pins s σ H x y v u Q I rx ry h
  obtain ⟨hs, q⟩ := h
  cases x with
  | non =>
    cases rx
    cases y with
    | non => cases ry; exact PySem.EqNone.eq_none_none (fin_bl I q (by simp))
    | bl j => cases ry; exact PySem.EqNone.eq_none_bool (fin_bl I q (by simp))
    | int j => obtain ⟨t', rfl⟩ := ry; exact PySem.EqNone.eq_none_int (fin_bl I q (by simp))
    | str j => obtain ⟨t', rfl⟩ := ry; exact PySem.EqNone.eq_none_str (fin_bl I q (by simp))
    | _ => exact absurd (show false = true from hs) Bool.false_ne_true
  | bl i =>
    cases rx
    cases y with
    | non => cases ry; exact PySem.EqNone.eq_bool_none (fin_bl I q (by simp))
    | bl j => cases ry; exact eq_bool (fin_bl I q dec_bl)
    | str j => obtain ⟨t', rfl⟩ := ry; exact PySem.EqMixed.eq_bool_str (fin_bl I q (by simp))
    | _ => exact absurd (show false = true from hs) Bool.false_ne_true
  | int i =>
    obtain ⟨t, rfl⟩ := rx
    cases y with
    | non => cases ry; exact PySem.EqNone.eq_int_none (fin_bl I q (by simp))
    | int j => obtain ⟨t', rfl⟩ := ry; exact eq_int (fin_bl I q dec_int)
    | str j => obtain ⟨t', rfl⟩ := ry; exact PySem.EqMixed.eq_int_str (fin_bl I q (by simp))
    | _ => exact absurd (show false = true from hs) Bool.false_ne_true
  | str i =>
    obtain ⟨t, rfl⟩ := rx
    cases y with
    | non => cases ry; exact PySem.EqNone.eq_str_none (fin_bl I q (by simp))
    | bl j => cases ry; exact PySem.EqMixed.eq_str_bool (fin_bl I q (by simp))
    | int j => obtain ⟨t', rfl⟩ := ry; exact PySem.EqMixed.eq_str_int (fin_bl I q (by simp))
    | str j => obtain ⟨t', rfl⟩ := ry; exact eq_str (fin_bl I q dec_str)
    | _ => exact absurd (show false = true from hs) Bool.false_ne_true
  | byt i =>
    obtain ⟨t, rfl⟩ := rx
    cases y with
    | byt j => obtain ⟨t', rfl⟩ := ry; exact PySem.W.eq_bytes (fin_bl I q dec_byt)
    | _ => exact absurd (show false = true from hs) Bool.false_ne_true
  | _ => cases y <;> exact absurd (show false = true from hs) Bool.false_ne_true
theorem op_ne : OpR X (compareOp .NotEq) rNe := by
  intro pins s σ H x y v u Q I rx ry h
  obtain ⟨hs, q⟩ := h
  cases x with
  | non =>
    cases rx
    cases y with
    | non => cases ry; exact PySem.EqNone.ne_none_none (fin_bl I q (by simp))
    | bl j => cases ry; exact PySem.EqNone.ne_none_bool (fin_bl I q (by simp))
    | int j => obtain ⟨t', rfl⟩ := ry; exact PySem.EqNone.ne_none_int (fin_bl I q (by simp))
    | str j => obtain ⟨t', rfl⟩ := ry; exact PySem.EqNone.ne_none_str (fin_bl I q (by simp))
    | _ => exact absurd (show false = true from hs) Bool.false_ne_true
  | bl i =>
    cases rx
    cases y with
    | non => cases ry; exact PySem.EqNone.ne_bool_none (fin_bl I q (by simp))
    | bl j => cases ry; exact ne_bool (fin_bl I q (congrArg not dec_bl))
    | str j => obtain ⟨t', rfl⟩ := ry; exact PySem.EqMixed.ne_bool_str (fin_bl I q (by simp))
    | _ => exact absurd (show false = true from hs) Bool.false_ne_true
  | int i =>
    obtain ⟨t, rfl⟩ := rx
    cases y with
    | non => cases ry; exact PySem.EqNone.ne_int_none (fin_bl I q (by simp))
    | int j => obtain ⟨t', rfl⟩ := ry; exact ne_int (fin_bl I q (congrArg not dec_int))
    | str j => obtain ⟨t', rfl⟩ := ry; exact PySem.EqMixed.ne_int_str (fin_bl I q (by simp))
    | _ => exact absurd (show false = true from hs) Bool.false_ne_true
  | str i =>
    obtain ⟨t, rfl⟩ := rx
    cases y with
    | non => cases ry; exact PySem.EqNone.ne_str_none (fin_bl I q (by simp))
    | bl j => cases ry; exact PySem.EqMixed.ne_str_bool (fin_bl I q (by simp))
    | int j => obtain ⟨t', rfl⟩ := ry; exact PySem.EqMixed.ne_str_int (fin_bl I q (by simp))
    | str j => obtain ⟨t', rfl⟩ := ry; exact ne_str (fin_bl I q (congrArg not dec_str))
    | _ => exact absurd (show false = true from hs) Bool.false_ne_true
  | byt i =>
    obtain ⟨t, rfl⟩ := rx
    cases y with
    | byt j => obtain ⟨t', rfl⟩ := ry; exact PySem.W.ne_bytes (fin_bl I q (congrArg not dec_byt))
    | _ => exact absurd (show false = true from hs) Bool.false_ne_true
  | _ => cases y <;> exact absurd (show false = true from hs) Bool.false_ne_true

theorem op_lt : OpR X (compareOp .Lt) (rI0 fun i j => .bl (decide (i < j))) := opB0 fun _ _ _ _ _ _ _ q => lt_int q
theorem op_le : OpR X (compareOp .LtE) (rI0 fun i j => .bl (decide (i ≤ j))) := opB0 fun _ _ _ _ _ _ _ q => le_int q
theorem op_gt : OpR X (compareOp .Gt) (rI0 fun i j => .bl (decide (j < i))) := opB0 fun _ _ _ _ _ _ _ q => gt_int q
theorem op_ge : OpR X (compareOp .GtE) (rI0 fun i j => .bl (decide (j ≤ i))) := opB0 fun _ _ _ _ _ _ _ q => ge_int q
theorem op_lt_str : OpR X (compareOp .Lt) (fun x y H Q => ∃ i j, x = .str i ∧ y = .str j ∧ Q (.bl (decide (i.cps.toList < j.cps.toList))) H) := by
  intro pins s σ H x y v u Q I rx ry h
  obtain ⟨i, j, rfl, rfl, q⟩ := h
  obtain ⟨t, rfl⟩ := rx
  obtain ⟨t', rfl⟩ := ry
  exact lt_str (fin_bl I q rfl)
/-- the one string within the other -/
theorem op_in_str : OpR X (compareOp .In) (fun x y H Q => ∃ i j, x = .str i ∧ y = .str j ∧ Q (.bl (!(Builtin.Str.occurrences j i 0 j.length 1).isEmpty)) H) := by
  intro pins s σ H x y v u Q I rx ry h
  obtain ⟨i, j, rfl, rfl, q⟩ := h
  obtain ⟨t, rfl⟩ := rx
  obtain ⟨t', rfl⟩ := ry
  exact in_str (fin_bl I q rfl)

/-- is None, is not None: the right side a value none -/
theorem op_isN : OpR X (compareOp .Is) (fun x y H Q => y = .non ∧ Q (.bl (decide (x = .non))) H) := by
  intro pins s σ H x y v u Q I rx ry h
  obtain ⟨rfl, q⟩ := h
  cases ry
  refine is_none_gen (fin_bl I q ?_)
  cases x <;> first
    | (cases rx; rfl)
    | (obtain ⟨t, rfl⟩ := rx; rfl)
theorem op_notN : OpR X (compareOp .IsNot) (fun x y H Q => y = .non ∧ Q (.bl (!decide (x = .non))) H) := by
  intro pins s σ H x y v u Q I rx ry h
  obtain ⟨rfl, q⟩ := h
  cases ry
  refine isnot_none_gen (fin_bl I q ?_)
  cases x <;> first
    | (cases rx; rfl)
    | (obtain ⟨t, rfl⟩ := rx; rfl)

theorem op_notin_str : OpR X (compareOp .NotIn) (fun x y H Q => ∃ i j, x = .str i ∧ y = .str j ∧ Q (.bl (!(!(Builtin.Str.occurrences j i 0 j.length 1).isEmpty))) H) := by
  intro pins s σ H x y v u Q I rx ry h
  obtain ⟨i, j, rfl, rfl, q⟩ := h
  obtain ⟨t, rfl⟩ := rx
  obtain ⟨t', rfl⟩ := ry
  exact notIn_str (fin_bl I q rfl)
/-- is, is not of two objects that are tracked lists or instances -/
def isObj : HO → Bool
  | .lst _ => true
  | .ins _ _ _ => true
  | _ => false
theorem obj_there {pins : List (Addr × Obj)} {s : Shared} {σ : St} {H : Hp} {a : Addr} {o : HO} (I : Inv X pins σ H s) (h : H a = some o) (p : isObj o = true) : ∃ ob, s.heap.get? a = some ob ∧ ob.cls ≠ .type "tuple" := by
  cases o with
  | lst xs =>
    obtain ⟨_, its, n, _, e⟩ : xs.length ≤ sizeLine ∧ ∃ (its : List Value) (n : Nat), Vals xs its ∧ s.heap.get? a = some { cls := .type "list", data := .seq its.toArray n } := I.hok a _ h
    exact ⟨_, e, (by show Value.type "list" ≠ .type "tuple"; decide +kernel)⟩
  | ins C dx fs =>
    have x := I.hok a _ h
    obtain ⟨_, _, _, e, _⟩ := x
    exact ⟨_, e, (by show Value.ref C ≠ .type "tuple"; exact fun z => by cases z)⟩
  | _ => exact absurd (show false = true from p) Bool.false_ne_true
theorem op_is_ref : OpR X (compareOp .Is) (fun x y H Q => ∃ a b oa ob, x = .ref a ∧ y = .ref b ∧ H a = some oa ∧ isObj oa = true ∧ H b = some ob ∧ isObj ob = true ∧ Q (.bl (decide (a = b))) H) := by
  intro pins s σ H x y v u Q I rx ry h
  obtain ⟨a, b, oa, ob, rfl, rfl, ha, pa, hb, pb, q⟩ := h
  cases rx
  cases ry
  obtain ⟨o1, e1, n1⟩ := obj_there I ha pa
  obtain ⟨o2, e2, _⟩ := obj_there I hb pb
  by_cases z : a = b
  · subst z
    exact wpAny_is_ref_self (fin_bl I q (by simp))
  · exact wpAny_is_ref_other z e1 e2 n1 (fin_bl I q (by simp [z]))
theorem op_isnot_ref : OpR X (compareOp .IsNot) (fun x y H Q => ∃ a b oa ob, x = .ref a ∧ y = .ref b ∧ H a = some oa ∧ isObj oa = true ∧ H b = some ob ∧ isObj ob = true ∧ Q (.bl (!decide (a = b))) H) := by
  intro pins s σ H x y v u Q I rx ry h
  obtain ⟨a, b, oa, ob, rfl, rfl, ha, pa, hb, pb, q⟩ := h
  cases rx
  cases ry
  obtain ⟨o1, e1, n1⟩ := obj_there I ha pa
  obtain ⟨o2, e2, _⟩ := obj_there I hb pb
  by_cases z : a = b
  · subst z
    exact wpAny_isNot_ref_self (fin_bl I q (by simp))
  · exact wpAny_isNot_ref_other z e1 e2 n1 (fin_bl I q (by simp [z]))

/-- two rules for one operation: by cases -/
theorem OpR.or {f : Value → Value → Sem Value} {r r' : R2} (h : OpR X f r) (h' : OpR X f r') : OpR X f (fun x y H Q => r x y H Q ∨ r' x y H Q) := by
  intro pins s σ H x y v u Q I rx ry q
  rcases q with q | q
  · exact h pins s σ H x y v u Q I rx ry q
  · exact h' pins s σ H x y v u Q I rx ry q

theorem nomark (b : Expr) {op : CmpOp} (h : op ≠ .In := by decide) (h2 : op ≠ .NotIn := by decide) : behindInMarks op b = false := by
  have e1 : (op == CmpOp.In) = false := by cases op <;> first | rfl | exact absurd rfl h
  have e2 : (op == CmpOp.NotIn) = false := by cases op <;> first | rfl | exact absurd rfl h2
  cases b <;> simp [behindInMarks, e1, e2]
/-- a comparison as a value; hm: nomark b, or (for in, not in) by with_unfolding_all rfl -/
theorem pe_cmpR {op : CmpOp} {r : R2} (ho : OpR X (compareOp op) r) (ha : PE X a ta) (hb : PE X b tb) (hm : behindInMarks op b = false) : PE X (.Compare a [op] [b] pos) (tOp r ta tb) := by
  intro pins s σ H Q I h
  exact wpAny_Compare1 (binT ha hb I h fun v u s2 x y H2 I2 rx ry q => ho pins s2 σ H2 x y v u Q I2 rx ry q) hm
/-- a reading of a value as a test -/
def tTest (t : TE) : TT := fun σ H Q => t σ H fun x H' => ∃ k, x = .bl k ∧ Q k H'
theorem pt_cmpR {op : CmpOp} {r : R2} (ho : OpR X (compareOp op) r) (ha : PE X a ta) (hb : PE X b tb) (hm : behindInMarks op b = false) : PT X (.Compare a [op] [b] pos) (tTest (tOp r ta tb)) := by
  intro pins s σ H Q I h
  refine wpAny_isTrue_Compare1 (thn (ha pins s σ H _ I h) fun v s1 ⟨x, H1, I1, r1, q1⟩ => thn (hb pins s1 σ H1 _ I1 q1) fun u s2 ⟨y, H2, I2, r2, q2⟩ =>
    thn (ho pins s2 σ H2 x y v u _ I2 r1 r2 q2) fun c s3 ⟨z, H3, I3, r3, k, e, q3⟩ => ?_) hm
  subst e
  cases r3
  exact wpAny_truthy_bool ⟨H3, I3, q3⟩
/-- a op1 b op2 c -/
def tChain (r r' : R2) (ta tb tc : TE) : TE := fun σ H Q => ta σ H fun x H1 => tb σ H1 fun y H2 => r x y H2 fun z H3 => ∃ k, z = .bl k ∧
  (if k = true then tc σ H3 fun w' H4 => r' y w' H4 Q else Q (.bl false) H3)
theorem pe_chain {op op' : CmpOp} {r r' : R2} (ho : OpR X (compareOp op) r) (ho' : OpR X (compareOp op') r') (ha : PE X a ta) (hb : PE X b tb) (hc : PE X c tc)
    (hm : lastMarks [op, op'] [b, c] = false := by with_unfolding_all rfl) : PE X (.Compare a [op, op'] [b, c] pos) (tChain r r' ta tb tc) := by
  intro pins s σ H Q I h
  refine Compare_chain (thn (ha pins s σ H _ I h) fun v s1 ⟨x, H1, I1, r1, q1⟩ => chain_link (thn (hb pins s1 σ H1 _ I1 q1) fun u s2 ⟨y, H2, I2, r2, q2⟩ =>
    thn (ho pins s2 σ H2 x y v u _ I2 r1 r2 q2) fun d s3 ⟨z, H3, I3, r3, k, e, q3⟩ => ?_)) hm
  subst e
  cases r3
  refine wpAny_truthy_bool ?_
  cases k with
  | false => exact ite_ff ⟨.bl false, H3, I3, rfl, q3⟩
  | true => exact ite_tt (chain_last (thn (hc pins s3 σ H3 _ I3 q3) fun w' s4 ⟨z', H4, I4, r4, q4⟩ => ho' pins s4 σ H4 y z' u w' Q I4 r2 r4 q4))
theorem pt_chain {op op' : CmpOp} {r r' : R2} (ho : OpR X (compareOp op) r) (ho' : OpR X (compareOp op') r') (ha : PE X a ta) (hb : PE X b tb) (hc : PE X c tc)
    (hm : lastMarks [op, op'] [b, c] = false := by with_unfolding_all rfl) : PT X (.Compare a [op, op'] [b, c] pos) (tTest (tChain r r' ta tb tc)) := by
  intro pins s σ H Q I h
  refine isTrue_chain (thn (ha pins s σ H _ I h) fun v s1 ⟨x, H1, I1, r1, q1⟩ => test_link (thn (hb pins s1 σ H1 _ I1 q1) fun u s2 ⟨y, H2, I2, r2, q2⟩ =>
    thn (ho pins s2 σ H2 x y v u _ I2 r1 r2 q2) fun d s3 ⟨z, H3, I3, r3, k, e, q3⟩ => ?_)) hm
  subst e
  cases r3
  refine wpAny_truthy_bool ?_
  cases k with
  | false =>
    obtain ⟨k', e', q'⟩ := q3
    cases e'
    exact ite_ff ⟨H3, I3, q'⟩
  | true =>
    refine ite_tt (test_last (thn (hc pins s3 σ H3 _ I3 q3) fun w' s4 ⟨z', H4, I4, r4, q4⟩ => thn (ho' pins s4 σ H4 y z' u w' _ I4 r2 r4 q4) fun d' s5 ⟨z2, H5, I5, r5, k2, e2, q5⟩ => ?_))
    subst e2
    cases r5
    exact wpAny_truthy_bool ⟨H5, I5, q5⟩

/-! ### truth -/
/-- a value's truth by the abstract heap -/
def TruV (K : PySem.W.Frag) (x : V) (H : Hp) (k : Bool) : Prop :=
  match x with
  | .non => k = false
  | .bl b => k = b
  | .int i => k = (i != 0)
  | .str y => y.length ≤ sizeLine ∧ k = ((y.length : Int) != 0)
  | .byt y => y.size ≤ sizeLine ∧ k = ((y.size : Int) != 0)
  | .ref p => (∃ xs, SqL K H p xs ∧ k = !xs.isEmpty) ∨ (∃ xs, SqT K H p xs ∧ k = !xs.isEmpty) ∨ ∃ kvs, H p = some (.dK kvs) ∧ k = !kvs.isEmpty
  | _ => False
theorem isEmpty_kv {κ : Type} {kvs : List (κ × V)} {vs : List (κ × Value)} (r : KV kvs vs) : (!vs.isEmpty) = !kvs.isEmpty := by
  cases r <;> rfl
theorem isEmpty_of {xs : List V} {its : List Value} (r : Vals xs its) : (!its.toArray.isEmpty) = !xs.isEmpty := by
  cases r <;> simp
theorem line63 : (sizeLine : Nat) < 2 ^ 63 := by rw [sizeLine_eq]; decide
theorem tru_ok : TruR X (fun x H Q => ∃ k, TruV X.K x H k ∧ Q k H) := by
  intro pins s σ H x v Q I rx h
  obtain ⟨k, e, q⟩ := h
  have hl := line63
  have hs : sizeLine = 16777216 := sizeLine_eq
  cases x with
  | non =>
    cases rx
    have e' : k = false := e
    subst e'
    exact truthy_none ⟨H, I, q⟩
  | bl b =>
    cases rx
    have e' : k = b := e
    subst e'
    exact wpAny_truthy_bool ⟨H, I, q⟩
  | int i =>
    obtain ⟨t, rfl⟩ := rx
    have e' : k = (i != 0) := e
    subst e'
    exact PySem.P.truthy_int ⟨H, I, q⟩
  | str y =>
    obtain ⟨t, rfl⟩ := rx
    obtain ⟨hy, e'⟩ : y.length ≤ sizeLine ∧ k = ((y.length : Int) != 0) := e
    subst e'
    exact PySem.P.truthy_str (by omega) ⟨H, I.tok _, q⟩
  | byt y =>
    obtain ⟨t, rfl⟩ := rx
    obtain ⟨hy, e'⟩ : y.size ≤ sizeLine ∧ k = ((y.size : Int) != 0) := e
    subst e'
    exact PySem.W.truthy_bytes (by omega) ⟨H, I.tok _, q⟩
  | ref p =>
    cases rx
    have e' : (∃ xs, SqL X.K H p xs ∧ k = !xs.isEmpty) ∨ (∃ xs, SqT X.K H p xs ∧ k = !xs.isEmpty) ∨ ∃ kvs, H p = some (.dK kvs) ∧ k = !kvs.isEmpty := e
    rcases e' with ⟨xs, hx, e'⟩ | ⟨xs, hx, e'⟩ | ⟨kvs, hx, e'⟩
    · subst e'
      obtain ⟨its, r, pl, hz⟩ := I.list hx
      have hlen := r.length
      exact wpAny_truthy_list pl.isList (by simp only [List.size_toArray]; omega) ⟨H, I.tok _, by rw [isEmpty_of r]; exact q⟩
    · subst e'
      obtain ⟨its, r, pl, hz⟩ := I.tuple hx
      have hlen := r.length
      exact truthy_tuple pl (by simp only [List.size_toArray]; omega) ⟨H, I.tok _, by rw [isEmpty_of r]; exact q⟩
    · subst e'
      obtain ⟨hz, hS, vs, r, m⟩ : kvs.length ≤ sizeLine ∧ (p == sysModules) = false ∧ ∃ vs, KV kvs vs ∧ s.heap.DictOf (mixKind X.prog X.w) p vs := I.hok p _ hx
      have hlen : kvs.length = vs.length := Paired.length r
      exact wpAny_truthy_dict hS m (by omega) ⟨H, I.tok _, by rw [isEmpty_kv r]; exact q⟩
  | _ => exact (show False from e).elim
/-- any expression whose test is its value's truth (a name, a call, a subscript, a field ..: he by fun _ => rfl) -/
theorem pt_truth (ha : PE X a ta) (he : ∀ whole, isTrue a X.env whole = (do let v ← whole; standAt a.pos; holding [v] (truthy v))) :
    PT X a (fun σ H Q => ta σ H fun x H' => ∃ k, TruV X.K x H' k ∧ Q k H') := by
  intro pins s σ H Q I h
  exact isTrue_plain (thn (ha pins s σ H _ I h) fun v s1 ⟨x, H1, I1, r1, q1⟩ => tru_ok pins s1 σ H1 x v Q I1 r1 q1) (he _)

/-! ### strs and bytes -/
theorem pe_byt {x : List UInt8} {k : Nat} : PE X (.Constant (.bytes x) k pos) (fun _ H Q => Q (.byt x.toArray) H) := fun _ _ _ H _ I h => PySem.W.Constant_bytes ⟨.byt x.toArray, H, I.tok _, ⟨_, rfl⟩, h⟩
theorem op_add_str : OpR X (binaryOp .Add) (fun x y H Q => ∃ i j, x = .str i ∧ y = .str j ∧ i.length + j.length ≤ sizeLine ∧ Q (.str (i ++ j)) H) := by
  intro pins s σ H x y v u Q I rx ry h
  obtain ⟨i, j, rfl, rfl, hz, q⟩ := h
  obtain ⟨t, rfl⟩ := rx
  obtain ⟨t', rfl⟩ := ry
  exact add_str (fun t' tk => ⟨.str (i ++ j), H, I.tok _, ⟨_, rfl⟩, q⟩) hz
theorem iop_add_str : OpR X (inplaceOp .Add) (fun x y H Q => ∃ i j, x = .str i ∧ y = .str j ∧ i.length + j.length ≤ sizeLine ∧ Q (.str (i ++ j)) H) := by
  intro pins s σ H x y v u Q I rx ry h
  obtain ⟨i, j, rfl, rfl, hz, q⟩ := h
  obtain ⟨t, rfl⟩ := rx
  obtain ⟨t', rfl⟩ := ry
  exact iadd_str (fun t' tk => ⟨.str (i ++ j), H, I.tok _, ⟨_, rfl⟩, q⟩) hz
theorem op_add_byt : OpR X (binaryOp .Add) (fun x y H Q => ∃ i j, x = .byt i ∧ y = .byt j ∧ i.size + j.size ≤ 16777216 ∧ Q (.byt (i ++ j)) H) := by
  intro pins s σ H x y v u Q I rx ry h
  obtain ⟨i, j, rfl, rfl, hz, q⟩ := h
  obtain ⟨t, rfl⟩ := rx
  obtain ⟨t', rfl⟩ := ry
  exact PySem.W.KBy.add_bytes hz (fun t' tk => ⟨.byt (i ++ j), H, I.tok _, ⟨_, rfl⟩, q⟩)

def PlainIxT (b : Expr) : Prop := ∀ o i, subscripted b false o i = operate [o, i] (getItem o i)
/-- s[i], 0 ≤ i < len -/
theorem pe_item_str (ha : PE X a ta) (hb : PE X b tb) (hs : PlainIxT b) :
    PE X (.Subscript a b pos) (tOp (fun x y H Q => ∃ z i c, x = .str z ∧ y = .int i ∧ 0 ≤ i ∧ i < 2 ^ 63 ∧ i < z.length ∧ z.cps[i.toNat]? = some c ∧ Q (.str ⟨#[c]⟩) H) ta tb) := by
  intro pins s σ H Q I h
  refine Subscript_ (binT ha hb I h fun v u s2 x y H2 I2 rx ry q => ?_)
  obtain ⟨z, i, c, rfl, rfl, h0, h63, h1, hc, q⟩ := q
  obtain ⟨t, rfl⟩ := rx
  obtain ⟨t', rfl⟩ := ry
  have e : seqIndex? i z.length = some i.toNat := PySem.StrLaws.seqIndex_nonneg h0 h1
  exact tail_any (typeIs_str s2 z t) slot_str_getitem.lookup (getItem_str (c := c) (by
    have e1 : decide (i < -(2 ^ 63 : Int)) = false := decide_eq_false (by omega)
    have e2 : decide (i ≥ 2 ^ 63) = false := decide_eq_false (by omega)
    rw [e1, e2] <;> rfl) (by rw [e]; exact hc) ⟨.str ⟨#[c]⟩, H2, I2.tok _, ⟨_, rfl⟩, q⟩) (hs _ _)
/-- b[i], 0 ≤ i < len -/
theorem pe_item_byt (ha : PE X a ta) (hb : PE X b tb) (hs : PlainIxT b) :
    PE X (.Subscript a b pos) (tOp (fun x y H Q => ∃ (z : List UInt8) (i : Int), x = .byt z.toArray ∧ y = .int i ∧ z.length ≤ sizeLine ∧ 0 ≤ i ∧ i < z.length ∧ Q (.int ((z.getD i.toNat 0).toNat : Nat)) H) ta tb) := by
  intro pins s σ H Q I h
  refine Subscript_ (binT ha hb I h fun v u s2 x y H2 I2 rx ry q => ?_)
  obtain ⟨z, i, rfl, rfl, hz, h0, h1, q⟩ := q
  obtain ⟨t, rfl⟩ := rx
  obtain ⟨t', rfl⟩ := ry
  have hl : sizeLine = 16777216 := sizeLine_eq
  exact tail_any (PySem.W.typeIs_bytes s2 z.toArray t) PySem.W.FB.slot_bytes_getitem.lookup (PySem.W.getItem_bytes (by omega) h0 h1 ⟨.int ((z.getD i.toNat 0).toNat : Nat), H2, I2.tok _, ⟨_, rfl⟩, q⟩) (hs _ _)

/-! ### scalar builtins, by CallR -/
theorem vals1 {x : V} {us : List Value} (r : Vals [x] us) : ∃ u, us = [u] ∧ RelV x u := by
  cases r with
  | cons r1 r2 => cases r2; exact ⟨_, rfl, r1⟩
theorem vals2 {x y : V} {us : List Value} (r : Vals [x, y] us) : ∃ u w', us = [u, w'] ∧ RelV x u ∧ RelV y w' := by
  cases r with
  | cons r1 r2 =>
    cases r2 with
    | cons r3 r4 => cases r4; exact ⟨_, _, rfl, r1, r3⟩
theorem call_abs : CallR X (.builtin "abs") (fun xs H Q => ∃ i, xs = [.int i] ∧ Q (.int (if i < 0 then -i else i)) H) := by
  intro pins s σ H xs us Q I r h
  obtain ⟨i, rfl, q⟩ := h
  obtain ⟨u, rfl, t, rfl⟩ := vals1 r
  exact call_abs_int fun u tk => ⟨.int (if i < 0 then -i else i), H, I.tok _, ⟨_, rfl⟩, q⟩
theorem call_max2 (hc : X.calm = true) : CallR X (.builtin "max") (fun xs H Q => ∃ i j, xs = [.int i, .int j] ∧ Q (.int (if j > i then j else i)) H) := by
  intro pins s σ H xs us Q I r h
  obtain ⟨i, j, rfl, q⟩ := h
  obtain ⟨u, w', rfl, ⟨t, rfl⟩, ⟨t', rfl⟩⟩ := vals2 r
  refine max_two_ints (I.ok.hd hc) fun h' tk k => ⟨_, H, I.kept k, ?_, q⟩
  by_cases hj : j > i
  · rw [if_pos hj, if_pos hj]; exact ⟨_, rfl⟩
  · rw [if_neg hj, if_neg hj]; exact ⟨_, rfl⟩
theorem call_min2 (hc : X.calm = true) : CallR X (.builtin "min") (fun xs H Q => ∃ i j, xs = [.int i, .int j] ∧ Q (.int (if j < i then j else i)) H) := by
  intro pins s σ H xs us Q I r h
  obtain ⟨i, j, rfl, q⟩ := h
  obtain ⟨u, w', rfl, ⟨t, rfl⟩, ⟨t', rfl⟩⟩ := vals2 r
  refine min_two_ints (I.ok.hd hc) fun h' tk k => ⟨_, H, I.kept k, ?_, q⟩
  by_cases hj : j < i
  · rw [if_pos hj, if_pos hj]; exact ⟨_, rfl⟩
  · rw [if_neg hj, if_neg hj]; exact ⟨_, rfl⟩
theorem call_int1 : CallR X (.type "int") (fun xs H Q => (∃ i, xs = [.int i] ∧ Q (.int i) H) ∨ ∃ k, xs = [.bl k] ∧ Q (.int (if k then 1 else 0)) H) := by
  intro pins s σ H xs us Q I r h
  rcases h with ⟨i, rfl, q⟩ | ⟨k, rfl, q⟩
  · obtain ⟨u, rfl, t, rfl⟩ := vals1 r
    exact call_int_int ⟨.int i, H, I, ⟨_, rfl⟩, q⟩
  · obtain ⟨u, rfl, r1⟩ := vals1 r
    cases r1
    exact call_int_bool ⟨.int (if k then 1 else 0), H, I.tok _, ⟨_, rfl⟩, q⟩
theorem call_bool1 : CallR X (.type "bool") (fun xs H Q => (∃ i, xs = [.int i] ∧ Q (.bl (i != 0)) H) ∨ ∃ k, xs = [.bl k] ∧ Q (.bl k) H) := by
  intro pins s σ H xs us Q I r h
  rcases h with ⟨i, rfl, q⟩ | ⟨k, rfl, q⟩
  · obtain ⟨u, rfl, t, rfl⟩ := vals1 r
    exact call_bool_int ⟨.bl (i != 0), H, I, rfl, q⟩
  · obtain ⟨u, rfl, r1⟩ := vals1 r
    cases r1
    exact call_bool_bool ⟨.bl k, H, I, rfl, q⟩
theorem call_str_int : CallR X (.type "str") (fun xs H Q => ∃ i, xs = [.int i] ∧ i.natAbs.log2 < 1920 ∧ Q (.str (toString i)) H) := by
  intro pins s σ H xs us Q I r h
  obtain ⟨i, rfl, hz, q⟩ := h
  obtain ⟨u, rfl, t, rfl⟩ := vals1 r
  exact PySem.P.str_of_int hz ⟨.str _, H, I.tok _, ⟨_, rfl⟩, q⟩
theorem call_ord : CallR X (.builtin "ord") (fun xs H Q => ∃ x, xs = [.str x] ∧ x.length = 1 ∧ Q (.int (x.cps.getD 0 0 : Nat)) H) := by
  intro pins s σ H xs us Q I r h
  obtain ⟨x, rfl, hz, q⟩ := h
  obtain ⟨u, rfl, t, rfl⟩ := vals1 r
  exact ord_of_one hz ⟨.int _, H, I.tok _, ⟨_, rfl⟩, q⟩
theorem call_chr : CallR X (.builtin "chr") (fun xs H Q => ∃ i, xs = [.int i] ∧ 0 ≤ i ∧ i ≤ 1114111 ∧ Q (.str ⟨#[i.toNat]⟩) H) := by
  intro pins s σ H xs us Q I r h
  obtain ⟨i, rfl, h0, h1, q⟩ := h
  obtain ⟨u, rfl, t, rfl⟩ := vals1 r
  exact chr_of_range h0 h1 ⟨.str _, H, I.tok _, ⟨_, rfl⟩, q⟩
/-- len of a str, a bytes, a list, a tuple -/
def LenV (K : PySem.W.Frag) (x : V) (H : Hp) (n : Nat) : Prop :=
  match x with
  | .str y => y.length ≤ sizeLine ∧ n = y.length
  | .byt y => y.size ≤ sizeLine ∧ n = y.size
  | .ref p => (∃ xs, SqL K H p xs ∧ n = xs.length) ∨ ∃ xs, SqT K H p xs ∧ n = xs.length
  | _ => False
theorem call_len : CallR X (.builtin "len") (fun xs H Q => ∃ x n, xs = [x] ∧ LenV X.K x H n ∧ Q (.int n) H) := by
  intro pins s σ H xs us Q I r h
  obtain ⟨x, n, rfl, e, q⟩ := h
  obtain ⟨u, rfl, rx⟩ := vals1 r
  have hl := line63
  have hs : sizeLine = 16777216 := sizeLine_eq
  cases x with
  | str y =>
    obtain ⟨t, rfl⟩ := rx
    obtain ⟨hy, e'⟩ : y.length ≤ sizeLine ∧ n = y.length := e
    subst e'
    exact len_str (by omega) ⟨.int _, H, I.tok _, ⟨_, rfl⟩, q⟩
  | byt y =>
    obtain ⟨t, rfl⟩ := rx
    obtain ⟨hy, e'⟩ : y.size ≤ sizeLine ∧ n = y.size := e
    subst e'
    exact PySem.W.len_bytes (by omega) ⟨.int _, H, I.tok _, ⟨_, rfl⟩, q⟩
  | ref p =>
    cases rx
    have e' : (∃ xs, SqL X.K H p xs ∧ n = xs.length) ∨ ∃ xs, SqT X.K H p xs ∧ n = xs.length := e
    rcases e' with ⟨xs, hx, e'⟩ | ⟨xs, hx, e'⟩
    · subst e'
      obtain ⟨its, r', pl, hz⟩ := I.list hx
      have hlen := r'.length
      exact Calls.call_len_list pl.isList (by simp only [List.size_toArray]; omega) ⟨.int xs.length, H, I.tok _, ⟨_, by simp only [List.size_toArray]; rw [hlen]⟩, q⟩
    · subst e'
      obtain ⟨its, r', pl, hz⟩ := I.tuple hx
      have hlen := r'.length
      exact len_tuple pl (by simp only [List.size_toArray]; omega) ⟨.int xs.length, H, I.tok _, ⟨_, by simp only [List.size_toArray]; rw [hlen]⟩, q⟩
  | _ => exact (show False from e).elim
/-- divmod: a new tuple -/
theorem call_divmod : CallR X (.builtin "divmod") (fun xs H Q => ∃ i j, xs = [.int i, .int j] ∧ CDiv i j ∧ ∀ p, H p = none → Q (.ref p) (upd H p (.tup [.int (i / j), .int (i % j)]))) := by
  intro pins s σ H xs us Q I r h
  obtain ⟨i, j, rfl, ⟨h1, h2⟩, q⟩ := h
  obtain ⟨u, w', rfl, ⟨t, rfl⟩, ⟨t', rfl⟩⟩ := vals2 r
  refine divmod_int (by omega) ?_ (.inl (PyProof.noPylong_small (by omega)))
  rw [Int.fdiv_eq_ediv_of_nonneg i (by omega), Int.fmod_eq_emod_of_nonneg i (by omega)]
  have hn : H s.heap.objs.size = none := I.hok.fresh (Nat.le_refl _)
  refine ⟨.ref s.heap.objs.size, _, ?_, rfl, q _ hn⟩
  refine I.laid (fun b o e => Heap.get?_push_of_some _ e) (Nat.le_refl _) ⟨by simp only [List.length_cons, List.length_nil]; rw [sizeLine_eq]; decide, [.int (i / j) s.toks, .int (i % j) (s.toks + 1)], .cons ⟨_, rfl⟩ (.cons ⟨_, rfl⟩ .nil), ?_⟩
  exact ⟨_, Heap.get?_push_size s.heap rfl, rfl, 0, rfl⟩
end
end L2

namespace L2
open PySem PySem.Spec PyProof.Rows

/-! ### an instance, its attributes a map -/
structure ObjM (h : Heap) (x dx C : Addr) (mA : Str → Option Value) : Prop where
  obj : h.get? x = some (PySem.W.instObj C dx)
  ns : h.Ns1 dx mA
  ne : dx ≠ x

theorem lookIn_ns {h : Heap} {dx : Addr} {mA : Str → Option Value} (n : h.Ns1 dx mA) : ∃ od, h.get? dx = some od ∧ ∀ name, PySem.W.lookIn name od = some (mA name) := by
  obtain ⟨o, es, ep, ho, hd, hk, _, hm⟩ := n
  refine ⟨o, ho, fun name => ?_⟩
  have e := hm name
  unfold nsFind findBy at e
  rw [← Array.find?_toList] at e
  unfold PySem.W.lookIn
  rw [hd]
  dsimp only
  split
  · rename_i y q
    rw [q] at e
    exact congrArg some e
  · rename_i q
    rw [q] at e
    have a : es.toList.any (·.refKey) = false := by
      rw [List.any_eq_false]
      intro y hy
      obtain ⟨z, t, hkey⟩ := hk y (Array.mem_toList_iff.mp hy)
      simp [DictEntry.refKey, hkey]
    have a' : ¬ es.toList.any (·.refKey) = true := by rw [a]; exact Bool.false_ne_true
    rw [if_neg a']
    exact congrArg some e

theorem ObjM.look {h : Heap} {x dx C : Addr} {mA : Str → Option Value} (I : ObjM h x dx C mA) : ∃ od, PySem.W.InstAt h x (PySem.W.instObj C dx) C (some od) ∧ ∀ name, PySem.W.lookIn name od = some (mA name) :=
  let ⟨od, ho, hl⟩ := lookIn_ns I.ns
  ⟨od, ⟨I.obj, rfl, rfl, ho⟩, hl⟩

section
variable {prog : Program} {w : World} {A : Around} {E : Value → Shared → Prop} {s : Shared} {K : PySem.W.Frag} {x dx C f : Addr} {mA : Str → Option Value} {name : Str} {v : Value}

theorem get_map {expr : Bool} {Q : Value → Shared → Prop} (X : K.In s.heap) (I : ObjM s.heap x dx C mA) (hg : PySem.W.plainGet K C name = true) (hh : PySem.W.hasDictIn K C = true)
    (ha : PySem.W.findIn K (.ref C) name = some none) (hv : mA name = some v) (hv' : PySem.W.handedIn v = true) (h : Q v { s with toks := s.toks + 1 }) :
    wpAny (model prog w) A (getAttr (.ref x) name expr) Q E s := by
  obtain ⟨od, J, hl⟩ := I.look
  exact PySem.W.get_value X J (PySem.W.plainGet_of hg).1 (PySem.W.findObj_own hh ha rfl (by rw [hl, hv])) hv' h

theorem get_const {expr : Bool} {a : Value} {Q : Value → Shared → Prop} (X : K.In s.heap) (I : ObjM s.heap x dx C mA) (hg : PySem.W.plainGet K C name = true) (hh : PySem.W.hasDictIn K C = true)
    (ha : PySem.W.findIn K (.ref C) name = some (some a)) (hn : PySem.W.specialIn K a "__get__" = some none) (hc : PySem.W.copiedNames.contains name = false) (hv : mA name = none) (hv' : PySem.W.handedIn a = true)
    (h : Q a { s with toks := s.toks + 1 }) : wpAny (model prog w) A (getAttr (.ref x) name expr) Q E s := by
  obtain ⟨od, J, hl⟩ := I.look
  exact PySem.W.get_value X J (PySem.W.plainGet_of hg).1 (PySem.W.findObj_cls hh ha hn hv' hc (by rw [hl, hv])) hv' h

theorem get_meth {pl : Sem Bool} {Q : Value × List Value → Shared → Prop} (X : K.In s.heap) (I : ObjM s.heap x dx C mA) (hg : PySem.W.plainGet K C name = true)
    (hf : PySem.W.findIn K (.ref C) name = some (some (.ref f))) (ht : PySem.W.isFn K (.ref f) = true) (hv : mA name = none) (h : Q (.ref f, [.ref x]) s) :
    wpAny (model prog w) A (getMethod (.ref x) name pl) Q E s := by
  obtain ⟨od, J, hl⟩ := I.look
  exact PySem.W.method_fn X J (PySem.W.plainGet_of hg).1 (PySem.W.plainGet_of hg).2 hf (beq_iff_eq.mp ht) (by show (PySem.W.lookIn name od).map (·.isSome) = some false; rw [hl, hv]; rfl) h

theorem set_map {ns : List Str} {Q : Unit → Shared → Prop} (X : K.In s.heap) (I : ObjM s.heap x dx C mA)
    (hs : PySem.W.findIn K (.ref C) "__setattr__" = some (some (.builtin "object.__setattr__"))) (hp : PySem.W.plainOver K C = true) (ht : PySem.W.takerIn K C name = some none) (hh : PySem.W.hasDictIn K C = true)
    (hw : PySem.Within mA ns) (hsz : ns.length ≤ sizeLine)
    (h : ∀ h', ObjM h' x dx C (fun y => if y = name then some v else mA y) → Heap.SameBut dx s.heap h' → Q () { s with heap := h', toks := s.toks + 2 }) :
    wpAny (model prog w) A (setAttr (.ref x) name v) Q E s := by
  obtain ⟨od, J, hl⟩ := I.look
  refine PySem.W.set_plain X J hs (PySem.W.osa_open (s := { s with toks := s.toks + 1 }) (r := none) X J hp ht fun b => ?_)
  obtain ⟨cd, hc, hd'⟩ := PySem.W.any_some hh
  have hx : s.heap.get? x = some ⟨.ref C, some dx, .plain, #[]⟩ := I.obj
  refine wpAny_bind (wpAny_pure (wpAny_bind (wpAny_bind (wpAny_loadPart hx (wpAny_bind (PySem.W.Looks.here (s := { s with toks := s.toks + 1 }) (PySem.W.looks_clsIn X hc) ?_))))))
  rw [hd']
  refine wpAny_pure (a := some dx) (wpAny_bind (wpAny_pure (wpAny_bind ?_)))
  refine wpAny_nsSet1 (s := { s with toks := s.toks + 1 }) I.ns fun h' hn2 hs2 => ?_
  obtain ⟨oD, esD, epD, hoD, hdD, hcD⟩ := hn2.count (PySem.Within.cons name v hw)
  refine wpAny_bind (wpAny_lookBehind hoD (by rw [hdD]; exact pastItsLine_dict (Nat.le_trans hcD (by rw [List.length_cons]; omega))) ?_)
  exact wpAny_pure (h _ ⟨(hs2.2 _ (Ne.symm I.ne)).trans I.obj, hn2, I.ne⟩ hs2)

/-- C(..): the dict at the heap's end, the instance behind it; then its __init__ -/
theorem make_map {R : Result → Shared → Prop} {vs : List Value} {kw : List (Str × Value)} (X : K.In s.heap) (hm : PySem.W.makesIn K C = true)
    (hi : PySem.W.findIn K (.ref C) "__init__" = some (some (.ref f))) (hf : PySem.W.typeIn K (.ref f) = some (.type "function"))
    (h : codeAny (model prog w) (A.under (.builtin "type.__call__" ⟨.ref C :: vs, kw⟩)) (.call (.ref f) ⟨.ref (s.heap.objs.size + 1) :: vs, kw⟩) (PySem.W.InitBack (s.heap.objs.size + 1) R)
      { s with heap := (s.heap.push PySem.W.emptyDict).push (PySem.W.instObj C s.heap.objs.size) }) :
    codeAny (model prog w) A (.call (.ref C) ⟨vs, kw⟩) R s := by
  obtain ⟨hh, g, d, t, os⟩ := s
  exact PySem.W.make_core (PySem.W.makes_of X hm) (PySem.W.looks_findIn X hi) (fun self => PySem.W.bind_fn X self hf) (.inl rfl) h
/-- C() where there is no __init__ but object's -/
theorem make_map0 {R : Result → Shared → Prop} (X : K.In s.heap) (hm : PySem.W.makesIn K C = true)
    (hi : PySem.W.findIn K (.ref C) "__init__" = some (some (.builtin "object.__init__")))
    (hb : ∀ self, PySem.W.Looks (model prog w) s.heap (bindSpecial (.builtin "object.__init__") self) (.builtin "object.__init__", [self]))
    (h : codeAny (model prog w) (A.under (.builtin "type.__call__" ⟨[.ref C], []⟩)) (.call (.builtin "object.__init__") ⟨[.ref (s.heap.objs.size + 1)], []⟩) (PySem.W.InitBack (s.heap.objs.size + 1) R)
      { s with heap := (s.heap.push PySem.W.emptyDict).push (PySem.W.instObj C s.heap.objs.size) }) :
    codeAny (model prog w) A (.call (.ref C) ⟨[], []⟩) R s := by
  obtain ⟨hh, g, d, t, os⟩ := s
  exact PySem.W.make_core (PySem.W.makes_of X hm) (PySem.W.looks_findIn X hi) hb (.inr ⟨rfl, rfl⟩) h
end

/-! ### the attributes as a list of pairs -/
def putF (f : Str) (v : V) : List (Str × V) → List (Str × V)
  | [] => [(f, v)]
  | (g, x) :: r => if g = f then (g, v) :: r else (g, x) :: putF f v r
theorem lookup_putF (f g : Str) (v : V) : ∀ fs : List (Str × V), (putF f v fs).lookup g = if g = f then some v else fs.lookup g
  | [] => by
    show List.lookup g [(f, v)] = _
    by_cases h : g = f
    · have hb : (g == f) = true := beq_iff_eq.mpr h
      simp only [List.lookup, hb, if_pos h]
    · have hb : (g == f) = false := beq_eq_false_iff_ne.mpr h
      simp only [List.lookup, hb, if_neg h]
  | (k, x) :: r => by
    have ih := lookup_putF f g v r
    rw [show putF f v ((k, x) :: r) = (if k = f then (k, v) :: r else (k, x) :: putF f v r) from rfl]
    by_cases hk : k = f
    · rw [if_pos hk]
      by_cases h : g = k
      · have hb : (g == k) = true := beq_iff_eq.mpr h
        simp only [List.lookup, hb, if_pos (h.trans hk)]
      · have hb : (g == k) = false := beq_eq_false_iff_ne.mpr h
        simp only [List.lookup, hb, if_neg (fun e : g = f => h (e.trans hk.symm))]
    · rw [if_neg hk]
      by_cases h : g = k
      · have hb : (g == k) = true := beq_iff_eq.mpr h
        simp only [List.lookup, hb, if_neg (fun e : g = f => hk (h.symm.trans e))]
      · have hb : (g == k) = false := beq_eq_false_iff_ne.mpr h
        simp only [List.lookup, hb]
        exact ih
theorem keys_putF (f : Str) (v : V) : ∀ fs : List (Str × V), f ∈ (putF f v fs).map (·.1) ∧ ∀ g, g ∈ fs.map (·.1) → g ∈ (putF f v fs).map (·.1)
  | [] => ⟨by simp [putF], fun g h => by simp at h⟩
  | (k, x) :: r => by
    obtain ⟨i1, i2⟩ := keys_putF f v r
    rw [show putF f v ((k, x) :: r) = (if k = f then (k, v) :: r else (k, x) :: putF f v r) from rfl]
    by_cases hk : k = f
    · rw [if_pos hk]
      subst hk
      exact ⟨by simp, fun g h => by simpa using h⟩
    · rw [if_neg hk]
      refine ⟨?_, fun g h => ?_⟩
      · rw [List.map_cons]
        exact List.mem_cons_of_mem _ i1
      · rw [List.map_cons] at h ⊢
        rcases List.mem_cons.mp h with e | e
        · exact List.mem_cons.mpr (.inl e)
        · exact List.mem_cons_of_mem _ (i2 g e)
theorem length_putF (f : Str) (v : V) : ∀ fs : List (Str × V), (putF f v fs).length ≤ fs.length + 1
  | [] => by simp [putF]
  | (k, x) :: r => by
    have ih := length_putF f v r
    rw [show putF f v ((k, x) :: r) = (if k = f then (k, v) :: r else (k, x) :: putF f v r) from rfl]
    by_cases hk : k = f
    · rw [if_pos hk, List.length_cons, List.length_cons]; omega
    · rw [if_neg hk, List.length_cons, List.length_cons]; omega

theorem RelO.some_of {v : V} {o : Option Value} (r : RelO (some v) o) : ∃ u, o = some u ∧ RelV v u := by
  cases o with
  | none => exact (show False from r).elim
  | some u => exact ⟨u, rfl, r⟩
theorem RelO.none_of {o : Option Value} (r : RelO none o) : o = none := by
  cases o with
  | none => rfl
  | some u => exact (show False from r).elim
theorem handed_of {v : V} {u : Value} (r : RelV v u) : PySem.W.handedIn u = true := by
  cases v with
  | non => cases (show u = Value.none from r); rfl
  | bl b => cases (show u = Value.bool b from r); rfl
  | int i => obtain ⟨t, e⟩ := (show ∃ t, u = Value.int i t from r); cases e; rfl
  | str x => obtain ⟨t, e⟩ := (show ∃ t, u = Value.str x t from r); cases e; rfl
  | byt b => obtain ⟨t, e⟩ := (show ∃ t, u = Value.bytes b t from r); cases e; rfl
  | flt b => obtain ⟨t, e⟩ := (show ∃ t, u = Value.float b t from r); cases e; rfl
  | ref a => cases (show u = Value.ref a from r); rfl
  | ty n => cases (show u = Value.type n from r); rfl

section
variable {P : Program} {w : World} {H H' : Hp} {h h' : Heap} {a C dx : Addr} {fs fs' : List (Str × V)}
theorem ins_get (hok : HOk P w H h) (e : H a = some (.ins C dx fs)) : ∃ mA, ObjM h a dx C mA ∧ (∀ f, RelO (fs.lookup f) (mA f)) ∧ PySem.Within mA (fs.map (·.1)) ∧ fs.length ≤ 1000 ∧ H dx = some (.own a) := by
  obtain ⟨d, z, ne, ob, mA, n, r, q⟩ := (show ObjOk P w H h a (.ins C dx fs) from hok a _ e)
  exact ⟨mA, ⟨ob, n, ne⟩, r, q, z, d⟩
end

/-! ### what of the text a class must have -/
structure Cls (K : PySem.W.Frag) (C : Addr) : Prop where
  pg : PySem.W.plainGet K C Str.empty = true
  hd : PySem.W.hasDictIn K C = true
  po : PySem.W.plainOver K C = true
  sa : PySem.W.findIn K (.ref C) "__setattr__" = some (some (.builtin "object.__setattr__"))
theorem Cls.get {K : PySem.W.Frag} {C : Addr} (c : Cls K C) (f : Str) : PySem.W.plainGet K C f = true := c.pg
/-- no class of it has the name -/
def NoAttr (K : PySem.W.Frag) (C : Addr) (f : Str) : Prop := PySem.W.findIn K (.ref C) f = some none
theorem NoAttr.taker {K : PySem.W.Frag} {C : Addr} {f : Str} (n : NoAttr K C f) : PySem.W.takerIn K C f = some none := by
  unfold PySem.W.takerIn
  rw [show PySem.W.findIn K (.ref C) f = some none from n]
  rfl
/-- a constant of the class -/
structure Con (K : PySem.W.Frag) (C : Addr) (f : Str) (v : V) (u : Value) : Prop where
  at_ : PySem.W.findIn K (.ref C) f = some (some u)
  rel : RelV v u
  get : PySem.W.specialIn K u "__get__" = some none
  cp : PySem.W.copiedNames.contains f = false
/-- a method: a plain def of the class or of one above it -/
structure Meth (K : PySem.W.Frag) (C : Addr) (m : Str) (f : Addr) : Prop where
  at_ : PySem.W.findIn K (.ref C) m = some (some (.ref f))
  fn : PySem.W.isFn K (.ref f) = true
  kp : PySem.W.keepIn K (.ref f) = true

section
variable {X : Cx} {pins : List (Addr × Obj)} {σ : St} {H : Hp} {s : Shared} {a C dx : Addr} {fs : List (Str × V)} {f : Str} {v : V} {A : Around} {E : Value → Shared → Prop}

theorem getattr_ok {b : Bool} {Q : Value → Shared → Prop} (I : Inv X pins σ H s) (e : H a = some (.ins C dx fs)) (c : Cls X.K C) (n : NoAttr X.K C f) (l : fs.lookup f = some v)
    (h : ∀ u s', Inv X pins σ H s' → RelV v u → Q u s') : wpAny (model X.prog X.w) A (getAttr (.ref a) f b) Q E s := by
  obtain ⟨mA, O, r, _, _, _⟩ := ins_get I.hok e
  obtain ⟨u, hu, ru⟩ := RelO.some_of (v := v) (o := mA f) (by rw [← l]; exact r f)
  exact get_map I.kIn O (c.get f) c.hd n hu (handed_of ru) (h u _ (I.tok _) ru)

theorem getcon_ok {b : Bool} {u : Value} {Q : Value → Shared → Prop} (I : Inv X pins σ H s) (e : H a = some (.ins C dx fs)) (c : Cls X.K C) (k : Con X.K C f v u) (l : fs.lookup f = none)
    (h : ∀ s', Inv X pins σ H s' → Q u s') : wpAny (model X.prog X.w) A (getAttr (.ref a) f b) Q E s := by
  obtain ⟨mA, O, r, _, _, _⟩ := ins_get I.hok e
  have hn : mA f = none := RelO.none_of (by rw [← l]; exact r f)
  exact get_const I.kIn O (c.get f) c.hd k.at_ k.get k.cp hn (handed_of k.rel) (h _ (I.tok _))

theorem getmeth_ok {m : Str} {g : Addr} {pl : Sem Bool} {Q : Value × List Value → Shared → Prop} (I : Inv X pins σ H s) (e : H a = some (.ins C dx fs)) (c : Cls X.K C) (k : Meth X.K C m g) (l : fs.lookup m = none)
    (h : Q (.ref g, [.ref a]) s) : wpAny (model X.prog X.w) A (getMethod (.ref a) m pl) Q E s := by
  obtain ⟨mA, O, r, _, _, _⟩ := ins_get I.hok e
  have hn : mA m = none := RelO.none_of (by rw [← l]; exact r m)
  exact get_meth I.kIn O (c.get m) k.at_ k.fn hn h

theorem setattr_ok {y : V} {u : Value} {Q : Unit → Shared → Prop} (I : Inv X pins σ H s) (e : H a = some (.ins C dx fs)) (c : Cls X.K C) (n : NoAttr X.K C f) (hl : fs.length < 1000) (ry : RelV y u)
    (h : ∀ s', Inv X pins σ (upd H a (.ins C dx (putF f y fs))) s' → Q () s') : wpAny (model X.prog X.w) A (setAttr (.ref a) f u) Q E s := by
  obtain ⟨mA, O, r, wi, _, ho⟩ := ins_get I.hok e
  have hz : (fs.map (·.1)).length ≤ sizeLine := by rw [List.length_map, sizeLine_eq]; omega
  refine set_map I.kIn O c.sa c.po n.taker c.hd wi hz fun h' O' sb => h _ ?_
  have hd : ∃ o, h'.get? dx = some o := let ⟨o, _, _, e', _⟩ := O'.ns; ⟨o, e'⟩
  refine I.write (x := a) (e := dx) (by rw [e]; exact True.intro) (.inr ho) (fun b q hb z => (sb.2 b hb).trans z) hd ?_
  refine ⟨by rw [upd_ne O.ne]; exact ho, ?_, O.ne, O'.obj, _, O'.ns, fun g => ?_, fun g hg => ?_⟩
  · have := length_putF f y fs; omega
  · show RelO ((putF f y fs).lookup g) (if g = f then some u else mA g)
    rw [lookup_putF]
    by_cases q : g = f
    · rw [if_pos q, if_pos q]; exact ry
    · rw [if_neg q, if_neg q]; exact r g
  · by_cases q : g = f
    · rw [q]; exact (keys_putF f y fs).1
    · refine (keys_putF f y fs).2 g (wi g fun z => hg ?_)
      show (if g = f then some u else mA g) = none
      rw [if_neg q]; exact z

/-- a new instance, tracked, without attributes -/
theorem Inv.made (I : Inv X pins σ H s) : Inv X pins σ (upd (upd H s.heap.objs.size (.own (s.heap.objs.size + 1))) (s.heap.objs.size + 1) (.ins C s.heap.objs.size []))
    { s with heap := (s.heap.push PySem.W.emptyDict).push (PySem.W.instObj C s.heap.objs.size) } := by
  have e1 : (s.heap.push PySem.W.emptyDict).get? s.heap.objs.size = some PySem.W.emptyDict := Heap.get?_push_size s.heap rfl
  have e2 : ((s.heap.push PySem.W.emptyDict).push (PySem.W.instObj C s.heap.objs.size)).get? (s.heap.objs.size + 1) = some (PySem.W.instObj C s.heap.objs.size) := by
    have := Heap.get?_push_size (s.heap.push PySem.W.emptyDict) (o := PySem.W.instObj C s.heap.objs.size) rfl
    rwa [Heap.size_push] at this
  have e3 : (s.heap.push PySem.W.emptyDict).Ns s.heap.objs.size (fun _ => none) := ⟨PySem.W.emptyDict, #[], _, e1, rfl, (fun e he => absurd he (by simp)), fun _ => rfl⟩
  have I1 := I.laid (a := s.heap.objs.size) (o := .own (s.heap.objs.size + 1)) (h' := s.heap.push PySem.W.emptyDict) (t' := s.toks) (fun b u q => Heap.get?_push_of_some _ q) (Nat.le_refl _) ⟨_, e1⟩
  refine I1.laid (a := s.heap.objs.size + 1) (o := .ins C s.heap.objs.size []) (t' := s.toks) (fun b u q => Heap.get?_push_of_some _ q) (Nat.le_of_eq (Heap.size_push _ _)) ?_
  have ne : s.heap.objs.size ≠ s.heap.objs.size + 1 := Nat.ne_of_lt (Nat.lt_succ_self _)
  refine ⟨by rw [upd_ne ne, upd_same], Nat.zero_le _, ne, e2, fun _ => none, (Heap.Ns1.of_empty e3).at fun o q => Heap.get?_push_of_some _ q, fun _ => True.intro, fun y hy => absurd rfl hy⟩

/-- e.f where nothing but the object is asked: through attributeBase (super) and the last hold -/
theorem attr_of {prog : Program} {w : World} {env : Env} {e : Expr} {f : Str} {pos : Pos} {s : Shared} {Q : Value → Shared → Prop} (hb : attributeBase e f env (eval e env) = eval e env)
    (h : wpAny (model prog w) A (eval e env) (fun o s₁ => wpAny (model prog w) A (getAttr o f true) Q E s₁) E s) : wpAny (model prog w) A (eval (.Attribute e f pos) env) Q E s :=
  Attribute_any_ h (by rw [arm_eval_Attribute, hb])
end

/-! ### readings and rules -/
/-- e.f, an attribute of the instance -/
def tFld (K : PySem.W.Frag) (ta : TE) (f : Str) : TE := fun σ H Q => ta σ H fun x H1 => ∃ a C dx fs v, x = .ref a ∧ H1 a = some (.ins C dx fs) ∧ Cls K C ∧ NoAttr K C f ∧ fs.lookup f = some v ∧ Q v H1
/-- e.f, a constant of the class -/
def tCon (K : PySem.W.Frag) (ta : TE) (f : Str) : TE := fun σ H Q => ta σ H fun x H1 => ∃ a C dx fs v u, x = .ref a ∧ H1 a = some (.ins C dx fs) ∧ Cls K C ∧ Con K C f v u ∧ fs.lookup f = none ∧ Q v H1
/-- e.f = value -/
def sFld (K : PySem.W.Frag) (ta tv : TE) (f : Str) : TS := fun D σ H => tv σ H fun y H1 => ta σ H1 fun x H2 => ∃ a C dx fs, x = .ref a ∧ H2 a = some (.ins C dx fs) ∧ Cls K C ∧ NoAttr K C f ∧ fs.length < 1000 ∧
  D.nx σ (upd H2 a (.ins C dx (putF f y fs)))
/-- an augmented operator on two values -/
def InOp (X : Cx) (op : Operator) (rd : V → V → Hp → VK → Prop) : Prop :=
  ∀ (pins : List (Addr × Obj)) (s : Shared) (σ : St) (H : Hp) (x y : V) (u v : Value) (Q : VK), Inv X pins σ H s → RelV x u → RelV y v → rd x y H Q → wpAny (model X.prog X.w) X.A (inplaceOp op u v) (EP X pins σ Q) X.xe s
/-- e.f op= value -/
def sFldAug (K : PySem.W.Frag) (ta tv : TE) (rd : V → V → Hp → VK → Prop) (f : Str) : TS := fun D σ H => ta σ H fun x H1 => ∃ a C dx fs v, x = .ref a ∧ H1 a = some (.ins C dx fs) ∧ Cls K C ∧ NoAttr K C f ∧ fs.lookup f = some v ∧
  tv σ H1 fun y H2 => rd v y H2 fun z H3 => ∃ dx' fs', H3 a = some (.ins C dx' fs') ∧ fs'.length < 1000 ∧ D.nx σ (upd H3 a (.ins C dx' (putF f z fs')))

section
variable {X : Cx} {o e value : Expr} {f : Str} {pos pos' tpos : Pos} {ta tv : TE}
theorem pe_fld (he : PE X e ta) (hb : attributeBase e f X.env (eval e X.env) = eval e X.env) : PE X (.Attribute e f pos) (tFld X.K ta f) := by
  intro pins s σ H Q I h
  refine attr_of hb (thn (he pins s σ H _ I h) fun u s1 ⟨x, H1, I1, rx, a, C, dx, fs, v, ex, ea, c, n, l, q⟩ => ?_)
  subst ex
  obtain rfl : u = Value.ref a := rx
  exact getattr_ok I1 ea c n l fun u' s2 I2 ru => ⟨v, H1, I2, ru, q⟩
theorem pe_con (he : PE X e ta) (hb : attributeBase e f X.env (eval e X.env) = eval e X.env) : PE X (.Attribute e f pos) (tCon X.K ta f) := by
  intro pins s σ H Q I h
  refine attr_of hb (thn (he pins s σ H _ I h) fun u s1 ⟨x, H1, I1, rx, a, C, dx, fs, v, u0, ex, ea, c, k, l, q⟩ => ?_)
  subst ex
  obtain rfl : u = Value.ref a := rx
  exact getcon_ok I1 ea c k l fun s2 I2 => ⟨v, H1, I2, k.rel, q⟩
theorem ps_fld (ha : PE X o ta) (hv : PE X value tv) (hs : swapsWith value (some (.Attribute o f pos')) pos.line X.env = pure false) : PS X (.Assign [.Attribute o f pos'] value pos) (sFld X.K ta tv f) := by
  intro pins s σ H D I h
  refine plainObj_wpAny_Assign_Attribute (thn (hv pins s σ H _ I h) fun u s1 ⟨y, H1, I1, ry, q⟩ => thn (ha pins s1 σ H1 _ I1 q) fun ov s2 ⟨x, H2, I2, rx, a, C, dx, fs, ex, ea, c, n, l, q2⟩ => ?_) hs
  subst ex
  obtain rfl : ov = Value.ref a := rx
  exact setattr_ok I2 ea c n l ry fun s3 I3 => ⟨σ, _, I3, q2⟩
theorem ps_fldaug {op : Operator} {rd : V → V → Hp → VK → Prop} (ha : PE X o ta) (hv : PE X value tv) (hop : InOp X op rd) : PS X (.AugAssign (.Attribute o f tpos) op value pos) (sFldAug X.K ta tv rd f) := by
  intro pins s σ H D I h
  refine wpAny_AugAssign_AttributeAny (thn (ha pins s σ H _ I h) fun ov s1 ⟨x, H1, I1, rx, a, C, dx, fs, v, ex, ea, c, n, l, q⟩ => ?_)
  subst ex
  obtain rfl : ov = Value.ref a := rx
  refine getattr_ok I1 ea c n l fun u s2 I2 ru => thn (hv pins s2 σ H1 _ I2 q) fun w3 s3 ⟨y, H2, I3, ry, q3⟩ => thn (hop pins s3 σ H2 v y u w3 _ I3 ru ry q3) fun w4 s4 ⟨z, H3, I4, rz, dx', fs', ea', l', q4⟩ => ?_
  exact setattr_ok I4 ea' c n l' rz fun s5 I5 => ⟨σ, _, I5, q4⟩
def rAdd : V → V → Hp → VK → Prop := fun x y H Q => ∃ i j, x = .int i ∧ y = .int j ∧ Q (.int (i + j)) H
def rSub : V → V → Hp → VK → Prop := fun x y H Q => ∃ i j, x = .int i ∧ y = .int j ∧ Q (.int (i - j)) H
theorem in_add : InOp X .Add rAdd := by
  rintro pins s σ H x y u v Q I rx ry ⟨i, j, rfl, rfl, q⟩
  obtain ⟨t, rfl⟩ := (show ∃ t, u = Value.int i t from rx)
  obtain ⟨t', rfl⟩ := (show ∃ t', v = Value.int j t' from ry)
  exact PyProof.Rows.iadd_int ⟨.int (i + j), H, I.tok _, ⟨_, rfl⟩, q⟩
theorem in_sub : InOp X .Sub rSub := by
  rintro pins s σ H x y u v Q I rx ry ⟨i, j, rfl, rfl, q⟩
  obtain ⟨t, rfl⟩ := (show ∃ t, u = Value.int i t from rx)
  obtain ⟨t', rfl⟩ := (show ∃ t', v = Value.int j t' from ry)
  exact PyProof.Rows.isub_int ⟨.int (i - j), H, I.tok _, ⟨_, rfl⟩, q⟩

/-- what is between an instance and its method: the tree of a method call -/
theorem methcall_of {pl : Sem Bool} {m : Str} {apos : Pos} {args : List Expr} {pins : List (Addr × Obj)} {s : Shared} {σ : St} {H : Hp} {Q : Value → Shared → Prop} {te : TE} (he : PE X e te) (I : Inv X pins σ H s)
    (h : te σ H fun x H1 => ∃ a C dx fs g, x = .ref a ∧ H1 a = some (.ins C dx fs) ∧ Cls X.K C ∧ Meth X.K C m g ∧ fs.lookup m = none ∧
      ∀ s1, Inv X pins σ H1 s1 → wpAny (model X.prog X.w) X.A (callWith pos (.ref g) [.ref a] (backTo pos (starEach args X.env)) (backToKw pos (keywordEach [] X.env))) Q X.xe s1)
    (ht : eval (.Call (.Attribute e m apos) args [] pos) X.env = (do
      let ov ← eval e X.env
      standAt apos.atName
      let (f, first) ← holding [ov] (getMethod ov m pl)
      callWith pos f first (backTo pos (starEach args X.env)) (backToKw pos (keywordEach [] X.env)))) :
    wpAny (model X.prog X.w) X.A (eval (.Call (.Attribute e m apos) args [] pos) X.env) Q X.xe s := by
  refine PySem.W.methodCall_KW (pl := pl) (thn (he pins s σ H _ I h) fun u s1 ⟨x, H1, I1, rx, a, C, dx, fs, g, ex, ea, c, k, l, q⟩ => ?_) ht
  subst ex
  obtain rfl : u = Value.ref a := rx
  exact getmeth_ok I1 ea c k l (q s1 I1)
end

/-! ### isinstance -/
section
variable {X : Cx} {pins : List (Addr × Obj)} {σ : St} {H : Hp} {s : Shared} {A : Around} {E : Value → Shared → Prop} {Q : Value → Shared → Prop} {c : Value} {b : Bool}
/-- the type of a value, as the fragment's deciders take it; for an instance its class -/
inductive TyOf (K : PySem.W.Frag) (H : Hp) : V → Value → Prop where
  | non : TyOf K H .non (.type "NoneType")
  | bl (x : Bool) : TyOf K H (.bl x) (.type "bool")
  | int (i : Int) : TyOf K H (.int i) (.type "int")
  | str (x : Str) : TyOf K H (.str x) (.type "str")
  | flt (x : UInt64) : TyOf K H (.flt x) (.type "float")
  | lst {a : Addr} {xs : List V} (e : H a = some (.lst xs)) : TyOf K H (.ref a) (.type "list")
  | frz {a : Addr} {o : Obj} {xs : List V} (e : H a = some (.frz o (.lst xs))) : TyOf K H (.ref a) (.type "list")
  | tup {a : Addr} {xs : List V} (e : H a = some (.tup xs)) : TyOf K H (.ref a) (.type "tuple")
  | dK {a : Addr} {kvs : List (Key × V)} (e : H a = some (.dK kvs)) : TyOf K H (.ref a) (.type "dict")
  | dT {a : Addr} {kvs : List (List Key × V)} (e : H a = some (.dT kvs)) : TyOf K H (.ref a) (.type "dict")
  | ins {a C dx : Addr} {fs : List (Str × V)} (e : H a = some (.ins C dx fs)) (cl : Cls K C) (ha : PySem.W.findIn K (.ref C) "__class__" = some (some (.builtin "object.__class__")))
      (hn : PySem.W.specialIn K (.builtin "object.__class__") "__get__" = some (some (.builtin "getset_descriptor.__get__"))) (htk : PySem.W.takesIn K (.builtin "object.__class__") = some true)
      (hm : PySem.W.mroIn K C (.type "object") = some true) : TyOf K H (.ref a) (.ref C)
/-- isinstance(x, c) for one class c, a built-in or an own one: kitOne's answer -/
theorem isinst_ok {x : V} {u t : Value} (I : Inv X pins σ H s) (rx : RelV x u) (ty : TyOf X.K H x t) (e : PySem.W.kitOne X.K t c = some b) (h : ∀ tk, Q (.bool b) { s with toks := tk }) :
    wpAny (model X.prog X.w) A (call (.builtin "isinstance") [u, c]) Q E s := by
  cases ty with
  | non => cases (show u = Value.none from rx); exact PySem.W.kia_one PySem.W.kitx_none I.kIn True.intro e (fun z => nomatch z) h
  | bl y => cases (show u = Value.bool y from rx); exact PySem.W.kia_one PySem.W.kitx_bool I.kIn True.intro e (fun z => nomatch z) h
  | int i => obtain ⟨t, q⟩ := (show ∃ t, u = Value.int i t from rx); cases q; exact PySem.W.kia_one PySem.W.kitx_int I.kIn True.intro e (fun z => nomatch z) h
  | str y => obtain ⟨t, q⟩ := (show ∃ t, u = Value.str y t from rx); cases q; exact PySem.W.kia_one PySem.W.kitx_str I.kIn True.intro e (fun z => nomatch z) h
  | flt y => obtain ⟨t, q⟩ := (show ∃ t, u = Value.float y t from rx); cases q; exact PySem.W.kia_one PySem.W.kitx_float I.kIn True.intro e (fun z => nomatch z) h
  | @lst a xs ea =>
    cases (show u = Value.ref a from rx)
    obtain ⟨_, _, n, _, h1⟩ := (show ObjOk X.prog X.w H s.heap a (.lst xs) from I.hok a _ ea)
    exact PySem.W.kia_one PySem.W.kitx_list I.kIn ⟨_, h1, rfl⟩ e (fun z => nomatch z) h
  | @frz a ob xs ea =>
    cases (show u = Value.ref a from rx)
    obtain ⟨_, _, _, n, _, h1⟩ := (show ObjOk X.prog X.w H s.heap a (.frz ob (.lst xs)) from I.hok a _ ea)
    exact PySem.W.kia_one PySem.W.kitx_list I.kIn ⟨_, h1, rfl⟩ e (fun z => nomatch z) h
  | @tup a xs ea =>
    cases (show u = Value.ref a from rx)
    obtain ⟨_, _, _, p⟩ := (show ObjOk X.prog X.w H s.heap a (.tup xs) from I.hok a _ ea)
    obtain ⟨o, h1, h2, _⟩ := p
    exact PySem.W.kia_one PySem.W.kitx_tuple I.kIn ⟨o, h1, h2⟩ e (fun z => nomatch z) h
  | @dK a kvs ea =>
    cases (show u = Value.ref a from rx)
    obtain ⟨_, _, vs, _, p⟩ := (show ObjOk X.prog X.w H s.heap a (.dK kvs) from I.hok a _ ea)
    obtain ⟨o, es, ep, h1, h2, _⟩ := p
    exact PySem.W.kia_one PySem.W.kitx_dict I.kIn ⟨o, h1, h2.1⟩ e (fun z => nomatch z) h
  | @dT a kvs ea =>
    cases (show u = Value.ref a from rx)
    obtain ⟨_, _, xs, _, o, es, ep, h1, h2, _⟩ := (show ObjOk X.prog X.w H s.heap a (.dT kvs) from I.hok a _ ea)
    exact PySem.W.kia_one PySem.W.kitx_dict I.kIn ⟨o, h1, h2.1⟩ e (fun z => nomatch z) h
  | @ins a C dx fs ea cl ha hn htk hm =>
    cases (show u = Value.ref a from rx)
    obtain ⟨mA, O, _⟩ := ins_get I.hok ea
    obtain ⟨od, J, _⟩ := O.look
    exact PySem.W.kia_one (PySem.W.kitx_own (cl.get _) cl.hd ha hn htk hm) I.kIn J e (fun z => nomatch z) h
end
end L2

namespace L2
open PySem PySem.Spec PyProof.Rows

/-! ### room -/
structure Room (k : Nat) (A : Around) : Prop where
  hd : A.handled = none
  dp : A.depth + 3 * k + 5 < recursionLimit
  un : A.units + 16 * k + 200 < cLine
theorem Room.mono {j k : Nat} {A : Around} (r : Room k A) (h : j ≤ k) : Room j A := ⟨r.hd, by have := r.dp; omega, by have := r.un; omega⟩
theorem Room.deeper {k : Nat} {A : Around} (r : Room (k + 1) A) (env : Env) : Room k (A.deeper env) :=
  ⟨r.hd, by have := r.dp; show A.depth + 1 + 3 * k + 5 < _; omega, by have := r.un; show A.units + 3 + 16 * k + 200 < _; omega⟩
theorem Room.in1 {k : Nat} {A : Around} (r : Room (k + 1) A) : Room k A.in1 :=
  ⟨r.hd, by have := r.dp; show A.depth + 3 * k + 5 < _; omega, by have := r.un; show A.units + 1 + 16 * k + 200 < _; omega⟩
theorem make_depth {A : Around} {C : Addr} {us : List Value} {kw : List (Str × Value)} : (A.under (.builtin "type.__call__" ⟨.ref C :: us, kw⟩)).depth = A.depth + 1 := by
  first | rfl | simp [Around.under, Code.weight, Code.isCreation, Code.isGuard, Code.isCaller, Code.frames, Code.isFrame, guardIds]
theorem make_units {A : Around} {C : Addr} {us : List Value} {kw : List (Str × Value)} : (A.under (.builtin "type.__call__" ⟨.ref C :: us, kw⟩)).units = A.units + 1 := by
  first | rfl | simp [Around.under, Code.cUnits, Code.frames, Code.isFrame]
theorem Room.make {k : Nat} {A : Around} (r : Room (k + 1) A) (C : Addr) (us : List Value) (kw : List (Str × Value)) : Room k (A.under (.builtin "type.__call__" ⟨.ref C :: us, kw⟩)) :=
  ⟨r.hd, by have := r.dp; rw [make_depth]; omega, by have := r.un; rw [make_units]; omega⟩
theorem Room.depth {k : Nat} {A : Around} (r : Room k A) : A.depth < recursionLimit := by have := r.dp; omega
theorem Room.units {k : Nat} {A : Around} (r : Room k A) : A.units + 64 < cLine := by have := r.un; omega
theorem Room.units0 {k : Nat} {A : Around} (r : Room k A) : A.units < cLine := by have := r.un; omega

/-! ### argument lists and displays -/
def tNil : TA := fun _ H Q => Q [] H
def tCons (ta : TE) (tr : TA) : TA := fun σ H Q => ta σ H fun x H1 => tr σ H1 fun xs H2 => Q (x :: xs) H2
section
variable {X : Cx} {e : Expr} {es : List Expr} {te : TE} {t : TA} {pos : Pos}
theorem pa_nil : PA X [] tNil := fun _ _ _ _ H Q I h => Calls.spliced_nil ⟨[], H, I, .nil, h⟩
theorem pa_cons (ha : PE X e te) (hr : PA X es t) (hs : starEach (e :: es) X.env = (false, eval e X.env) :: starEach es X.env := by rfl) : PA X (e :: es) (tCons te t) := by
  intro pos pins s σ H Q I h
  rw [hs]
  show wpAny _ _ (spliced ((false, eval e X.env) :: backTo pos (starEach es X.env))) _ _ s
  refine Calls.spliced_cons (thn (ha pins s σ H _ I h) fun u s1 ⟨x, H1, I1, r1, q1⟩ => ?_)
  exact thn (hr pos pins s1 σ H1 _ I1 q1) fun us s2 ⟨xs, H2, I2, r2, q2⟩ => ⟨x :: xs, H2, I2, .cons r1 r2, q2⟩

/-- a tuple, a list of written items -/
def tTup (t : TA) : TE := fun σ H Q => t σ H fun xs H1 => xs.length ≤ sizeLine ∧ ∀ p, H1 p = none → Q (.ref p) (upd H1 p (.tup xs))
def tLst (t : TA) : TE := fun σ H Q => t σ H fun xs H1 => xs.length ≤ sizeLine ∧ ∀ p, H1 p = none → Q (.ref p) (upd H1 p (.lst xs))
theorem pe_tup {x1} (h : PA X es t) : PE X (.Tuple es x1 pos) (tTup t) := by
  intro pins s σ H Q I hq
  refine wpAny_Tuple_spliced (thn (h pos pins s σ H _ I hq) fun us s1 ⟨xs, H1, I1, r, z, q⟩ => ⟨by rw [← r.length]; exact z, ?_⟩)
  have hf : H1 s1.heap.objs.size = none := I1.hok.fresh (Nat.le_refl _)
  refine ⟨.ref s1.heap.objs.size, upd H1 s1.heap.objs.size (.tup xs), I1.laid (t' := s1.toks) (fun b u e => Heap.get?_push_of_some _ e) (Nat.le_refl _) ?_, rfl, q _ hf⟩
  exact ⟨z, us, r, ⟨_, Heap.get?_push_size _ rfl, rfl, _, rfl⟩⟩
theorem pe_lst (h : PA X es t) : PE X (.List es pos) (tLst t) := by
  intro pins s σ H Q I hq
  refine wpAny_List_spliced (thn (h pos pins s σ H _ I hq) fun us s1 ⟨xs, H1, I1, r, z, q⟩ => ⟨by rw [← r.length]; exact z, ?_⟩)
  have hf : H1 s1.heap.objs.size = none := I1.hok.fresh (Nat.le_refl _)
  refine ⟨.ref s1.heap.objs.size, upd H1 s1.heap.objs.size (.lst xs), I1.laid (t' := s1.toks) (fun b u e => Heap.get?_push_of_some _ e) (Nat.le_refl _) ?_, rfl, q _ hf⟩
  exact ⟨z, us, 0, r, Heap.get?_push_size _ rfl⟩
end

/-! ### what a def promises -/
/-- a def's promise: the bound arguments in the parameters' order, the heap, the wanted end, the wanted exception -/
abbrev Sp := List V → Hp → VK → XK → Prop
/-- how an exception lies behind a call (file 08 gives it): the callers' frames, abstract heap and state ahead of the call, the wish, the exception, the state -/
abbrev CXT := List Env → Hp → Shared → XK → Value → Shared → Prop

/-- the state at a call -/
structure Env0 (P : Program) (w : World) (K : PySem.W.Frag) (mg : Str → Option Value) (base : Heap) (A : Around) (outer : List Env) (s : Shared) (H : Hp) : Prop where
  frames : A.frames = some outer
  mod : Mod K mg base
  bs : ∀ b o, base.get? b = some o → s.heap.get? b = some o ∧ H b = none
  bsz : base.objs.size ≤ s.heap.objs.size
  funs : s.heap.FunFrames base outer
  frf : ∀ b ∈ frs outer, H b = none
  hok : HOk P w H s.heap
  bare : AllBare s.gens
/-- a call's end -/
def CE (outer : List Env) (P : Program) (w : World) (H : Hp) (s : Shared) (Q : VK) (u : Value) (s' : Shared) : Prop :=
  ∃ v H', s'.os = s.os ∧ AllBare s'.gens ∧ Un (frs outer) [] H H' s.heap s'.heap ∧ HOk P w H' s'.heap ∧ RelV v u ∧ Q v H'
def CR (CX : CXT) (outer : List Env) (P : Program) (w : World) (H : Hp) (s : Shared) (Q : VK) (E : XK) (r : Result) (s' : Shared) : Prop :=
  match r with
  | .ok (.ret u) => CE outer P w H s Q u s'
  | .ok _ => False
  | .error e => CX outer H s E e s'
structure FnOk (P : Program) (w : World) (K : PySem.W.Frag) (mg : Str → Option Value) (base : Heap) (CX : CXT) (k : Nat) (f : Addr) (fd : FuncData) (ps : List Str) (sp : Sp) : Prop where
  len : ∀ vs H Q E, sp vs H Q E → vs.length = ps.length
  run : ∀ (A : Around) (outer : List Env) (s : Shared) (H : Hp) (args : Args) (us : List Value) (vs : List V) (Q : VK) (E : XK), Room k A → Env0 P w K mg base A outer s H → BindsTo s fd args (ps.zip us) → Vals vs us → sp vs H Q E →
    codeAny (model P w) A (.call (.ref f) args) (CR CX outer P w H s Q E) s
theorem FnOk.mono {P : Program} {w : World} {K : PySem.W.Frag} {mg : Str → Option Value} {base : Heap} {CX : CXT} {j k : Nat} {f : Addr} {fd : FuncData} {ps : List Str} {sp : Sp} (F : FnOk P w K mg base CX j f fd ps sp) (h : j ≤ k) :
    FnOk P w K mg base CX k f fd ps sp := ⟨F.len, fun A outer s H args us vs Q E hr => F.run A outer s H args us vs Q E (hr.mono h)⟩
/-- a weaker promise -/
theorem FnOk.imp {P : Program} {w : World} {K : PySem.W.Frag} {mg : Str → Option Value} {base : Heap} {CX : CXT} {k : Nat} {f : Addr} {fd : FuncData} {ps : List Str} {sp sp' : Sp} (F : FnOk P w K mg base CX k f fd ps sp)
    (h : ∀ vs H Q E, sp' vs H Q E → sp vs H Q E) : FnOk P w K mg base CX k f fd ps sp' :=
  ⟨fun vs H Q E q => F.len vs H Q E (h _ _ _ _ q), fun A outer s H args us vs Q E hr he hb hv hs => F.run A outer s H args us vs Q E hr he hb hv (h _ _ _ _ hs)⟩

theorem Env0.make {P : Program} {w : World} {K : PySem.W.Frag} {mg : Str → Option Value} {base : Heap} {A : Around} {outer : List Env} {s : Shared} {H : Hp} (e : Env0 P w K mg base A outer s H) (C : Addr) (us : List Value) (kw : List (Str × Value)) :
    Env0 P w K mg base (A.under (.builtin "type.__call__" ⟨.ref C :: us, kw⟩)) outer s H := ⟨by first | exact e.frames | (simpa [Around.under, Code.envs, Code.isFrame, pushEnvs] using e.frames), e.mod, e.bs, e.bsz, e.funs, e.frf, e.hok, e.bare⟩
theorem Env0.in1 {P : Program} {w : World} {K : PySem.W.Frag} {mg : Str → Option Value} {base : Heap} {A : Around} {outer : List Env} {s : Shared} {H : Hp} (e : Env0 P w K mg base A outer s H) :
    Env0 P w K mg base A.in1 outer s H := ⟨e.frames, e.mod, e.bs, e.bsz, e.funs, e.frf, e.hok, e.bare⟩

section
variable {X : Cx} {pins : List (Addr × Obj)} {σ : St} {H : Hp} {s s' : Shared}
/-- from a body: what a callee wants -/
theorem Inv.env0 (I : Inv X pins σ H s) : Env0 X.prog X.w X.K X.mg X.base X.A X.stack s H :=
  ⟨I.ok.frames, I.ok.mod, I.bs, Nat.le_trans I.ok.bsz I.sz, I.stack, I.stkFree, I.hok, I.bare⟩
/-- behind a call -/
theorem Inv.after {Q : VK} {u : Value} (I : Inv X pins σ H s) (h : CE X.stack X.prog X.w H s Q u s') : EP X pins σ Q u s' := by
  obtain ⟨v, H', os, bare, un, hok, r, q⟩ := h
  obtain ⟨hh, g, d, t, os'⟩ := s'
  obtain rfl : os' = s.os := os
  exact ⟨v, H', I.call (h' := hh) (g' := g) (d' := d) (t' := t) (ch := []) un hok bare (fun b z => absurd z (by simp)), r, q⟩
end

/-! ### calls -/
/-- f(..): the written arguments, then the defaults dvs; E: what is wanted of an exception -/
def tCall (sp : Sp) (dvs : List V) (E : XK) (t : TA) : TE := fun σ H Q => t σ H fun vs H1 => sp (vs ++ dvs) H1 Q E
/-- o.m(..) of an instance of the class at C -/
def tMeth (C : Addr) (m : Str) (sp : Sp) (dvs : List V) (E : XK) (ta : TE) (t : TA) : TE := fun σ H Q => ta σ H fun x H1 => ∃ a dx fs, x = .ref a ∧ H1 a = some (.ins C dx fs) ∧ fs.lookup m = none ∧
  t σ H1 fun vs H2 => sp (x :: (vs ++ dvs)) H2 Q E
/-- C(..): a new instance and its dict, then __init__ -/
def tMake (C : Addr) (sp : Sp) (dvs : List V) (E : XK) (t : TA) : TE := fun σ H Q => t σ H fun vs H1 => ∀ x dx, H1 x = none → H1 dx = none → dx ≠ x →
  sp (.ref x :: (vs ++ dvs)) (upd (upd H1 dx (.own x)) x (.ins C dx [])) (fun v H2 => v = .non ∧ Q (.ref x) H2) E

/-- how the parameters are bound: us the positional arguments, kw the keywords' values by name, ds the defaults that fill up -/
def Binds (K : PySem.W.Frag) (fd : FuncData) (ps : List Str) (ds : List Value) : Prop :=
  ∀ (s : Shared) (us : List Value), K.In s.heap → (us ++ ds).length = ps.length → BindsTo s fd ⟨us, []⟩ (ps.zip (us ++ ds))
/-- every parameter is given -/
theorem Binds.all {K : PySem.W.Frag} {fd : FuncData} {ps : List Str} (h : ∀ us : List Value, us.length = ps.length → bindArgs fd ⟨us, []⟩ = pure (ps.zip us)) : Binds K fd ps [] := fun s us _ hl => by
  rw [List.append_nil] at hl ⊢
  exact .of_eq (h us hl)

/-- an exception of a callee reaches what this body wants of exceptions -/
def Passes (CX : CXT) (X : Cx) (E : XK) : Prop := ∀ (pins : List (Addr × Obj)) (σ : St) (H : Hp) (s : Shared) (e : Value) (s' : Shared), Inv X pins σ H s → CX X.stack H s E e s' → X.xe e s'

section
variable {X : Cx} {CX : CXT} {k : Nat} {f C : Addr} {fd : FuncData} {ps : List Str} {sp : Sp} {dvs : List V} {ds : List Value} {E : XK} {x m : Str} {p pos apos : Pos} {e o : Expr} {es : List Expr} {ta : TE} {t : TA}

/-- the callee runs -/
theorem run_fn {pins : List (Addr × Obj)} {σ : St} {H : Hp} {s : Shared} {Q : VK} {us : List Value} {vs : List V} (F : FnOk X.prog X.w X.K X.mg X.base CX k f fd ps sp) (hr : Room k X.A) (hb : Binds X.K fd ps ds) (hd : Vals dvs ds) (hx : Passes CX X E)
    (I : Inv X pins σ H s) (r : Vals vs us) (h : sp (vs ++ dvs) H Q E) : wpAny (model X.prog X.w) X.A (call (.ref f) us) (EP X pins σ Q) X.xe s := by
  have r2 : Vals (vs ++ dvs) (us ++ ds) := r.append hd
  have hl : (us ++ ds).length = ps.length := by rw [← r2.length]; exact F.len _ _ _ _ h
  refine wpAny_call (codeAny_mono (F.run X.A X.stack s H ⟨us, []⟩ (us ++ ds) (vs ++ dvs) Q E hr I.env0 (hb s us I.kIn hl) r2 h) fun r s' hq => ?_)
  cases r with
  | error e => exact hx pins σ H s e s' I hq
  | ok fl =>
    cases fl with
    | ret u => exact I.after hq
    | next => exact False.elim hq
    | brk => exact False.elim hq
    | cont => exact False.elim hq

theorem pe_call (F : FnOk X.prog X.w X.K X.mg X.base CX k f fd ps sp) (hr : Room k X.A) (hg : Gl X x) (hm : X.mg x = some (.ref f)) (hk : PySem.W.keepIn X.K (.ref f) = true) (hb : Binds X.K fd ps ds) (hd : Vals dvs ds) (hx : Passes CX X E)
    (ha : PA X (e :: es) t) (hdb : (x == ("__debug__" : Str)) = false := by decide) (he : starEach (e :: es) X.env = (false, eval e X.env) :: starEach es X.env := by rfl) (hpl : (backTo pos (starEach es X.env)).any (·.1) = false := by rfl) :
    PE X (.Call (.Name x p) (e :: es) [] pos) (tCall sp dvs E t) := by
  intro pins s σ H Q I h
  refine wpAny_Call_Name_kw (ld_glob I hg hm ?_ hdb)
  refine PySem.W.callWith_K (h₀ := X.base) I.ok.mod.kin hk (thn (ha pos pins s σ H _ I h) fun us s1 ⟨vs, H1, I1, r, q⟩ => ⟨I1.kIn, ?_⟩) he hpl
  exact run_fn F hr hb hd hx I1 r q
theorem pe_call0 (F : FnOk X.prog X.w X.K X.mg X.base CX k f fd ps sp) (hr : Room k X.A) (hg : Gl X x) (hm : X.mg x = some (.ref f)) (hk : PySem.W.keepIn X.K (.ref f) = true) (hb : Binds X.K fd ps ds) (hd : Vals dvs ds) (hx : Passes CX X E)
    (hdb : (x == ("__debug__" : Str)) = false := by decide) : PE X (.Call (.Name x p) [] [] pos) (tCall sp dvs E tNil) := by
  intro pins s σ H Q I h
  refine wpAny_Call_Name_kw (ld_glob I hg hm ?_ hdb)
  exact PySem.W.callWith_K0 I.kIn hk (run_fn (us := []) F hr hb hd hx I .nil h)

/-- o.m(e, ..) -/
theorem pe_meth {pl : Sem Bool} (he : PE X o ta) (c : Cls X.K C) (hm : Meth X.K C m f) (F : FnOk X.prog X.w X.K X.mg X.base CX k f fd ps sp) (hr : Room k X.A) (hb : Binds X.K fd ps ds) (hd : Vals dvs ds) (hx : Passes CX X E) (ha : PA X (e :: es) t)
    (hst : starEach (e :: es) X.env = (false, eval e X.env) :: starEach es X.env := by rfl) (hpl : (backTo pos (starEach es X.env)).any (·.1) = false := by rfl)
    (ht : eval (.Call (.Attribute o m apos) (e :: es) [] pos) X.env = (do
      let ov ← eval o X.env
      standAt apos.atName
      let (f, first) ← holding [ov] (getMethod ov m pl)
      callWith pos f first (backTo pos (starEach (e :: es) X.env)) (backToKw pos (keywordEach [] X.env))) := by rfl) :
    PE X (.Call (.Attribute o m apos) (e :: es) [] pos) (tMeth C m sp dvs E ta t) := by
  intro pins s σ H Q I h
  refine PySem.W.methodCall_KW (pl := pl) (thn (he pins s σ H _ I h) fun u s1 ⟨x, H1, I1, rx, a, dx, fs, ex, ea, l, q⟩ => ?_) ht
  subst ex
  obtain rfl : u = Value.ref a := rx
  refine getmeth_ok I1 ea c hm l ?_
  refine PySem.W.callWith_K (first := [.ref a]) (h₀ := X.base) I.ok.mod.kin hm.kp (thn (ha pos pins s1 σ H1 _ I1 q) fun us s2 ⟨vs, H2, I2, r, q2⟩ => ⟨I2.kIn, ?_⟩) hst hpl
  exact run_fn (us := .ref a :: us) (vs := .ref a :: vs) F hr hb hd hx I2 (.cons rfl r) q2
/-- o.m() -/
theorem pe_meth0 {pl : Sem Bool} (he : PE X o ta) (c : Cls X.K C) (hm : Meth X.K C m f) (F : FnOk X.prog X.w X.K X.mg X.base CX k f fd ps sp) (hr : Room k X.A) (hb : Binds X.K fd ps ds) (hd : Vals dvs ds) (hx : Passes CX X E)
    (ht : eval (.Call (.Attribute o m apos) [] [] pos) X.env = (do
      let ov ← eval o X.env
      standAt apos.atName
      let (f, first) ← holding [ov] (getMethod ov m pl)
      callWith pos f first (backTo pos (starEach [] X.env)) (backToKw pos (keywordEach [] X.env))) := by rfl) :
    PE X (.Call (.Attribute o m apos) [] [] pos) (tMeth C m sp dvs E ta tNil) := by
  intro pins s σ H Q I h
  refine PySem.W.methodCall_KW (pl := pl) (thn (he pins s σ H _ I h) fun u s1 ⟨x, H1, I1, rx, a, dx, fs, ex, ea, l, q⟩ => ?_) ht
  subst ex
  obtain rfl : u = Value.ref a := rx
  refine getmeth_ok I1 ea c hm l ?_
  exact PySem.W.callWith_K0 (first := [.ref a]) I1.kIn hm.kp (run_fn (us := [.ref a]) (vs := [.ref a]) F hr hb hd hx I1 (.cons rfl .nil) q)

/-- what a class must have to be made -/
structure Mk (K : PySem.W.Frag) (C f : Addr) : Prop where
  makes : PySem.W.makesIn K C = true
  init : PySem.W.findIn K (.ref C) "__init__" = some (some (.ref f))
  fn : PySem.W.isFn K (.ref f) = true
  kp : PySem.W.keepIn K (.ref C) = true

theorem run_make {pins : List (Addr × Obj)} {σ : St} {H : Hp} {s : Shared} {Q : VK} {us : List Value} {vs : List V} (M : Mk X.K C f) (F : FnOk X.prog X.w X.K X.mg X.base CX k f fd ps sp) (hr : Room (k + 1) X.A) (hb : Binds X.K fd ps ds) (hd : Vals dvs ds)
    (hx : Passes CX X E) (I : Inv X pins σ H s) (r : Vals vs us)
    (h : ∀ x dx, H x = none → H dx = none → dx ≠ x → sp (.ref x :: (vs ++ dvs)) (upd (upd H dx (.own x)) x (.ins C dx [])) (fun v H2 => v = .non ∧ Q (.ref x) H2) E) :
    wpAny (model X.prog X.w) X.A (call (.ref C) us) (EP X pins σ Q) X.xe s := by
  have hq := h (s.heap.objs.size + 1) s.heap.objs.size (I.hok.fresh (Nat.le_succ _)) (I.hok.fresh (Nat.le_refl _)) (Nat.ne_of_lt (Nat.lt_succ_self _))
  have I2 := Inv.made (C := C) I
  have r2 : Vals (V.ref (s.heap.objs.size + 1) :: (vs ++ dvs)) (Value.ref (s.heap.objs.size + 1) :: (us ++ ds)) := .cons rfl (r.append hd)
  have hl : (Value.ref (s.heap.objs.size + 1) :: us ++ ds).length = ps.length := by
    have e := r2.length
    rw [F.len _ _ _ _ hq] at e
    exact e.symm
  refine wpAny_call (make_map (f := f) I.kIn M.makes M.init (beq_iff_eq.mp M.fn) (codeAny_mono (F.run _ X.stack _ _ ⟨Value.ref (s.heap.objs.size + 1) :: us, []⟩ (Value.ref (s.heap.objs.size + 1) :: (us ++ ds)) _ _ E (hr.make C us [])
    (I2.env0.make C us []) (hb _ (Value.ref (s.heap.objs.size + 1) :: us) I2.kIn hl) r2 hq) fun r s' hq' => ?_))
  cases r with
  | error e => exact hx pins σ _ _ e s' I2 hq'
  | ok fl =>
    cases fl with
    | ret u =>
      obtain ⟨v, H', I3, rv, ev, q3⟩ := I2.after hq'
      subst ev
      exact ⟨rv, ⟨V.ref (s.heap.objs.size + 1), H', I3, rfl, q3⟩⟩
    | next => exact False.elim hq'
    | brk => exact False.elim hq'
    | cont => exact False.elim hq'
theorem pe_make (M : Mk X.K C f) (F : FnOk X.prog X.w X.K X.mg X.base CX k f fd ps sp) (hr : Room (k + 1) X.A) (hg : Gl X x) (hm : X.mg x = some (.ref C)) (hb : Binds X.K fd ps ds) (hd : Vals dvs ds) (hx : Passes CX X E)
    (ha : PA X (e :: es) t) (hdb : (x == ("__debug__" : Str)) = false := by decide) (he : starEach (e :: es) X.env = (false, eval e X.env) :: starEach es X.env := by rfl) (hpl : (backTo pos (starEach es X.env)).any (·.1) = false := by rfl) :
    PE X (.Call (.Name x p) (e :: es) [] pos) (tMake C sp dvs E t) := by
  intro pins s σ H Q I h
  refine wpAny_Call_Name_kw (ld_glob I hg hm ?_ hdb)
  refine PySem.W.callWith_K (h₀ := X.base) I.ok.mod.kin M.kp (thn (ha pos pins s σ H _ I h) fun us s1 ⟨vs, H1, I1, r, q⟩ => ⟨I1.kIn, ?_⟩) he hpl
  exact run_make M F hr hb hd hx I1 r q
theorem pe_make0 (M : Mk X.K C f) (F : FnOk X.prog X.w X.K X.mg X.base CX k f fd ps sp) (hr : Room (k + 1) X.A) (hg : Gl X x) (hm : X.mg x = some (.ref C)) (hb : Binds X.K fd ps ds) (hd : Vals dvs ds) (hx : Passes CX X E)
    (hdb : (x == ("__debug__" : Str)) = false := by decide) : PE X (.Call (.Name x p) [] [] pos) (tMake C sp dvs E tNil) := by
  intro pins s σ H Q I h
  refine wpAny_Call_Name_kw (ld_glob I hg hm ?_ hdb)
  exact PySem.W.callWith_K0 I.kIn M.kp (run_make (us := []) M F hr hb hd hx I .nil h)
end

/-! ### keywords -/
/-- the values of the keywords, from the left -/
def PK (X : Cx) (kws : List Keyword) (t : TA) : Prop :=
  ∀ (pos : Pos) (pins : List (Addr × Obj)) (s : Shared) (σ : St) (H : Hp) (Q : List V → Hp → Prop), Inv X pins σ H s → t σ H Q → wpAny (model X.prog X.w) X.A (evalAll ((backToKw pos (keywordEach kws X.env)).map (·.2))) (AP X pins σ Q) X.xe s
section
variable {X : Cx} {CX : CXT} {k : Nat} {f C : Addr} {fd : FuncData} {ps ks : List Str} {sp : Sp} {E : XK} {x m : Str} {p pos apos kpos : Pos} {e o : Expr} {es : List Expr} {kws : List Keyword} {te ta : TE} {t tk : TA} {nm : Option Str}
theorem pk_nil : PK X [] tNil := fun _ _ _ _ H Q I h => wpAny_evalAll_nil ⟨[], H, I, .nil, h⟩
theorem pk_cons (ha : PE X e te) (hr : PK X kws t) : PK X (⟨nm, e, kpos⟩ :: kws) (tCons te t) := by
  intro pos pins s σ H Q I h
  show wpAny _ _ (evalAll ((do let v ← eval e X.env; standAt pos; pure v) :: (backToKw pos (keywordEach kws X.env)).map (·.2))) _ _ s
  refine wpAny_evalAll_cons (wpAny_bind (thn (ha pins s σ H _ I h) fun u s1 ⟨x, H1, I1, r1, q1⟩ => wpAny_bind (wpAny_standAt (wpAny_pure ?_))))
  exact thn (hr pos pins s1 σ H1 _ I1 q1) fun us s2 ⟨xs, H2, I2, r2, q2⟩ => ⟨x :: xs, H2, I2, .cons r1 r2, q2⟩

/-- how a call with keywords binds: g puts the positional values us and the keywords' values ws (names ks) in the parameters' order, defaults among them -/
structure KBinds (K : PySem.W.Frag) (fd : FuncData) (ps ks : List Str) (g : List Value → List Value → List Value) (gV : List V → List V → List V) : Prop where
  to : ∀ (s : Shared) (us ws : List Value), K.In s.heap → (g us ws).length = ps.length → BindsTo s fd ⟨us, ks.zip ws⟩ (ps.zip (g us ws))
  rel : ∀ {vs : List V} {us : List Value} {zs : List V} {ws : List Value}, Vals vs us → Vals zs ws → Vals (gV vs zs) (g us ws)
def tCallK (sp : Sp) (gV : List V → List V → List V) (E : XK) (t tk : TA) : TE := fun σ H Q => t σ H fun vs H1 => tk σ H1 fun zs H2 => sp (gV vs zs) H2 Q E
variable {g : List Value → List Value → List Value} {gV : List V → List V → List V}
theorem run_fnk {pins : List (Addr × Obj)} {σ : St} {H : Hp} {s : Shared} {Q : VK} {us ws : List Value} {vs zs : List V} (F : FnOk X.prog X.w X.K X.mg X.base CX k f fd ps sp) (hr : Room k X.A) (hb : KBinds X.K fd ps ks g gV) (hx : Passes CX X E)
    (I : Inv X pins σ H s) (r : Vals vs us) (rz : Vals zs ws) (h : sp (gV vs zs) H Q E) : wpAny (model X.prog X.w) X.A (call (.ref f) us (ks.zip ws)) (EP X pins σ Q) X.xe s := by
  have r2 := hb.rel r rz
  have hl : (g us ws).length = ps.length := by rw [← r2.length]; exact F.len _ _ _ _ h
  refine wpAny_call (codeAny_mono (F.run X.A X.stack s H ⟨us, ks.zip ws⟩ (g us ws) (gV vs zs) Q E hr I.env0 (hb.to s us ws I.kIn hl) r2 h) fun r s' hq => ?_)
  cases r with
  | error e => exact hx pins σ H s e s' I hq
  | ok fl =>
    cases fl with
    | ret u => exact I.after hq
    | next => exact False.elim hq
    | brk => exact False.elim hq
    | cont => exact False.elim hq
/-- f(e, .., k = v, ..) -/
theorem pe_callK (F : FnOk X.prog X.w X.K X.mg X.base CX k f fd ps sp) (hr : Room k X.A) (hg : Gl X x) (hm : X.mg x = some (.ref f)) (hk : PySem.W.keepIn X.K (.ref f) = true) (hb : KBinds X.K fd ps ks g gV) (hx : Passes CX X E)
    (ha : PA X (e :: es) t) (hkw : PK X kws tk) (hall : (backToKw pos (keywordEach kws X.env)).all (·.1.isSome) = true := by rfl) (hks : (backToKw pos (keywordEach kws X.env)).filterMap (·.1) = ks := by rfl)
    (hdb : (x == ("__debug__" : Str)) = false := by decide) (he : starEach (e :: es) X.env = (false, eval e X.env) :: starEach es X.env := by rfl)
    (hpl : ((backTo pos (starEach (e :: es) X.env)).any (·.1) || (backToKw pos (keywordEach kws X.env)).any (·.1.isNone)) = false := by rfl) :
    PE X (.Call (.Name x p) (e :: es) kws pos) (tCallK sp gV E t tk) := by
  intro pins s σ H Q I h
  refine wpAny_Call_Name_kw (ld_glob I hg hm ?_ hdb)
  refine PySem.W.callWith_KW (h₀ := X.base) I.ok.mod.kin hk hall (thn (ha pos pins s σ H _ I h) fun us s1 ⟨vs, H1, I1, r, q⟩ => ?_) hpl he
  refine thn (hkw pos pins s1 σ H1 _ I1 q) fun ws s2 ⟨zs, H2, I2, rz, q2⟩ => ⟨I2.kIn, ?_⟩
  rw [hks]
  exact run_fnk F hr hb hx I2 r rz q2
end

/-! ### a def's body keeps its promise -/
/-- names: the parameters first -/
structure FnScope (N P : List Str) (sc : Scope) : Prop where
  kind : sc.kind = .function
  co : sc.isCoroutine = false
  gen : sc.isGenerator = false
  nd : N.Nodup
  pre : N.take P.length = P
  par : ∀ x ∈ P, sc.names.lookup x = some .local ∨ sc.names.lookup x = some .cell
  nofree : ∀ y ∈ sc.names, y.2 ≠ .free

theorem bindL_out {kindOf : Str → Option NameKind} {x : Str} : ∀ {binds : List (Str × Value)} {m : Str → Option Value}, (∀ v, (x, v) ∉ binds) → bindL kindOf binds m x = m x
  | [], _, _ => rfl
  | (n, v) :: r, m, h => by
    unfold bindL
    rw [bindL_out fun w hw => h w (List.mem_cons_of_mem _ hw)]
    split
    · have : x ≠ n := by rintro rfl; exact h v List.mem_cons_self
      simp [this]
    · rfl
theorem bindC_out {kindOf : Str → Option NameKind} {x : Str} : ∀ {binds : List (Str × Value)} {m : Str → Option Value}, (∀ v, (x, v) ∉ binds) → bindC kindOf binds m x = m x
  | [], _, _ => rfl
  | (n, v) :: r, m, h => by
    unfold bindC
    rw [bindC_out fun w hw => h w (List.mem_cons_of_mem _ hw)]
    split
    · rfl
    · have : x ≠ n := by rintro rfl; exact h v List.mem_cons_self
      simp [this]
theorem bindL_get {kindOf : Str → Option NameKind} {x : Str} {v : Value} : ∀ {P : List Str} {vs : List Value} {i : Nat} {m : Str → Option Value}, P.Nodup → P[i]? = some x → vs[i]? = some v → kindOf x = some .local →
    bindL kindOf (P.zip vs) m x = some v
  | [], _, _, _, _, h, _, _ => by simp at h
  | _ :: _, [], _, _, _, _, h, _ => by simp at h
  | p :: P, w :: vs, 0, m, nd, h1, h2, hk => by
    simp at h1 h2; subst h1; subst h2
    show bindL kindOf ((p, w) :: P.zip vs) m p = _
    unfold bindL
    rw [bindL_out fun v hv => (List.nodup_cons.mp nd).1 (List.of_mem_zip hv).1, if_pos hk]
    simp
  | p :: P, w :: vs, i + 1, m, nd, h1, h2, hk => by
    show bindL kindOf ((p, w) :: P.zip vs) m x = _
    unfold bindL
    exact bindL_get (i := i) (List.nodup_cons.mp nd).2 (by simpa using h1) (by simpa using h2) hk
theorem bindC_get {kindOf : Str → Option NameKind} {x : Str} {v : Value} : ∀ {P : List Str} {vs : List Value} {i : Nat} {m : Str → Option Value}, P.Nodup → P[i]? = some x → vs[i]? = some v → kindOf x ≠ some .local →
    bindC kindOf (P.zip vs) m x = some v
  | [], _, _, _, _, h, _, _ => by simp at h
  | _ :: _, [], _, _, _, _, h, _ => by simp at h
  | p :: P, w :: vs, 0, m, nd, h1, h2, hk => by
    simp at h1 h2; subst h1; subst h2
    show bindC kindOf ((p, w) :: P.zip vs) m p = _
    unfold bindC
    rw [bindC_out fun v hv => (List.nodup_cons.mp nd).1 (List.of_mem_zip hv).1, if_neg hk]
    simp
  | p :: P, w :: vs, i + 1, m, nd, h1, h2, hk => by
    show bindC kindOf ((p, w) :: P.zip vs) m x = _
    unfold bindC
    exact bindC_get (i := i) (List.nodup_cons.mp nd).2 (by simpa using h1) (by simpa using h2) hk

/-- the names' values at the entry -/
def start (N : List Str) (vs : List V) : St := vs.map some ++ List.replicate (N.length - vs.length) none

/-- the context of a def's body, at its entry; an exception leaves the frame, then lies as CX says -/
def cxOf (CX : CXT) (P : Program) (w : World) (K : PySem.W.Frag) (mg : Str → Option Value) (base : Heap) (N : List Str) (qual : Str) (scope : Scope) (f : Addr) (cd : Value) (A : Around) (outer : List Env) (s : Shared) (H : Hp) (E : XK) : Cx where
  prog := P
  w := w
  K := K
  mg := mg
  base := base
  A := A.deeper (envOfC qual scope s.heap.objs.size f cd)
  N := N
  s₀ := s
  H₀ := H
  env := envOfC qual scope s.heap.objs.size f cd
  outer := outer
  stack := envOfC qual scope s.heap.objs.size f cd :: outer
  ex := []
  calm := true
  fn := fun _ => true
  pn := []
  xe := fun e s' => wpAny (model P w) (A.deeper (envOfC qual scope s.heap.objs.size f cd)) (leaving (envOfC qual scope s.heap.objs.size f cd) e) (fun _ s'' => CX outer H s E e s'') (fun e' s'' => CX outer H s E e' s'') s'

theorem cell_has {sc : Scope} {n : Nat} {x : Str} (h : sc.names.lookup x = some .cell) : ∃ c, (cellsFrom n sc.names []).lookup x = some c := by
  have q := PySem.W.cellsFrom_some sc.names n [] (.inl h)
  exact Option.isSome_iff_exists.mp q

theorem inv_start {CX : CXT} {P : Program} {w : World} {K : PySem.W.Frag} {mg : Str → Option Value} {base : Heap} {N ps : List Str} {qual : Str} {scope : Scope} {f : Addr} {cd : Value} {A : Around} {outer : List Env} {s s1 : Shared} {H : Hp} {E : XK} {us : List Value} {vs : List V}
    (S : FnScope N ps scope) (hd : A.handled = none) (e0 : Env0 P w K mg base A outer s H) (hl : vs.length = ps.length) (r : Vals vs us)
    (x : InCallC s s.heap.objs.size (bindL (envOfC qual scope s.heap.objs.size f cd).kindOf (ps.zip us) fun _ => none) (cellsFrom (s.heap.objs.size + 1) scope.names []) (bindC (envOfC qual scope s.heap.objs.size f cd).kindOf (ps.zip us) fun _ => none) s1) :
    Inv (cxOf CX P w K mg base N qual scope f cd A outer s H E) [] (start N vs) H s1 := by
  have hpl : ps.length ≤ N.length := by have := congrArg List.length S.pre; rw [List.length_take] at this; omega
  obtain ⟨h1, tk, rfl, hk⟩ := x.done
  have noA : ∀ b : Addr, b ∉ (cxOf CX P w K mg base N qual scope f cd A outer s H E).ex := fun b z => absurd (show b ∈ ([] : List Addr) from z) (by simp)
  refine ⟨⟨e0.mod, S.kind, rfl, rfl, Nat.le_refl _, fun y z c h1 h2 => ?_, fun y hy => ?_, fun y c _ h => ?_, fun _ => hd, Around.frames_deeper e0.frames, .inr ⟨rfl, rfl⟩, fun b z => absurd z (noA b), e0.bs, e0.bsz, fun b _ _ => noA b, fun b z => absurd z (noA b), e0.funs, e0.frf⟩,
    rfl, e0.bare, Un.kept hk, ⟨_, x.toInCall.ns, fun i y v h1 h2 h3 => ?_⟩, fun y c h => ⟨_, x.cell y c h⟩, e0.hok.fresh (Nat.le_refl _), fun y c h => ?_, fun p hp => absurd (show p ∈ ([] : List (Addr × Obj)) from hp) (by simp), e0.hok.kept hk, ?_⟩
  · exact name_of_addr x.apart (PySem.mem_of_lookup h1) (PySem.mem_of_lookup h2)
  · have hy : scope.names.lookup y = some .cell ∨ scope.names.lookup y = some .free := hy
    rcases hy with hy | hy
    · exact cell_has hy
    · exact absurd rfl (S.nofree _ (PySem.mem_of_lookup hy))
  · exact Nat.le_of_lt (x.above y c (PySem.mem_of_lookup h))
  · have hi : i < vs.length := by
      unfold start at h2
      by_cases hi : i < vs.length
      · exact hi
      · rw [List.getElem?_append_right (by simpa using hi)] at h2
        rw [List.getElem?_replicate] at h2
        split at h2 <;> cases h2
    have ha : vs[i]? = some v := by
      unfold start at h2
      rw [List.getElem?_append_left (by simpa using hi), List.getElem?_map] at h2
      cases e : vs[i]? with
      | none => rw [e] at h2; cases h2
      | some a => rw [e] at h2; cases h2; rfl
    obtain ⟨u, hu, rv⟩ := r.get ha
    have hp : ps[i]? = some y := by
      rw [← S.pre, List.getElem?_take_of_lt (by omega)]; exact h1
    have ndP : ps.Nodup := by rw [← S.pre]; exact S.nd.sublist (List.take_sublist _ _)
    refine ⟨u, rv, ?_⟩
    rcases S.par y (List.mem_of_getElem? hp) with k | k
    · exact .inl ⟨k, bindL_get ndP hp hu k⟩
    · obtain ⟨c, e⟩ := cell_has (n := s.heap.objs.size + 1) k
      refine .inr ⟨.inl k, c, e, ?_⟩
      have q := x.cell y c e
      rw [bindC_get ndP hp hu (by show scope.names.lookup y ≠ _; rw [k]; decide)] at q
      exact q
  · exact e0.hok.fresh (Nat.le_of_lt (x.above y c (PySem.mem_of_lookup h)))
  · unfold start
    show _ = N.length
    rw [List.length_append, List.length_map, List.length_replicate]
    omega

/-- THE RULE: a def (or a method) of the text, by its body. The body's reading t is chosen for each entry; it is run at the parameters' values -/
theorem fn_of {CX : CXT} {P : Program} {w : World} {K : PySem.W.Frag} {mg : Str → Option Value} {base : Heap} {k : Nat} {f : Addr} {name qual : Str} {params : Arguments} {body : List Stmt} {scope : Scope} {dV kV doc pm cdv ct oc : Value} {an od : Option Addr}
    {osl : Array (Option Value)} {N ps : List Str} {sp : Sp} (lk : K.lookup f = some ⟨oc, od, .func (PySem.W.fnOf name qual params body scope dV kV doc pm an cdv ct), osl⟩) (hcd : PySem.W.codeIn K cdv qual = true) (S : FnScope N ps scope)
    (len : ∀ vs H Q E, sp vs H Q E → vs.length = ps.length)
    (hbody : ∀ (A : Around) (outer : List Env) (s : Shared) (H : Hp) (vs : List V) (Q : VK) (E : XK), Room k (A.deeper (envOfC qual scope s.heap.objs.size f cdv)) → sp vs H Q E →
      ∃ t, PSs (cxOf CX P w K mg base N qual scope f cdv A outer s H E) body t ∧ t { nx := fun _ H' => Q .non H', rt := Q } (start N vs) H) :
    FnOk P w K mg base CX (k + 1) f (PySem.W.fnOf name qual params body scope dV kV doc pm an cdv ct) ps sp := by
  refine ⟨len, fun A outer s H args us vs Q E hr e0 hb r hsp => ?_⟩
  have hl := len _ _ _ _ hsp
  have KX : K.In s.heap := e0.mod.kin.keeps fun b o e => (e0.bs b o e).1
  have lim : s.heap.NoLimit := e0.mod.nolimit.keeps fun b o e => (e0.bs b o e).1
  have hkind : ∀ y ∈ ps.zip us, scope.names.lookup y.1 = some .local ∨ (scope.names.lookup y.1 = some .cell ∧ ((cellsFrom (s.heap.objs.size + 1) scope.names []).lookup y.1).isSome = true) := fun ⟨n, v⟩ hy => by
    rcases S.par n (List.of_mem_zip hy).1 with q | q
    · exact .inl q
    · exact .inr ⟨q, PySem.W.cellsFrom_some _ _ _ (.inl q)⟩
  refine codeAny_call_function hr.depth (KX _ _ lk) rfl S.co S.gen rfl (PySem.W.codeRec_of KX hcd) (hb _ _ _ _ ?_)
  refine wpAny_newFunctionEnv_cells S.kind hkind fun env he s1 x => ?_
  subst he
  refine ⟨lim.keeps x.toInCall.keep, codeAny_func ?_⟩
  obtain ⟨t, ht, hq⟩ := hbody A outer s H vs Q E (hr.deeper _) hsp
  have I : Inv (cxOf CX P w K mg base N qual scope f cdv A outer s H E) [] (start N vs) H s1 := inv_start S hr.hd e0 hl r x
  refine wpAny_mono (ht [] s1 (start N vs) H _ I hq) (fun fl s' hs => ?_) fun e s' hs => hs
  have fin : ∀ {σ' : St} {H' : Hp} {v : V} {u : Value}, Inv (cxOf CX P w K mg base N qual scope f cdv A outer s H E) [] σ' H' s' → RelV v u → Q v H' → CE outer P w H s Q u s' :=
    fun {σ' H' v u} J rv q => ⟨v, H', J.os, J.bare, J.base, J.hok, rv, q⟩
  cases fl with
  | ret u =>
    obtain ⟨v, σ', H', J, rv, q⟩ := hs
    exact fin J rv q
  | next =>
    obtain ⟨σ', H', J, q⟩ := hs
    exact fin (v := V.non) (u := Value.none) J rfl q
  | brk =>
    obtain ⟨_, _, _, q⟩ := hs
    exact False.elim q
  | cont =>
    obtain ⟨_, _, _, q⟩ := hs
    exact False.elim q
end L2

namespace L2
open PySem PySem.Spec PyProof.Rows
section
variable {X : Cx} {x : Str} {p pos : Pos} {e : Expr} {es : List Expr} {t : TA} {id T : String} {r : List V → Hp → VK → Prop}

def tCB (r : List V → Hp → VK → Prop) (t : TA) : TE := fun σ H Q => t σ H fun vs H1 => r vs H1 Q
/-- f(e, ..), f a built-in function -/
theorem pe_callB (hc : CallR X (.builtin id) r) (hg : Gl X x) (hm : X.mg x = none) (hv : bootBuiltins x = some (.builtin id)) (ha : PA X (e :: es) t) (hn : x ≠ "__name__" := by decide) (hdb : (x == ("__debug__" : Str)) = false := by decide)
    (he : starEach (e :: es) X.env = (false, eval e X.env) :: starEach es X.env := by rfl) (hpl : (backTo pos (starEach es X.env)).any (·.1) = false := by rfl) : PE X (.Call (.Name x p) (e :: es) [] pos) (tCB r t) := by
  intro pins s σ H Q I h
  refine wpAny_Call_Name_kw (ld_blt I hg hm hv ?_ hn hdb)
  exact PyProof.Rows.callWith_builtin1 (thn (ha pos pins s σ H _ I h) fun us s1 ⟨vs, H1, I1, r1, q1⟩ => hc pins s1 σ H1 vs us Q I1 r1 q1) he hpl
/-- T(e, ..), T a built-in type -/
theorem pe_callTy (hc : CallR X (.type T) r) (hg : Gl X x) (hm : X.mg x = none) (hv : bootBuiltins x = some (.type T)) (ha : PA X (e :: es) t) (hn : x ≠ "__name__" := by decide) (hdb : (x == ("__debug__" : Str)) = false := by decide)
    (he : starEach (e :: es) X.env = (false, eval e X.env) :: starEach es X.env := by rfl) (hpl : (backTo pos (starEach es X.env)).any (·.1) = false := by rfl) : PE X (.Call (.Name x p) (e :: es) [] pos) (tCB r t) := by
  intro pins s σ H Q I h
  refine wpAny_Call_Name_kw (ld_blt I hg hm hv ?_ hn hdb)
  exact PyProof.Rows.callWith_type1 (thn (ha pos pins s σ H _ I h) fun us s1 ⟨vs, H1, I1, r1, q1⟩ => hc pins s1 σ H1 vs us Q I1 r1 q1) he hpl
/-- T() -/
theorem pe_callTy0 (hc : CallR X (.type T) r) (hg : Gl X x) (hm : X.mg x = none) (hv : bootBuiltins x = some (.type T)) (hn : x ≠ "__name__" := by decide) (hdb : (x == ("__debug__" : Str)) = false := by decide) :
    PE X (.Call (.Name x p) [] [] pos) (tCB r tNil) := by
  intro pins s σ H Q I h
  refine wpAny_Call_Name_kw (ld_blt I hg hm hv ?_ hn hdb)
  exact PyProof.Rows.callWith_type0 (hc pins s σ H [] [] Q I .nil h)
end
end L2

namespace HT
open PySem PyProof.Rows

/-- t < u of tuples of ints -/
def lexLt : List Int → List Int → Bool
  | [], [] => false
  | [], _ :: _ => true
  | _ :: _, [] => false
  | x :: xs, y :: ys => if x = y then lexLt xs ys else decide (x < y)
theorem lexLt_cons (x y : Int) (xs ys : List Int) : lexLt (x :: xs) (y :: ys) = if x = y then lexLt xs ys else decide (x < y) := rfl
theorem lexLt_nil_nil : lexLt [] [] = false := rfl
theorem lexLt_nil_cons (y : Int) (ys : List Int) : lexLt [] (y :: ys) = true := rfl
theorem lexLt_cons_nil (x : Int) (xs : List Int) : lexLt (x :: xs) [] = false := rfl

theorem eqAt_int (A : Around) (s : Shared) (a : Int) (t : Tok) (c : Int) (u : Tok) : ∃ e, SeqAt.EqAt A s (.int a t) (.int c u) e ∧ (e = true ↔ a = c) :=
  ⟨(a == c), SeqAt.EqAt.int_int a t c u, by simp⟩
theorem rcLt_int (A : Around) (s : Shared) (a : Int) (t : Tok) (c : Int) (u : Tok) (prog : Program) (w : World) (E : Value → Shared → Prop) (Q : Value → Shared → Prop) (h : Q (.bool (decide (a < c))) s) :
    wpAny (model prog w) A (richCompare .Lt (.int a t) (.int c u)) Q E s :=
  (PyProof.Rows.lt_int h : wpAny (model prog w) A (compareOp .Lt (.int a t) (.int c u)) Q E s)

section
open PySem.SeqAt
open PySem.AutoSeq1 (wpAny_loadPart')
open PySem.MeetsSeq PySem.MeetsSeq2 PySem.MeetsSeq3

theorem tuple_lt_ints (l b : Addr) (items items2 : Array Value) (n n2 : Nat) (dd dd2 : Option Addr) (sl sl2 : Array (Option Value)) (ns ms : List Int) (hi : IntsAre items.toList ns) (hj : IntsAre items2.toList ms) :
    Meets (Builtin.«tuple.__lt__» ⟨[.ref l, .ref b], []⟩)
      (fun _ R s => s.heap.get? l = some { cls := .type "tuple", dict := dd, data := .seq items n, slots := sl } ∧ s.heap.get? b = some { cls := .type "tuple", dict := dd2, data := .seq items2 n2, slots := sl2 } ∧
        R (.ok (.ret (.bool (lexLt ns ms)))) s) :=
  .of_wp fun prog w A R s h => by
    obtain ⟨hp, g, d, tk, os⟩ := s; obtain ⟨hl, hb, h⟩ := h
    have f2 := AutoSeq1.sub_tuple_tuple
    have z1 : items.size = ns.length := by rw [← hi.length]; simp
    have z2 : items2.size = ms.length := by rw [← hj.length]; simp
    wp_walk using wpAny_loadPart' hl, wpAny_loadPart' hb, wpAny_forIn_list _ (fun rest b s' => b.1 = none ∧ s' = ⟨hp, g, d, tk, os⟩ ∧ ∃ (vs ws : List Value) (ns' ms' : List Int), rest = vs.zip ws ∧
      IntsAre vs ns' ∧ IntsAre ws ms' ∧ ns'.length + items2.size = ms'.length + items.size ∧ R (.ok (.ret (.bool (lexLt ns' ms')))) ⟨hp, g, d, tk, os⟩) _
    case turn =>
      rintro ⟨y, x⟩ rest b s' ⟨hb', rfl, vs, ws, ns', ms', hz, hvi, hwi, hlen, hR⟩
      cases hvi with
      | nil => rw [List.zip_nil_left] at hz; cases hz
      | cons a t hvi' =>
        cases hwi with
        | nil => rw [List.zip_nil_right] at hz; cases hz
        | cons c u hwi' =>
          rw [List.zip_cons_cons] at hz
          injection hz with hyx hrest
          injection hyx with hy hx
          subst hy hx
          rw [lexLt_cons] at hR
          simp only [List.length_cons] at hlen
          obtain ⟨e, he, hiff⟩ := eqAt_int A.in1 ⟨hp, g, d, tk, os⟩ a t c u
          refine wpAny_bind (he prog w _ _ ?_)
          cases e with
          | true =>
            rw [if_pos (hiff.mp rfl)] at hR
            wp_walk
            exact ⟨rfl, rfl, _, _, _, _, hrest, hvi', hwi', by omega, hR⟩
          | false =>
            rw [if_neg (fun q => absurd (hiff.mpr q) Bool.false_ne_true)] at hR
            have hri := rcLt_int A.in1 ⟨hp, g, d, tk, os⟩ a t c u prog w
            wp_walk using hri
            exact ⟨_, rfl, by simpa using hR⟩
    case fin =>
      rintro ⟨b1, b2⟩ s' ⟨hb', rfl, vs, ws, ns', ms', hz, hvi, hwi, hlen, hR⟩
      simp only at hb'
      subst hb'
      have hv : lexLt ns' ms' = decide (items.size < items2.size) := by
        cases hvi with
        | nil =>
          cases hwi with
          | nil =>
            simp only [List.length_nil] at hlen
            rw [lexLt_nil_nil]
            exact (decide_eq_false (by omega)).symm
          | cons c u hw =>
            simp only [List.length_nil, List.length_cons] at hlen
            rw [lexLt_nil_cons]
            exact (decide_eq_true (by omega)).symm
        | cons a t hv =>
          cases hwi with
          | nil =>
            simp only [List.length_nil, List.length_cons] at hlen
            rw [lexLt_cons_nil]
            exact (decide_eq_false (by omega)).symm
          | cons c u hw =>
            rw [List.zip_cons_cons] at hz
            cases hz
      rw [hv] at hR
      wp_walk
      exact ⟨_, rfl, by simpa [Builtin.Tuple.tupleCompareSizes] using hR⟩
    case h =>
      exact ⟨rfl, rfl, items.toList, items2.toList, ns, ms, rfl, hi, hj, by omega, h⟩
end

section
variable {prog : Program} {w : World} {A : Around} {E : Value → Shared → Prop} {s : Shared}

theorem lt_tupInts {l b : Addr} {items items2 : Array Value} {ns ms : List Int} {Q : Value → Shared → Prop} (hl : IsTup s.heap l items) (hb : IsTup s.heap b items2) (hi : IntsAre items.toList ns) (hj : IntsAre items2.toList ms)
    (hu : A.units < cLine) (h : Q (.bool (lexLt ns ms)) s) : wpAny (model prog w) A (compareOp .Lt (.ref l) (.ref b)) Q E s := by
  obtain ⟨⟨cls, dd, data, sl⟩, ho, hc, n, hd⟩ := id hl
  obtain ⟨⟨cls2, dd2, data2, sl2⟩, ho2, hc2, n2, hd2⟩ := id hb
  simp only at hc hd hc2 hd2
  subst hc hd hc2 hd2
  exact richCompare_meets_room (op := .Lt) ⟨_, ho, rfl⟩ ⟨_, ho2, rfl⟩ PySem.F.slot_tuple_lt PySem.F.entry_tuple_lt (PySem.F.args_tuple_lt_2 _ _) (tuple_lt_ints l b items items2 n n2 dd dd2 sl sl2 ns ms hi hj)
    ⟨ho, ho2, show Value.bool (lexLt ns ms) ≠ Value.notImplemented ∧ Q (.bool (lexLt ns ms)) s from ⟨(fun x => nomatch x), h⟩⟩ hu

/-- t + u, t not empty -/
theorem cat_tup {t b : Addr} {vs ws : List Value} {Q : Value → Shared → Prop} (ht : IsTup s.heap t vs.toArray) (hb : IsTup s.heap b ws.toArray) (hv : vs ≠ [])
    (h1 : ws = [] → Q (.ref t) s) (h2 : ws ≠ [] → Q (.ref s.heap.objs.size) { s with heap := s.heap.push { cls := .type "tuple", data := .seq (vs ++ ws).toArray } })
    (hsz : vs.length + ws.length ≤ sizeLine) : wpAny (model prog w) A (binaryOp .Add (.ref t) (.ref b)) Q E s := by
  obtain ⟨⟨cls, dd, data, sl⟩, ho, hc, n, hd⟩ := id ht
  obtain ⟨⟨cls2, dd2, data2, sl2⟩, ho2, hc2, n2, hd2⟩ := id hb
  simp only at hc hd hc2 hd2
  subst hc hd hc2 hd2
  have e : vs.toArray ++ ws.toArray = (vs ++ ws).toArray := by simp
  by_cases hw : ws = []
  · exact concat_meets ⟨_, ho, rfl⟩ ⟨_, ho2, rfl⟩ noFill_tuple_add seq_tuple_add PySem.F.slot_tuple_add PySem.F.entry_tuple_add (PySem.F.args_tuple_add_2 _ _)
      (tuple_addW1 t b vs.toArray ws.toArray n n2 dd dd2 sl sl2 (by simpa using hv) (by simp [hw])) ⟨ho, ho2, h1 hw⟩
  · refine concat_meets ⟨_, ho, rfl⟩ ⟨_, ho2, rfl⟩ noFill_tuple_add seq_tuple_add PySem.F.slot_tuple_add PySem.F.entry_tuple_add (PySem.F.args_tuple_add_2 _ _)
      (tuple_addW2 t b vs.toArray ws.toArray n n2 dd dd2 sl sl2 (by simpa using hv) (by simpa using hw) (by rw [List.size_toArray, List.size_toArray]; exact hsz)) ⟨ho, ho2, ?_⟩
    rw [e]
    exact h2 hw

/-! ### t[a:b], not the whole -/
/-- a slice's bound as a place among n (d where it is left out) -/
def sIx (n d : Nat) : Option Int → Nat
  | none => d
  | some v => if v < 0 then (v + (n : Int)).toNat else min v.toNat n
theorem sIx_none (n d : Nat) : sIx n d none = d := rfl
theorem sIx_nat (n d k : Nat) : sIx n d (some (k : Int)) = min k n := by
  show (if (k : Int) < 0 then ((k : Int) + (n : Int)).toNat else min (k : Int).toNat n) = min k n
  rw [if_neg (by omega), Int.toNat_natCast]
theorem sIx_le (n d : Nat) (hd : d ≤ n) (o : Option Int) : sIx n d o ≤ n := by
  cases o with
  | none => exact hd
  | some v =>
    show (if v < 0 then (v + (n : Int)).toNat else min v.toNat n) ≤ n
    by_cases hv : v < 0
    · rw [if_pos hv]; omega
    · rw [if_neg hv]; exact Nat.min_le_right _ _
theorem clip_eq (v : Int) (n d : Nat) : (if v < 0 then max (v + (n : Int)) 0 else min v (n : Int)) = ((sIx n d (some v) : Nat) : Int) := by
  show (if v < 0 then max (v + (n : Int)) 0 else min v (n : Int)) = (((if v < 0 then (v + (n : Int)).toNat else min v.toNat n) : Nat) : Int)
  by_cases hv : v < 0
  · simp only [if_pos hv]; omega
  · simp only [if_neg hv]; omega
theorem adjust_gen (lo hi : Option Int) (n : Nat) : Builtin.Slice.sliceAdjust lo hi 1 (n : Int) = (((sIx n 0 lo : Nat) : Int), ((sIx n n hi : Nat) : Int)) := by
  have h1 : ¬ ((1 : Int) < 0) := by omega
  unfold Builtin.Slice.sliceAdjust
  simp only [h1, if_false]
  refine Prod.ext ?_ ?_
  · cases lo with
    | none => rfl
    | some v => exact clip_eq v n 0
  · cases hi with
    | none => rfl
    | some v => exact clip_eq v n n
theorem places_gen (i j : Nat) : Builtin.Slice.slicePlaces (i : Int) (j : Int) 1 = j - i := by
  unfold Builtin.Slice.slicePlaces
  have h1 : (1 : Int) > 0 := by omega
  simp only [h1, if_true, Int.ediv_one]
  split <;> omega
theorem slicePart_ {v : Value} {o : Option Int} {Q : Option Int → Shared → Prop} (p : IsPart v o) (h : Q o s) : wpAny (model prog w) A (Builtin.Slice.slicePartIndex v) Q E s := by
  cases p with
  | none => exact slicePart_none h
  | int i t => exact slicePart_int h
theorem sliceApplied_gen {sl : Addr} {vl vu : Value} {lo hi : Option Int} {n : Nat} {Q : Int × Int × Nat → Shared → Prop} (hs : s.heap.IsSliceOf sl vl vu .none) (pl : IsPart vl lo) (pu : IsPart vu hi)
    (h : Q (((sIx n 0 lo : Nat) : Int), 1, sIx n n hi - sIx n 0 lo) s) : wpAny (model prog w) A (Builtin.Slice.sliceApplied (.ref sl) (pure (n : Int))) Q E s := by
  obtain ⟨os, hos, hcs, hds⟩ := id hs
  unfold Builtin.Slice.sliceApplied Builtin.Slice.sliceFields
  refine wpAny_bind (wpAny_bind (wpAny_field hos hds (x := vl) rfl (wpAny_bind (wpAny_field hos hds (x := vu) rfl (wpAny_bind (wpAny_field hos hds (x := .none) rfl (wpAny_pure ?_)))))))
  refine wpAny_bind (slicePart_none ?_)
  show wpAny _ _ (if ((1 : Int) == 0) = true then _ else _) _ _ s
  rw [if_neg (by decide)]
  refine wpAny_bind (slicePart_ pl (wpAny_bind (slicePart_ pu (wpAny_bind (wpAny_pure ?_)))))
  show wpAny _ _ (match Builtin.Slice.sliceAdjust lo hi 1 (n : Int) with | (lo, hi) => pure (lo, (1 : Int), Builtin.Slice.slicePlaces lo hi 1)) _ _ s
  rw [adjust_gen lo hi n]
  show wpAny _ _ (pure (((sIx n 0 lo : Nat) : Int), (1 : Int), Builtin.Slice.slicePlaces ((sIx n 0 lo : Nat) : Int) ((sIx n n hi : Nat) : Int) 1)) _ _ s
  rw [places_gen]
  exact wpAny_pure h
theorem pick_gen (xs : Array Value) (i k : Nat) : ((List.range k).filterMap fun (m : Nat) => xs[((i : Int) + (m : Int) * 1).toNat]?).toArray = ((xs.toList.drop i).take k).toArray := by
  have e : (fun (m : Nat) => xs[((i : Int) + (m : Int) * 1).toNat]?) = fun m => xs[i + m]? := by
    funext m
    have : ((i : Int) + (m : Int) * 1).toNat = i + m := by omega
    rw [this]
  rw [e]
  have := pick_run xs i k
  rw [List.filterMap_map] at this
  have e2 : ((fun x => xs[x]?) ∘ fun x => i + x) = fun m => xs[i + m]? := rfl
  rw [e2] at this
  rw [this]

theorem getItem_tuple_cut {t sl : Addr} {items : Array Value} {vl vu : Value} {lo hi : Option Int} {Q : Value → Shared → Prop} (ht : IsTup s.heap t items) (hs : s.heap.IsSliceOf sl vl vu .none) (pl : IsPart vl lo) (pu : IsPart vu hi)
    (hw : ¬ (sIx items.size 0 lo = 0 ∧ sIx items.size items.size hi = items.size))
    (h : Q (.ref s.heap.objs.size) { s with heap := s.heap.push { cls := .type "tuple", data := .seq ((items.toList.drop (sIx items.size 0 lo)).take (sIx items.size items.size hi - sIx items.size 0 lo)).toArray } })
    (hsz : items.size ≤ sizeLine) : wpAny (model prog w) A (getItem (.ref t) (.ref sl)) Q E s := by
  have htake : sizeOk (.seq ((items.toList.drop (sIx items.size 0 lo)).take (sIx items.size items.size hi - sIx items.size 0 lo)).toArray) := by
    show ((items.toList.drop (sIx items.size 0 lo)).take (sIx items.size items.size hi - sIx items.size 0 lo)).toArray.size ≤ sizeLine
    rw [List.size_toArray, List.length_take, List.length_drop, Array.length_toList]
    omega
  have hj : sIx items.size items.size hi ≤ items.size := sIx_le _ _ (Nat.le_refl _) hi
  obtain ⟨os, hos, hcs, hds⟩ := id hs
  have hTs : s.TypeIs (.ref sl) "slice" := ⟨os, hos, hcs⟩
  unfold getItem
  try with_reducible refine wpAny_holding ?_
  first | refine wpAny_bind (wpAny_pure ?_) | skip
  refine wpAny_bind (wpAny_sequenceKey ht.typeIs (by decide) ?_)
  refine wpAny_bind (wpAny_callSpecial?_slot (name := Str.ofString "__getitem__") ht.typeIs PyProof.Rows.slot_tuple_getitem
    (wpAny_call_entry PyProof.Rows.slot_tuple_getitem ht.typeIs entry_tuple_getitem ?_ (args_tuple_getitem _ _)))
  show wpAny _ _ (Builtin.Tuple.tupleItemsOf (.ref t) >>= _) _ _ s
  refine wpAny_bind (tupleItemsOf_ ht ?_)
  refine wpAny_bind (wpAny_typeOf hTs ?_)
  rw [if_pos (by decide)]
  refine wpAny_bind (sliceApplied_gen hs pl pu ?_)
  have hno : ¬ ((((sIx items.size 0 lo : Nat) : Int) == 0 && (1 : Int) == 1 && (sIx items.size items.size hi - sIx items.size 0 lo) == items.size) = true) := by
    intro q
    rw [Bool.and_eq_true, Bool.and_eq_true] at q
    have q1 : ((sIx items.size 0 lo : Nat) : Int) = 0 := eq_of_beq q.1.1
    have q2 : sIx items.size items.size hi - sIx items.size 0 lo = items.size := eq_of_beq q.2
    exact hw ⟨by omega, by omega⟩
  show wpAny _ _ (if (((sIx items.size 0 lo : Nat) : Int) == 0 && (1 : Int) == 1 && (sIx items.size items.size hi - sIx items.size 0 lo) == items.size) = true then _ else _) _ _ s
  rw [if_neg hno, pick_gen]
  first
    | exact wpAny_bind (m := Builtin.Tuple.tupleExact _) (wpAny_newObj_type (wpAny_pure ⟨_, rfl, wpAny_pure h⟩) htake)
    | exact wpAny_bind (m := Builtin.Tuple.tupleExact _) (wpAny_newObj_type (wpAny_bind (wpAny_pure (wpAny_pure ⟨_, rfl, wpAny_pure h⟩))) htake)
    | exact wpAny_bind (wpAny_bind (m := Builtin.Tuple.tupleExact _) (wpAny_newObj_type (wpAny_pure (wpAny_pure ⟨_, rfl, wpAny_pure h⟩)) htake))
    | exact wpAny_bind (wpAny_bind (m := Builtin.Tuple.tupleExact _) (wpAny_newObj_type (wpAny_pure ⟨_, rfl, wpAny_pure h⟩) htake))
end
end HT

namespace L2
open PySem PySem.Spec PyProof.Rows

/-! ### the parts of a slice -/
abbrev TO := St → Hp → (Option Int → Hp → Prop) → Prop
/-- a slice's part (left out, or an int) -/
def PO (X : Cx) (e : Option Expr) (t : TO) : Prop :=
  ∀ (pins : List (Addr × Obj)) (s : Shared) (σ : St) (H : Hp) (Q : Option Int → Hp → Prop), Inv X pins σ H s → t σ H Q →
    wpAny (model X.prog X.w) X.A (evalPart e X.env) (fun u s' => ∃ o H', Inv X pins σ H' s' ∧ IsPart u o ∧ Q o H') X.xe s
def tNoPart : TO := fun _ H Q => Q none H
def tPart (t : TE) : TO := fun σ H Q => t σ H fun x H1 => ∃ i, x = .int i ∧ Q (some i) H1

theorem intsAre_of {ns : List Int} : ∀ {us : List Value}, Vals (ns.map V.int) us → IntsAre us ns := by
  induction ns with
  | nil => intro us r; rw [List.map_nil] at r; cases r; exact .nil
  | cons n ns ih =>
    intro us r
    rw [List.map_cons] at r
    cases r with
    | cons r1 r2 =>
      obtain ⟨t, e⟩ := r1
      subst e
      exact .cons n t (ih r2)

section
variable {X : Cx} {e : Expr} {te : TE} {lo hi : Option Expr} {tl th : TO} {pos p2 : Pos}

theorem po_none : PO X none tNoPart := by
  intro pins s σ H Q I h
  rw [evalPart_none]
  exact wpAny_pure ⟨none, H, I, .none, h⟩
theorem po_some (h : PE X e te) : PO X (some e) (tPart te) := by
  intro pins s σ H Q I hw
  rw [evalPart_some]
  refine thn (h pins s σ H _ I hw) fun u s1 ⟨x, H1, I1, r1, q1⟩ => ?_
  obtain ⟨i, rfl, q⟩ := q1
  obtain ⟨t, rfl⟩ := r1
  exact ⟨some i, H1, I1, .int i t, q⟩

/-- what a slice of a value is, by values: the slice object stands at sl -/
def SlR (X : Cx) (r : V → Option Int → Option Int → Hp → VK → Prop) : Prop :=
  ∀ (pins : List (Addr × Obj)) (s : Shared) (σ : St) (H : Hp) (x : V) (v vl vu : Value) (lo hi : Option Int) (sl : Addr) (Q : VK), Inv X pins σ H s → RelV x v → s.heap.IsSliceOf sl vl vu .none → IsPart vl lo → IsPart vu hi → r x lo hi H Q →
    ∃ T id, typeLookup (.type T) "__getitem__" = pure (some (.builtin id)) ∧ s.TypeIs v T ∧ wpAny (model X.prog X.w) X.A (getItem v (.ref sl)) (EP X pins σ Q) X.xe s
theorem SlR.or {r r' : V → Option Int → Option Int → Hp → VK → Prop} (h : SlR X r) (h' : SlR X r') : SlR X (fun x lo hi H Q => r x lo hi H Q ∨ r' x lo hi H Q) := by
  intro pins s σ H x v vl vu lo hi sl Q I rx hs pl pu q
  rcases q with q | q
  · exact h pins s σ H x v vl vu lo hi sl Q I rx hs pl pu q
  · exact h' pins s σ H x v vl vu lo hi sl Q I rx hs pl pu q
def tSl (r : V → Option Int → Option Int → Hp → VK → Prop) (te : TE) (tl th : TO) : TE := fun σ H Q => te σ H fun x H1 => tl σ H1 fun l H2 => th σ H2 fun u H3 => r x l u H3 Q
/-- a[lo:hi], any a -/
theorem pe_slice {r : V → Option Int → Option Int → Hp → VK → Prop} (hr : SlR X r) (he : PE X e te) (hl : PO X lo tl) (hu : PO X hi th) : PE X (.Subscript e (.Slice lo hi none p2) pos) (tSl r te tl th) := by
  intro pins s σ H Q I h
  refine Subscript_ (thn (he pins s σ H _ I h) fun v s1 ⟨x, H1, I1, r1, q1⟩ => ?_)
  refine wpAny_Slice (thn (hl pins s1 σ H1 _ I1 q1) fun vl s2 ⟨l, H2, I2, pl, q2⟩ => thn (hu pins s2 σ H2 _ I2 q2) fun vu s3 ⟨u, H3, I3, pu, q3⟩ => ?_)
  rw [evalPart_none]
  refine wpAny_pure ?_
  have I4 : Inv X pins σ H3 { s3 with heap := s3.heap.push { cls := .type "slice", data := .fields #[vl, vu, .none] } } := I3.kept (t' := s3.toks) fun b ob q => Heap.get?_push_of_some _ q
  obtain ⟨T, id, hT, ht, hg⟩ := hr pins { s3 with heap := s3.heap.push { cls := .type "slice", data := .fields #[vl, vu, .none] } } σ H3 x v vl vu l u s3.heap.objs.size Q I4 r1 (Heap.IsSliceOf.new ..) pl pu q3
  show wpAny (model X.prog X.w) X.A (subscriptTail e (.Slice lo hi none p2) v (.ref s3.heap.objs.size)) (EP X pins σ Q) X.xe { s3 with heap := s3.heap.push { cls := .type "slice", data := .fields #[vl, vu, .none] } }
  exact tail_any (ops := [.ref s3.heap.objs.size, v]) ht hT hg (by with_unfolding_all rfl)

/-- the items of xs[lo:hi] -/
def cutV (xs : List V) (lo hi : Option Int) : List V := (xs.drop (HT.sIx xs.length 0 lo)).take (HT.sIx xs.length xs.length hi - HT.sIx xs.length 0 lo)
theorem cutV_length (xs : List V) (lo hi : Option Int) : (cutV xs lo hi).length ≤ xs.length := by
  unfold cutV
  rw [List.length_take, List.length_drop]
  omega
/-- t[lo:hi], not the whole of it (the whole would be t itself) -/
def rSlT (K : PySem.W.Frag) : V → Option Int → Option Int → Hp → VK → Prop := fun x lo hi H Q => ∃ a xs, x = .ref a ∧ SqT K H a xs ∧
  ¬ (HT.sIx xs.length 0 lo = 0 ∧ HT.sIx xs.length xs.length hi = xs.length) ∧ ∀ p, H p = none → Q (.ref p) (upd H p (.tup (cutV xs lo hi)))
theorem sl_tup : SlR X (rSlT X.K) := by
  intro pins s σ H x v vl vu lo hi sl Q I rx hs pl pu h
  obtain ⟨a, xs, rfl, hx, hw, q⟩ := h
  cases rx
  obtain ⟨its, r, ht, hz⟩ := I.tuple hx
  have hlen : its.toArray.size = xs.length := by rw [List.size_toArray]; exact r.length.symm
  refine ⟨"tuple", _, PyProof.Rows.slot_tuple_getitem.lookup, ht.typeIs, ?_⟩
  refine HT.getItem_tuple_cut ht hs pl pu (by rw [hlen]; exact hw) ?_ (by rw [hlen]; exact hz)
  rw [hlen]
  refine ⟨.ref s.heap.objs.size, _, I.laid (t' := s.toks) (o := .tup (cutV xs lo hi)) (fun b ob q => Heap.get?_push_of_some _ q) (Nat.le_refl _) ?_, rfl, q _ (I.hok.fresh (Nat.le_refl _))⟩
  exact ⟨Nat.le_trans (cutV_length xs lo hi) hz, _, (r.drop (HT.sIx xs.length 0 lo)).take (HT.sIx xs.length xs.length hi - HT.sIx xs.length 0 lo), IsTup.new _ _⟩

/-! ### t < u, t + u -/
def rLtT (K : PySem.W.Frag) : R2 := fun x y H Q => ∃ a b ns ms, x = .ref a ∧ y = .ref b ∧ SqT K H a (ns.map V.int) ∧ SqT K H b (ms.map V.int) ∧ Q (.bl (HT.lexLt ns ms)) H
theorem op_ltT (hu : X.A.units < cLine) : OpR X (compareOp .Lt) (rLtT X.K) := by
  intro pins s σ H x y v u Q I rx ry h
  obtain ⟨a, b, ns, ms, rfl, rfl, ha, hb, q⟩ := h
  cases rx
  cases ry
  obtain ⟨its, r1, p1, _⟩ := I.tuple ha
  obtain ⟨its2, r2, p2, _⟩ := I.tuple hb
  have i1 : IntsAre its.toArray.toList ns := intsAre_of r1
  have i2 : IntsAre its2.toArray.toList ms := intsAre_of r2
  exact HT.lt_tupInts p1 p2 i1 i2 hu ⟨.bl (HT.lexLt ns ms), H, I, rfl, q⟩
/-- t + u, t not empty: u empty gives t itself -/
def rCatT (K : PySem.W.Frag) : R2 := fun x y H Q => ∃ a b xs ys, x = .ref a ∧ y = .ref b ∧ SqT K H a xs ∧ SqT K H b ys ∧ xs ≠ [] ∧ xs.length + ys.length ≤ sizeLine ∧
  (ys = [] → Q (.ref a) H) ∧ (ys ≠ [] → ∀ p, H p = none → Q (.ref p) (upd H p (.tup (xs ++ ys))))
theorem Vals.nil_iff {xs : List V} {us : List Value} (r : Vals xs us) : us = [] ↔ xs = [] := by
  cases r with
  | nil => simp
  | cons _ _ => simp
theorem op_catT : OpR X (binaryOp .Add) (rCatT X.K) := by
  intro pins s σ H x y v u Q I rx ry h
  obtain ⟨a, b, xs, ys, rfl, rfl, ha, hb, hx, hz, q1, q2⟩ := h
  cases rx
  cases ry
  obtain ⟨its, r1, p1, _⟩ := I.tuple ha
  obtain ⟨its2, r2, p2, _⟩ := I.tuple hb
  refine HT.cat_tup p1 p2 (fun z => hx (r1.nil_iff.mp z)) (fun z => ⟨.ref a, H, I, rfl, q1 (r2.nil_iff.mp z)⟩) (fun z => ?_) (by rw [← r1.length, ← r2.length]; exact hz)
  refine ⟨.ref s.heap.objs.size, _, I.laid (t' := s.toks) (o := .tup (xs ++ ys)) (fun b ob q => Heap.get?_push_of_some _ q) (Nat.le_refl _) ?_, rfl, q2 (fun w => z (r2.nil_iff.mpr w)) _ (I.hok.fresh (Nat.le_refl _))⟩
  exact ⟨by rw [List.length_append]; exact hz, _, r1.append r2, IsTup.new _ _⟩
/-- tuple(t) -/
theorem call_tupleT : CallR X (.type "tuple") (fun xs H Q => ∃ a ys, xs = [.ref a] ∧ SqT X.K H a ys ∧ Q (.ref a) H) := by
  intro pins s σ H xs us Q I r h
  obtain ⟨a, ys, rfl, ha, q⟩ := h
  obtain ⟨u, rfl, ru⟩ := vals1 r
  cases ru
  obtain ⟨its, _, p1, _⟩ := I.tuple ha
  exact call_tuple_same (items := its.toArray) p1 ⟨.ref a, H, I, rfl, q⟩
end
end L2

namespace L2
open PySem PySem.Spec PyProof.Rows

/-! ### places -/
/-- the place that an index of any sign means -/
def ixN (n : Nat) (i : Int) : Option Nat := if 0 ≤ i then (if i < n then some i.toNat else none) else if -(n : Int) ≤ i then some (i + n).toNat else none
def atI {α : Type} (xs : List α) (i : Int) : Option α := (ixN xs.length i).bind fun j => xs[j]?
theorem ixN_seq {n : Nat} {i : Int} {j : Nat} (h : ixN n i = some j) : seqIndex? i n = some j ∧ j < n ∧ -(n : Int) ≤ i ∧ i < n := by
  unfold ixN at h
  by_cases h0 : 0 ≤ i
  · rw [if_pos h0] at h
    by_cases h1 : i < n
    · rw [if_pos h1] at h
      have e : i.toNat = j := Option.some.inj h
      exact ⟨by rw [seqIndex_of h0 h1, e], by omega, by omega, h1⟩
    · rw [if_neg h1] at h; cases h
  · rw [if_neg h0] at h
    by_cases h1 : -(n : Int) ≤ i
    · rw [if_pos h1] at h
      have e : (i + n).toNat = j := Option.some.inj h
      exact ⟨by rw [seqIndex_neg (by omega) h1, e], by omega, h1, by omega⟩
    · rw [if_neg h1] at h; cases h
theorem atI_get {α : Type} {xs : List α} {i : Int} {v : α} (h : atI xs i = some v) : ∃ j, seqIndex? i xs.length = some j ∧ xs[j]? = some v ∧ j < xs.length ∧ -(xs.length : Int) ≤ i ∧ i < xs.length := by
  unfold atI at h
  cases e : ixN xs.length i with
  | none => rw [e] at h; cases h
  | some j =>
    rw [e] at h
    obtain ⟨h1, h2, h3, h4⟩ := ixN_seq e
    exact ⟨j, h1, h, h2, h3, h4⟩
theorem atI_nat {α : Type} {xs : List α} {j : Nat} {v : α} (h : xs[j]? = some v) : atI xs (j : Int) = some v := by
  have hj : j < xs.length := (List.getElem?_eq_some_iff.mp h).1
  have e : ixN xs.length (j : Int) = some j := by
    unfold ixN
    rw [if_pos (by omega), if_pos (by omega)]; simp
  unfold atI; rw [e]; exact h
theorem atI_last {α : Type} (xs : List α) (v : α) : atI (xs ++ [v]) (-1) = some v := by
  have hl : (xs ++ [v]).length = xs.length + 1 := by simp
  have e : ixN (xs ++ [v]).length (-1) = some xs.length := by
    unfold ixN
    rw [hl, if_neg (by decide), if_pos (by omega)]
    congr 1
    omega
  unfold atI
  rw [e]
  show (xs ++ [v])[xs.length]? = some v
  simp

/-! ### what may be subscripted -/
/-- what stands as an index of a plain subscript -/
def PlainIx (b : Expr) : Prop := ∀ o i, subscripted b false o i = operate [o, i] (getItem o i)
/-- a subscript by values -/
def IxR (X : Cx) (r : R2) : Prop :=
  ∀ (value slice : Expr) (pins : List (Addr × Obj)) (s : Shared) (σ : St) (H : Hp) (x y : V) (v u : Value) (Q : VK), Inv X pins σ H s → RelV x v → RelV y u → r x y H Q →
    subscripted slice false v u = operate [v, u] (getItem v u) → wpAny (model X.prog X.w) X.A (subscriptTail value slice v u) (EP X pins σ Q) X.xe s
/-- a call of a builtin's method by values: the receiver, the arguments -/
def MtR (X : Cx) (id : String) (r : V → List V → Hp → VK → Prop) : Prop :=
  ∀ (pins : List (Addr × Obj)) (s : Shared) (σ : St) (H : Hp) (x : V) (xs : List V) (v : Value) (us : List Value) (Q : VK), Inv X pins σ H s → RelV x v → Vals xs us → r x xs H Q →
    wpAny (model X.prog X.w) X.A (call (.builtin id) (v :: us)) (EP X pins σ Q) X.xe s
section
variable {X : Cx} {a b : Expr} {ta tb : TE} {pos : Pos}
theorem IxR.or {r r' : R2} (h : IxR X r) (h' : IxR X r') : IxR X (fun x y H Q => r x y H Q ∨ r' x y H Q) := by
  intro value slice pins s σ H x y v u Q I rx ry q hs
  rcases q with q | q
  · exact h value slice pins s σ H x y v u Q I rx ry q hs
  · exact h' value slice pins s σ H x y v u Q I rx ry q hs
theorem MtR.or {id : String} {r r' : V → List V → Hp → VK → Prop} (h : MtR X id r) (h' : MtR X id r') : MtR X id (fun x xs H Q => r x xs H Q ∨ r' x xs H Q) := by
  intro pins s σ H x xs v us Q I rx rs q
  rcases q with q | q
  · exact h pins s σ H x xs v us Q I rx rs q
  · exact h' pins s σ H x xs v us Q I rx rs q
/-- a[b] -/
theorem pe_ix {r : R2} (hr : IxR X r) (ha : PE X a ta) (hb : PE X b tb) (hs : PlainIx b) : PE X (.Subscript a b pos) (tOp r ta tb) := by
  intro pins s σ H Q I h
  exact Subscript_ (binT ha hb I h fun v u s2 x y H2 I2 rx ry q => hr a b pins s2 σ H2 x y v u Q I2 rx ry q (hs _ _))

def rIxL (K : PySem.W.Frag) : R2 := fun x y H Q => ∃ p xs i v, x = .ref p ∧ y = .int i ∧ SqL K H p xs ∧ atI xs i = some v ∧ Q v H
def rIxT (K : PySem.W.Frag) : R2 := fun x y H Q => ∃ p xs i v, x = .ref p ∧ y = .int i ∧ SqT K H p xs ∧ atI xs i = some v ∧ Q v H
def rIxS : R2 := fun x y H Q => ∃ z i c, x = .str z ∧ y = .int i ∧ z.length ≤ sizeLine ∧ atI z.cps.toList i = some c ∧ Q (.str ⟨#[c]⟩) H
theorem ix_list : IxR X (rIxL X.K) := by
  intro value slice pins s σ H x y v u Q I rx ry h hs
  obtain ⟨p, xs, i, z, rfl, rfl, hq, he, q⟩ := h
  cases rx
  obtain ⟨t, rfl⟩ := ry
  obtain ⟨its, r, pl, hz⟩ := I.list hq
  obtain ⟨j, h1, h2, h3, h4, h5⟩ := atI_get he
  obtain ⟨w, ew, rw'⟩ := r.get h2
  have hl := r.length
  have hn := line63
  have fin : EP X pins σ Q w s := ⟨z, H, I, rw', q⟩
  by_cases h0 : 0 ≤ i
  · have hj : i.toNat = j := by
      rw [seqIndex_of h0 h5] at h1
      exact Option.some.inj h1
    exact item_listR pl.isList h0 (by omega) (by rw [hj]; simpa using ew) fin hs
  · have hj : (i + (its.toArray.size : Int)).toNat = j := by
      rw [seqIndex_neg (by omega) h4] at h1
      rw [List.size_toArray, ← hl]
      exact Option.some.inj h1
    exact subscriptTail_builtinR (x := w) pl.isList.typeIs slot_list_getitem.lookup
      (wpAny_getItem_list_neg (Q := fun r s' => r = w ∧ EP X pins σ Q r s') pl.isList (by omega) (by rw [List.size_toArray] <;> omega) (by omega) (by rw [hj]; simpa using ew) ⟨rfl, fin⟩) hs
theorem ix_tup : IxR X (rIxT X.K) := by
  intro value slice pins s σ H x y v u Q I rx ry h hs
  obtain ⟨p, xs, i, z, rfl, rfl, hq, he, q⟩ := h
  cases rx
  obtain ⟨t, rfl⟩ := ry
  obtain ⟨its, r, pl, hz⟩ := I.tuple hq
  obtain ⟨j, h1, h2, h3, h4, h5⟩ := atI_get he
  obtain ⟨w, ew, rw'⟩ := r.get h2
  have hl := r.length
  have hn := line63
  have fin : EP X pins σ Q w s := ⟨z, H, I, rw', q⟩
  exact subscriptTail_builtinR (x := w) pl.typeIs slot_tuple_getitem.lookup
    (getItem_tuple (j := j) (Q := fun r s' => r = w ∧ EP X pins σ Q r s') pl (by omega) (by omega) (by rw [List.size_toArray, ← hl]; exact h1) (by simpa using ew) ⟨rfl, fin⟩) hs
theorem ix_str : IxR X rIxS := by
  intro value slice pins s σ H x y v u Q I rx ry h hs
  obtain ⟨z, i, c, rfl, rfl, hz, he, q⟩ := h
  obtain ⟨t, rfl⟩ := rx
  obtain ⟨t', rfl⟩ := ry
  obtain ⟨j, h1, h2, h3, h4, h5⟩ := atI_get he
  have hl : z.cps.toList.length = z.length := by simp [Str.length]
  rw [hl] at h1 h4 h5
  have hn := line63
  exact tail_any (typeIs_str s z t) slot_str_getitem.lookup (getItem_str (c := c) (by
    have e1 : decide (i < -(2 ^ 63 : Int)) = false := decide_eq_false (by omega)
    have e2 : decide (i ≥ 2 ^ 63) = false := decide_eq_false (by omega)
    rw [e1, e2, Bool.or_false]) (by rw [h1]; simpa using h2) ⟨.str ⟨#[c]⟩, H, I.tok _, ⟨_, rfl⟩, q⟩) hs
/-- list, tuple or str -/
def rIx (K : PySem.W.Frag) : R2 := fun x y H Q => rIxL K x y H Q ∨ rIxT K x y H Q ∨ rIxS x y H Q
theorem ix_seq : IxR X (rIx X.K) := ix_list.or (ix_tup.or ix_str)

/-! ### xs[i] = v, any sign -/
/-- the list's object behind a store -/
theorem mapSeq_set (its : List Value) (n j : Nat) (u : Value) : Obj.mapSeq (·.setIfInBounds j u) { cls := .type "list", data := .seq its.toArray n } = { cls := .type "list", data := .seq (its.set j u).toArray n } := by
  simp [Obj.mapSeq]
theorem Inv.lst {pins : List (Addr × Obj)} {σ : St} {H : Hp} {s : Shared} {p : Addr} {xs : List V} (I : Inv X pins σ H s) (h : H p = some (.lst xs)) :
    ∃ (its : List Value) (n : Nat), Vals xs its ∧ s.heap.get? p = some { cls := .type "list", data := .seq its.toArray n } ∧ xs.length ≤ sizeLine := by
  obtain ⟨z, its, n, r, e⟩ := I.hok p _ h
  exact ⟨its, n, r, e, z⟩
/-- the list at p is written by an update of its object -/
theorem Inv.lstUpd {pins : List (Addr × Obj)} {σ : St} {H : Hp} {s : Shared} {p : Addr} {xs ys : List V} {its its' : List Value} {n n' : Nat} {f : Obj → Obj} (I : Inv X pins σ H s) (h : H p = some (.lst xs))
    (ho : s.heap.get? p = some { cls := .type "list", data := .seq its.toArray n }) (hf : f { cls := .type "list", data := .seq its.toArray n } = { cls := .type "list", data := .seq its'.toArray n' }) (r : Vals ys its') (hz : ys.length ≤ sizeLine) (t : Nat) :
    Inv X pins σ (upd H p (.lst ys)) { s with heap := s.heap.update p f, toks := t } := by
  have e : (s.heap.update p f).get? p = some { cls := .type "list", data := .seq its'.toArray n' } := by
    rw [Heap.get?_update_self f ho (by rw [hf] <;> rfl), hf]
  refine I.write (x := p) (e := p) (by rw [h]; trivial) (.inl rfl) (fun b u hb q => (Heap.get?_update_other _ _ (Ne.symm hb)).trans q) ⟨_, e⟩ ?_
  exact ⟨hz, its', n', r, e⟩
def rSetL : V → V → V → Hp → (Hp → Prop) → Prop := fun o i v H Q => ∃ p xs k j, o = .ref p ∧ i = .int k ∧ H p = some (.lst xs) ∧ ixN xs.length k = some j ∧ Q (upd H p (.lst (xs.set j v)))
theorem set_list : PSet X rSetL := by
  intro pins s σ H o i v ov iv u Q I ro ri rv h
  obtain ⟨p, xs, k, j, rfl, rfl, hp, hj, q⟩ := h
  cases ro
  obtain ⟨t, rfl⟩ := ri
  obtain ⟨its, n, r, ho, hz⟩ := I.lst hp
  obtain ⟨h1, h2, h3, h4⟩ := ixN_seq hj
  have hl := r.length
  have hn := line63
  have I' : Inv X pins σ (upd H p (.lst (xs.set j v))) { s with heap := s.heap.update p (Obj.mapSeq (·.setIfInBounds j u)) } :=
    I.lstUpd hp ho (mapSeq_set its n j u) (r.set rv j) (by rw [List.length_set]; exact hz) s.toks
  by_cases h0 : 0 ≤ k
  · have hk : k.toNat = j := by
      rw [seqIndex_of h0 h4] at h1
      exact Option.some.inj h1
    exact PySem.W.ki_setAt ho h0 (by omega) (by rw [List.size_toArray, ← hl]; exact h4) (by rw [hk]; exact ⟨_, I', q⟩)
  · have hk : (k + (its.toArray.size : Int)).toNat = j := by
      rw [seqIndex_neg (by omega) h3] at h1
      rw [List.size_toArray, ← hl]
      exact Option.some.inj h1
    exact PySem.W.ki_setBack ho (by omega) (by rw [List.size_toArray, ← hl]; exact h3) (by omega) (by rw [hk]; exact ⟨_, I', q⟩)

/-! ### slices -/
theorem slice_bounds (lo hi : Option Int) (n : Nat) : (sliceBounds lo hi none n).1 = ((HT.sIx n 0 lo : Nat) : Int) ∧ (sliceBounds lo hi none n).2.1 = ((HT.sIx n n hi : Nat) : Int) ∧ (sliceBounds lo hi none n).2.2 = 1 := by
  refine ⟨?_, ?_, rfl⟩
  · cases lo with
    | none => simp [sliceBounds, HT.sIx]
    | some i =>
      simp only [sliceBounds, HT.sIx, Option.getD_none, show (1 : Int) > 0 by decide, if_true]
      by_cases h : i < 0
      · simp only [h, if_true] <;> omega
      · simp only [h, if_false] <;> omega
  · cases hi with
    | none => simp [sliceBounds, HT.sIx]
    | some i =>
      simp only [sliceBounds, HT.sIx, Option.getD_none, show (1 : Int) > 0 by decide, if_true]
      by_cases h : i < 0
      · simp only [h, if_true] <;> omega
      · simp only [h, if_false] <;> omega
theorem slicePick_cut (its : List Value) (lo hi : Option Int) : slicePick its.toArray lo hi none = ((its.drop (HT.sIx its.length 0 lo)).take (HT.sIx its.length its.length hi - HT.sIx its.length 0 lo)).toArray := by
  obtain ⟨h1, h2, h3⟩ := slice_bounds lo hi its.toArray.size
  unfold slicePick
  rw [h1, h2, h3]
  simp only [sliceRange_one, pick_run, List.size_toArray] <;> rfl
/-- xs[lo:hi] of a list: a new list -/
def rSlL (K : PySem.W.Frag) : V → Option Int → Option Int → Hp → VK → Prop := fun x lo hi H Q => ∃ a xs, x = .ref a ∧ SqL K H a xs ∧ ∀ p, H p = none → Q (.ref p) (upd H p (.lst (cutV xs lo hi)))
theorem sl_list : SlR X (rSlL X.K) := by
  intro pins s σ H x v vl vu lo hi sl Q I rx hs pl pu h
  obtain ⟨a, xs, rfl, hx, q⟩ := h
  cases rx
  obtain ⟨its, r, ht, hz⟩ := I.list hx
  have hlen := r.length
  refine ⟨"list", _, slot_list_getitem.lookup, ht.isList.typeIs, ?_⟩
  refine wpAny_getItem_list_slice ht.isList hs pl pu .none (by simp) ?_ (by rw [List.size_toArray] <;> omega)
  rw [slicePick_cut, ← hlen]
  refine ⟨.ref s.heap.objs.size, _, I.laid (t' := s.toks) (o := .lst (cutV xs lo hi)) (fun b ob q => Heap.get?_push_of_some _ q) (Nat.le_refl _) ?_, rfl, q _ (I.hok.fresh (Nat.le_refl _))⟩
  exact ⟨Nat.le_trans (cutV_length xs lo hi) hz, _, 0, (r.drop (HT.sIx xs.length 0 lo)).take (HT.sIx xs.length xs.length hi - HT.sIx xs.length 0 lo), Heap.get?_push_size _ rfl⟩

/-! ### in, not in: flat items -/
def flatV : V → Bool
  | .non => true
  | .bl _ => true
  | .int _ => true
  | .str _ => true
  | _ => false
/-- == of flat values -/
def eqV : V → V → Bool
  | .non, .non => true
  | .bl a, .bl b => a == b
  | .bl a, .int b => (if a then 1 else 0) == b
  | .int a, .bl b => a == (if b then 1 else 0)
  | .int a, .int b => a == b
  | .str a, .str b => a == b
  | _, _ => false
theorem eqAt_V {A : Around} {s : Shared} {y x : V} {u v : Value} (ry : RelV y u) (rx : RelV x v) (fy : flatV y = true) (fx : flatV x = true) : SeqAt.EqAt A s u v (eqV y x) := by
  cases y with
  | non =>
    cases ry
    cases x with
    | non => cases rx; exact SeqAt.EqAt.same _
    | bl b => cases rx; exact SeqAt.EqAt.none_bool b
    | int b => obtain ⟨t, rfl⟩ := rx; exact SeqAt.EqAt.none_int b t
    | str b => obtain ⟨t, rfl⟩ := rx; exact SeqAt.EqAt.none_str b t
    | _ => exact absurd (show false = true from fx) Bool.false_ne_true
  | bl a =>
    cases ry
    cases x with
    | non => cases rx; exact SeqAt.EqAt.bool_none a
    | bl b => cases rx; exact SeqAt.EqAt.bool_bool a b
    | int b => obtain ⟨t, rfl⟩ := rx; exact SeqAt.EqAt.bool_int a b t
    | str b => obtain ⟨t, rfl⟩ := rx; exact SeqAt.EqAt.bool_str a b t
    | _ => exact absurd (show false = true from fx) Bool.false_ne_true
  | int a =>
    obtain ⟨t', rfl⟩ := ry
    cases x with
    | non => cases rx; exact SeqAt.EqAt.int_none a t'
    | bl b => cases rx; exact SeqAt.EqAt.int_bool a t' b
    | int b => obtain ⟨t, rfl⟩ := rx; exact SeqAt.EqAt.int_int a t' b t
    | str b => obtain ⟨t, rfl⟩ := rx; exact SeqAt.EqAt.int_str a t' b t
    | _ => exact absurd (show false = true from fx) Bool.false_ne_true
  | str a =>
    obtain ⟨t', rfl⟩ := ry
    cases x with
    | non => cases rx; exact SeqAt.EqAt.str_none a t'
    | bl b => cases rx; exact SeqAt.EqAt.str_bool a t' b
    | int b => obtain ⟨t, rfl⟩ := rx; exact SeqAt.EqAt.str_int a t' b t
    | str b => obtain ⟨t, rfl⟩ := rx; exact SeqAt.EqAt.str_str a t' b t
    | _ => exact absurd (show false = true from fx) Bool.false_ne_true
  | _ => exact absurd (show false = true from fy) Bool.false_ne_true
/-- the items' answers, read off the values (a value's own answer does not lean on its token) -/
def eqU (x : V) (u : Value) : Bool := match u with
  | .none => eqV .non x
  | .bool b => eqV (.bl b) x
  | .int i _ => eqV (.int i) x
  | .str z _ => eqV (.str z) x
  | _ => false
theorem eqU_of {x y : V} {u : Value} (r : RelV y u) (f : flatV y = true) : eqU x u = eqV y x := by
  cases y with
  | non => cases r; rfl
  | bl b => cases r; rfl
  | int i => obtain ⟨t, rfl⟩ := r; rfl
  | str z => obtain ⟨t, rfl⟩ := r; rfl
  | _ => exact absurd (show false = true from f) Bool.false_ne_true
theorem any_eqU {x : V} : ∀ {xs : List V} {us : List Value}, Vals xs us → xs.all flatV = true → us.any (eqU x) = xs.any fun y => eqV y x
  | _, _, .nil, _ => rfl
  | y :: xs, u :: us, .cons r t, f => by
    rw [List.all_cons, Bool.and_eq_true] at f
    rw [List.any_cons, List.any_cons, eqU_of r f.1, any_eqU t f.2]
theorem mem_eqAt {A : Around} {s : Shared} {x : V} {v : Value} (rx : RelV x v) (fx : flatV x = true) : ∀ {xs : List V} {us : List Value}, Vals xs us → xs.all flatV = true → ∀ u ∈ us, SeqAt.EqAt A s u v (eqU x u)
  | _, _, .nil, _ => fun u hu => by cases hu
  | y :: xs, u :: us, .cons r t, f => fun u' hu => by
    rw [List.all_cons, Bool.and_eq_true] at f
    rcases List.mem_cons.mp hu with rfl | hu
    · rw [eqU_of r f.1]; exact eqAt_V r rx f.1 fx
    · exact mem_eqAt rx fx t f.2 u' hu
def inV (x : V) (xs : List V) : Bool := xs.any fun y => eqV y x
/-- x in a list or tuple of flat items -/
def rIn (K : PySem.W.Frag) (neg : Bool) : R2 := fun x y H Q => ∃ p xs, y = .ref p ∧ (SqL K H p xs ∨ SqT K H p xs) ∧ flatV x = true ∧ xs.all flatV = true ∧ Q (.bl (if neg then !inV x xs else inV x xs)) H
theorem op_in_seq : OpR X (compareOp .In) (rIn X.K false) := by
  intro pins s σ H x y v u Q I rx ry h
  obtain ⟨p, xs, rfl, hq, fx, fs, q⟩ := h
  cases ry
  rcases hq with hq | hq
  · obtain ⟨its, r, pl, hz⟩ := I.list hq
    refine SeqAt.in_listAt (eqU x) pl.isList (fun w hw => mem_eqAt rx fx r fs w (by simpa using hw)) ⟨.bl _, H, I, rfl, ?_⟩
    rw [show its.toArray.any (eqU x) = its.any (eqU x) by simp, any_eqU r fs]
    exact q
  · obtain ⟨its, r, pl, hz⟩ := I.tuple hq
    refine SeqAt.in_tupleAt (eqU x) pl (fun w hw => mem_eqAt rx fx r fs w (by simpa using hw)) ⟨.bl _, H, I, rfl, ?_⟩
    rw [show its.toArray.any (eqU x) = its.any (eqU x) by simp, any_eqU r fs]
    exact q
theorem op_notIn_seq : OpR X (compareOp .NotIn) (rIn X.K true) := by
  intro pins s σ H x y v u Q I rx ry h
  obtain ⟨p, xs, rfl, hq, fx, fs, q⟩ := h
  cases ry
  rcases hq with hq | hq
  · obtain ⟨its, r, pl, hz⟩ := I.list hq
    refine SeqAt.notIn_listAt (eqU x) pl.isList (fun w hw => mem_eqAt rx fx r fs w (by simpa using hw)) ⟨.bl _, H, I, rfl, ?_⟩
    rw [show its.toArray.any (eqU x) = its.any (eqU x) by simp, any_eqU r fs]
    exact q
  · obtain ⟨its, r, pl, hz⟩ := I.tuple hq
    refine SeqAt.notIn_tupleAt (eqU x) pl (fun w hw => mem_eqAt rx fx r fs w (by simpa using hw)) ⟨.bl _, H, I, rfl, ?_⟩
    rw [show its.toArray.any (eqU x) = its.any (eqU x) by simp, any_eqU r fs]
    exact q
theorem op_notIn_str : OpR X (compareOp .NotIn) (fun x y H Q => ∃ i j, x = .str i ∧ y = .str j ∧ Q (.bl (!(!(Builtin.Str.occurrences j i 0 j.length 1).isEmpty))) H) := by
  intro pins s σ H x y v u Q I rx ry h
  obtain ⟨i, j, rfl, rfl, q⟩ := h
  obtain ⟨t, rfl⟩ := rx
  obtain ⟨t', rfl⟩ := ry
  exact notIn_str ⟨.bl _, H, I, rfl, q⟩

/-! ### len, list(x), tuple(x) of any list or tuple that is read -/
theorem call_len_seq : CallR X (.builtin "len") (fun xs H Q => ∃ p ys, xs = [.ref p] ∧ (SqL X.K H p ys ∨ SqT X.K H p ys) ∧ Q (.int ys.length) H) := by
  intro pins s σ H xs us Q I r h
  obtain ⟨p, ys, rfl, hq, q⟩ := h
  obtain ⟨u, rfl, rx⟩ := vals1 r
  cases rx
  have hn := line63
  rcases hq with hq | hq
  · obtain ⟨its, r', pl, hz⟩ := I.list hq
    have hlen := r'.length
    exact Calls.call_len_list pl.isList (by simp only [List.size_toArray] <;> omega) ⟨.int ys.length, H, I.tok _, ⟨s.toks + 1, by rw [List.size_toArray, hlen]⟩, q⟩
  · obtain ⟨its, r', pl, hz⟩ := I.tuple hq
    have hlen := r'.length
    exact len_tuple pl (by simp only [List.size_toArray] <;> omega) ⟨.int ys.length, H, I.tok _, ⟨s.toks + 1, by rw [List.size_toArray, hlen]⟩, q⟩
theorem call_len_str : CallR X (.builtin "len") (fun xs H Q => ∃ z, xs = [.str z] ∧ z.length ≤ sizeLine ∧ Q (.int z.length) H) := by
  intro pins s σ H xs us Q I r h
  obtain ⟨z, rfl, hz, q⟩ := h
  obtain ⟨u, rfl, t, rfl⟩ := vals1 r
  have hn := line63
  exact len_str (by omega) ⟨.int z.length, H, I.tok _, ⟨_, rfl⟩, q⟩
theorem CallR.or {f : Value} {r r' : List V → Hp → VK → Prop} (h : CallR X f r) (h' : CallR X f r') : CallR X f (fun xs H Q => r xs H Q ∨ r' xs H Q) := by
  intro pins s σ H xs us Q I rs q
  rcases q with q | q
  · exact h pins s σ H xs us Q I rs q
  · exact h' pins s σ H xs us Q I rs q
theorem call_list_of : CallR X (.type "list") (fun xs H Q => ∃ p ys, xs = [.ref p] ∧ (SqL X.K H p ys ∨ SqT X.K H p ys) ∧ ∀ l, H l = none → Q (.ref l) (upd H l (.lst ys))) := by
  intro pins s σ H xs us Q I r h
  obtain ⟨p, ys, rfl, hq, q⟩ := h
  obtain ⟨u, rfl, rx⟩ := vals1 r
  cases rx
  have fin : ∀ (its : List Value), Vals ys its → ys.length ≤ sizeLine → ∀ (h' : Heap) (c' : Nat), (∀ b o', s.heap.get? b = some o' → h'.get? b = some o') →
      h'.get? s.heap.objs.size = some { cls := .type "list", dict := none, data := .seq its.toArray c', slots := #[] } → EP X pins σ Q (.ref s.heap.objs.size) { s with heap := h' } := fun its r' hz h' c' kp e =>
    ⟨.ref s.heap.objs.size, _, I.laid (t' := s.toks) kp (Nat.le_refl _) (show ObjOk X.prog X.w _ h' _ (.lst ys) from ⟨hz, its, c', r', e⟩), rfl, q _ (I.hok.fresh (Nat.le_refl _))⟩
  rcases hq with hq | hq
  · obtain ⟨its, r', pl, hz⟩ := I.list hq
    have hlen := r'.length
    obtain ⟨o, ho, hc, n, hd⟩ := pl.isList
    exact call_list_seq p (.inl rfl) ho hc hd (fun h' c' kp e => fin its r' hz h' c' kp e) (by simp only [List.size_toArray] <;> omega)
  · obtain ⟨its, r', pl, hz⟩ := I.tuple hq
    have hlen := r'.length
    obtain ⟨o, ho, hc, n, hd⟩ := pl
    exact call_list_seq p (.inr rfl) ho hc hd (fun h' c' kp e => fin its r' hz h' c' kp e) (by simp only [List.size_toArray] <;> omega)
theorem call_tuple_of : CallR X (.type "tuple") (fun xs H Q => ∃ p ys, xs = [.ref p] ∧ ((SqL X.K H p ys ∧ ∀ l, H l = none → Q (.ref l) (upd H l (.tup ys))) ∨ (SqT X.K H p ys ∧ Q (.ref p) H))) := by
  intro pins s σ H xs us Q I r h
  obtain ⟨p, ys, rfl, h⟩ := h
  obtain ⟨u, rfl, rx⟩ := vals1 r
  cases rx
  rcases h with ⟨hq, q⟩ | ⟨hq, q⟩
  · obtain ⟨its, r', pl, hz⟩ := I.list hq
    have hlen := r'.length
    refine call_tuple_list pl.isList (fun h' kp => ?_) (by simp only [List.size_toArray] <;> omega)
    have I1 : Inv X pins σ H { s with heap := h' } := I.kept (t' := s.toks) kp
    have I2 : Inv X pins σ (upd H h'.objs.size (.tup ys)) { s with heap := h'.push { cls := .type "tuple", data := .seq its.toArray } } :=
      I1.laid (t' := s.toks) (fun b o e => Heap.get?_push_of_some _ e) (Nat.le_refl _) (show ObjOk X.prog X.w _ _ _ (.tup ys) from ⟨hz, its, r', IsTup.new _ _⟩)
    exact ⟨.ref h'.objs.size, _, I2, rfl, q _ (I1.hok.fresh (Nat.le_refl _))⟩
  · obtain ⟨its, r', pl, hz⟩ := I.tuple hq
    exact call_tuple_same pl ⟨.ref p, H, I, rfl, q⟩

/-! ### the call of a builtin's method: o.m(..) -/
/-- the value is of that builtin type -/
def tyV (K : PySem.W.Frag) (T : String) (x : V) (H : Hp) : Prop := match x with
  | .str _ => T = "str"
  | .int _ => T = "int"
  | .ref p => (T = "list" ∧ ∃ xs, SqL K H p xs) ∨ (T = "tuple" ∧ ∃ o, K.lookup p = some o ∧ o.cls = .type "tuple" ∧ o.dict = none) ∨
      (T = "dict" ∧ ((∃ kvs, H p = some (.dK kvs)) ∨ ∃ kvs, H p = some (.dT kvs))) ∨ (T = "set" ∧ ∃ S n, H p = some (.set S n))
  | _ => False
theorem tyV_is {pins : List (Addr × Obj)} {σ : St} {H : Hp} {s : Shared} {T : String} {x : V} {v : Value} (I : Inv X pins σ H s) (r : RelV x v) (ty : tyV X.K T x H) :
    s.TypeIs v T ∧ ∀ a, v = .ref a → ∃ ob, s.heap.get? a = some ob ∧ ob.dict = none := by
  cases x with
  | str z =>
    obtain ⟨t, rfl⟩ := r
    cases (show T = "str" from ty)
    exact ⟨typeIs_str s z t, fun _ e => nomatch e⟩
  | int i =>
    obtain ⟨t, rfl⟩ := r
    cases (show T = "int" from ty)
    exact ⟨typeIs_int s i t, fun _ e => nomatch e⟩
  | ref p =>
    cases r
    rcases ty with ⟨rfl, xs, hq⟩ | ⟨rfl, o, hk, hc, hd⟩ | ⟨rfl, hk⟩ | ⟨rfl, S, n, hk⟩
    · obtain ⟨its, _, pl, _⟩ := I.list hq
      refine ⟨pl.isList.typeIs, fun a e => ?_⟩
      cases e
      obtain ⟨o, n, e, c, hd, _⟩ := pl
      exact ⟨o, e, hd⟩
    · refine ⟨⟨o, I.kIn p o hk, hc⟩, fun a e => ?_⟩
      cases e
      exact ⟨o, I.kIn _ o hk, hd⟩
    · have z : ∃ o, s.heap.get? p = some o ∧ o.ExactDict := by
        rcases hk with ⟨kvs, hk⟩ | ⟨kvs, hk⟩
        · obtain ⟨_, _, _, _, o, _, _, e, ex, _⟩ := I.hok p _ hk
          exact ⟨o, e, ex⟩
        · obtain ⟨_, _, _, _, o, _, _, e, ex, _⟩ := I.hok p _ hk
          exact ⟨o, e, ex⟩
      obtain ⟨o, e, ex⟩ := z
      refine ⟨⟨o, e, ex.1⟩, fun a e2 => ?_⟩
      cases e2
      exact ⟨o, e, ex.2.1⟩
    · obtain ⟨o, _, _, _, e, ex, _⟩ := I.hok p _ hk
      refine ⟨⟨o, e, ex.1⟩, fun a e2 => ?_⟩
      cases e2
      exact ⟨o, e, ex.2.1⟩
  | _ => exact False.elim ty
def tBM0 (K : PySem.W.Frag) (T : String) (r : V → List V → Hp → VK → Prop) (to : TE) : TE := fun σ H Q => to σ H fun x H1 => tyV K T x H1 ∧ r x [] H1 Q
def tBM (K : PySem.W.Frag) (T : String) (r : V → List V → Hp → VK → Prop) (to : TE) (t : TA) : TE := fun σ H Q => to σ H fun x H1 => tyV K T x H1 ∧ t σ H1 fun xs H2 => r x xs H2 Q
variable {o e : Expr} {es : List Expr} {to : TE} {t : TA} {name : Str} {apos cpos : Pos} {T id : String} {r : V → List V → Hp → VK → Prop}
theorem pe_bm0 (pa : PlainAttrs T) (slot : Slot T name id) (hty : typeOf (.builtin id) = pure (.type "method_descriptor")) (hm : MtR X id r) (ho : PE X o to)
    (hbase : attributeBase o name X.env (eval o X.env) = eval o X.env := by rfl) (hline : (apos.endLine == cpos.line) = true := by rfl) : PE X (.Call (.Attribute o name apos) [] [] cpos) (tBM0 X.K T r to) := by
  intro pins s σ H Q I h
  refine wpAny_Call_method0_late hbase hline (thn (ho pins s σ H _ I h) fun v s1 ⟨x, H1, I1, r1, ty, q1⟩ => ?_)
  obtain ⟨h1, h2⟩ := tyV_is I1 r1 ty
  exact ⟨T, id, pa, slot, hty, h1, h2, Calls.callWith_builtin rfl (PySem.evalArgs_none (hm pins s1 σ H1 x [] v [] Q I1 r1 .nil q1))⟩
theorem pe_bm (pa : PlainAttrs T) (slot : Slot T name id) (hty : typeOf (.builtin id) = pure (.type "method_descriptor")) (hm : MtR X id r) (ho : PE X o to) (ha : PA X (e :: es) t)
    (hbase : attributeBase o name X.env (eval o X.env) = eval o X.env := by rfl)
    (hfew : ((backTo cpos (starEach (e :: es) X.env)).all (fun x => !x.1) && (backToKw cpos (keywordEach [] X.env)).all (fun x => x.1.isSome)
      && decide ((e :: es).length + ([] : List Keyword).length + (if ([] : List Keyword).isEmpty then 0 else 1) < 30)) = true := by rfl)
    (hline : (apos.endLine == cpos.line) = true := by rfl) (hs : starEach (e :: es) X.env = (false, eval e X.env) :: starEach es X.env := by rfl) (hplain : (backTo cpos (starEach es X.env)).any (·.1) = false := by rfl) :
    PE X (.Call (.Attribute o name apos) (e :: es) [] cpos) (tBM X.K T r to t) := by
  intro pins s σ H Q I h
  refine wpAny_Call_method_late hbase hfew hline rfl (thn (ho pins s σ H _ I h) fun v s1 ⟨x, H1, I1, r1, ty, q1⟩ => ?_)
  obtain ⟨h1, h2⟩ := tyV_is I1 r1 ty
  refine ⟨T, id, pa, slot, hty, h1, h2, ?_⟩
  have hA := ha cpos pins s1 σ H1 _ I1 q1
  rw [hs] at hA ⊢
  refine Calls.callWith_builtin (by show (false || (backTo cpos (starEach es X.env)).any (·.1)) = false; rw [hplain] <;> rfl) (Calls.evalArgs_plain ?_)
  exact thn hA fun us s2 ⟨vs, H2, I2, r2, q2⟩ => hm pins s2 σ H2 x vs v us Q I2 r1 r2 q2
/- xs.append(e), list.index on a module's tuple .. are MtR facts of 06m -/
end
end L2

namespace L2
open PySem PySem.Spec PyProof.Rows

def MtM (X : Cx) (id : String) (r : V → List V → Hp → VK → Prop) : Prop :=
  ∀ (pins : List (Addr × Obj)) (s : Shared) (σ : St) (H : Hp) (x : V) (xs : List V) (v : Value) (us : List Value) (Q : VK), Inv X pins σ H s → RelV x v → Vals xs us → r x xs H Q →
    wpAny (model X.prog X.w) X.A (call (.builtin id) (v :: us)) (EP X pins σ Q) X.xe s

/-! ### lists of values -/
theorem Vals.one : ∀ {x : V} {us : List Value}, Vals [x] us → ∃ u, us = [u] ∧ RelV x u
  | _, _, .cons r .nil => ⟨_, rfl, r⟩
theorem Vals.two : ∀ {x y : V} {us : List Value}, Vals [x, y] us → ∃ u v, us = [u, v] ∧ RelV x u ∧ RelV y v
  | _, _, _, .cons r (.cons q .nil) => ⟨_, _, rfl, r, q⟩
theorem Vals.zero : ∀ {us : List Value}, Vals [] us → us = []
  | _, .nil => rfl
theorem Vals.dropLast {xs : List V} {us : List Value} (h : Vals xs us) : Vals xs.dropLast us.dropLast := by
  induction h with
  | nil => exact .nil
  | cons r t ih =>
    cases t with
    | nil => exact .nil
    | cons q t' => exact .cons r ih
theorem Vals.eraseIdx : ∀ {xs : List V} {us : List Value} (i : Nat), Vals xs us → Vals (xs.eraseIdx i) (us.eraseIdx i)
  | _, _, _, .nil => .nil
  | _, _, 0, .cons _ t => t
  | _, _, i + 1, .cons r t => .cons r (Vals.eraseIdx i t)
theorem Vals.reverse {xs : List V} {us : List Value} (h : Vals xs us) : Vals xs.reverse us.reverse := by
  induction h with
  | nil => exact .nil
  | cons r t ih => rw [List.reverse_cons, List.reverse_cons]; exact Vals.append ih (.cons r .nil)
theorem Vals.rep {xs : List V} {us : List Value} (h : Vals xs us) : ∀ k : Nat, Vals (List.replicate k xs).flatten (List.replicate k us).flatten
  | 0 => .nil
  | k + 1 => by
    rw [List.replicate_succ, List.replicate_succ, List.flatten_cons, List.flatten_cons]
    exact Vals.append h (Vals.rep h k)
theorem erase_last {α : Type} (l : List α) : l.eraseIdx (l.length - 1) = l.dropLast := by
  induction l with
  | nil => rfl
  | cons a r ih =>
    cases r with
    | nil => rfl
    | cons b r =>
      have e : (a :: b :: r).length - 1 = ((b :: r).length - 1) + 1 := by
        have h1 : (a :: b :: r).length = r.length + 2 := rfl
        have h2 : (b :: r).length = r.length + 1 := rfl
        omega
      rw [e, List.eraseIdx_cons_succ, ih]
      all_goals rfl
theorem len_erase {α : Type} : ∀ (l : List α) (i : Nat), (l.eraseIdx i).length ≤ l.length
  | [], _ => Nat.le_refl _
  | _ :: _, 0 => Nat.le_succ _
  | _ :: r, i + 1 => Nat.succ_le_succ (len_erase r i)
theorem foldl_rep (its : List Value) : ∀ (k : Nat) (acc : List Value),
    List.foldl (fun x1 x2 => x1 ++ x2) acc.toArray (List.replicate k its.toArray) = (acc ++ (List.replicate k its).flatten).toArray
  | 0, acc => by simp
  | k + 1, acc => by
    have e : acc.toArray ++ its.toArray = (acc ++ its).toArray := by simp
    have e2 : (acc ++ its) ++ (List.replicate k its).flatten = acc ++ (List.replicate (k + 1) its).flatten := by
      rw [List.replicate_succ, List.flatten_cons, List.append_assoc]
    rw [← e2, ← foldl_rep its k (acc ++ its), ← e, List.replicate_succ, List.foldl_cons]

section
variable {X : Cx} {pins : List (Addr × Obj)} {σ : St} {H : Hp} {s : Shared} {l b : Addr} {xs ys zs : List V}

/-! ### the two steps: a tracked list is rewritten, a new list is laid -/
theorem Inv.lset {its its' : List Value} {n : Nat} {f : Array Value → Array Value} {t' : Nat} (I : Inv X pins σ H s) (hH : H l = some (.lst xs))
    (e : s.heap.get? l = some { cls := .type "list", data := .seq its.toArray n }) (hf : f its.toArray = its'.toArray) (hv : Vals ys its') (hz : ys.length ≤ sizeLine) :
    Inv X pins σ (upd H l (.lst ys)) { s with heap := s.heap.update l (Obj.mapSeq f), toks := t' } := by
  have q := PySem.IsL.update e f
  rw [hf] at q
  refine I.write (x := l) (e := l) (by rw [hH]; exact trivial) (.inl rfl) (fun b' u hb hu => (Heap.get?_update_other s.heap (Obj.mapSeq f) (Ne.symm hb)).trans hu) ⟨_, q⟩ ?_
  exact ⟨hz, its', _, hv, q⟩
theorem Inv.lnew {its : List Value} {t' : Nat} (I : Inv X pins σ H s) (hv : Vals ys its) (hz : ys.length ≤ sizeLine) :
    Inv X pins σ (upd H s.heap.objs.size (.lst ys)) { s with heap := s.heap.push { cls := .type "list", data := .seq its.toArray }, toks := t' } :=
  I.laid (fun _ _ q => Heap.get?_push_of_some _ q) (Nat.le_refl _) ⟨hz, its, 0, hv, Heap.get?_push_size _ rfl⟩
theorem Inv.fresh (I : Inv X pins σ H s) : H s.heap.objs.size = none := I.hok.fresh (Nat.le_refl _)
theorem Inv.lstM (I : Inv X pins σ H s) (hH : H l = some (.lst xs)) : xs.length ≤ sizeLine ∧ ∃ (its : List Value) (n : Nat), Vals xs its ∧ xs.length = its.length ∧ s.heap.get? l = some { cls := .type "list", data := .seq its.toArray n } := by
  obtain ⟨z, its, n, r, e⟩ := I.hok l _ hH
  exact ⟨z, its, n, r, r.length, e⟩

theorem notLongL {n : Nat} (h : n ≤ sizeLine) : Builtin.List.listTooLong n = false := by
  unfold Builtin.List.listTooLong
  exact decide_eq_false (by omega)
end

section
variable {X : Cx}

/-! ### methods -/
def rAppend : V → List V → Hp → VK → Prop := fun x vs H Q => ∃ l xs y, x = .ref l ∧ vs = [y] ∧ H l = some (.lst xs) ∧ xs.length < sizeLine ∧ Q .non (upd H l (.lst (xs ++ [y])))
theorem mt_append : MtM X "list.append" rAppend := by
  intro pins s σ H x vs v us Q I rx rv h
  obtain ⟨l, xs, y, rfl, rfl, hH, hz, q⟩ := h
  cases rx
  obtain ⟨u, rfl, ru⟩ := rv.one
  obtain ⟨z, its, n, r, hl, e⟩ := I.lstM hH
  refine call_meets F.slot_list_append ⟨_, e, rfl⟩ F.entry_list_append (F.args_list_append_2 _ _) (PySem.list_append l its.toArray n u (by rw [List.size_toArray]; omega)) ⟨e, ?_⟩
  refine ⟨.non, _, I.lset (its' := its ++ [u]) hH e (by simp) (r.append (.cons ru .nil)) ?_, rfl, q⟩
  rw [List.length_append, List.length_singleton]
  omega

def rExtend : V → List V → Hp → VK → Prop := fun x vs H Q => ∃ l b xs zs, x = .ref l ∧ vs = [.ref b] ∧ H l = some (.lst xs) ∧ H b = some (.lst zs) ∧ xs.length + zs.length ≤ sizeLine ∧ Q .non (upd H l (.lst (xs ++ zs)))
theorem mt_extend : MtM X "list.extend" rExtend := by
  intro pins s σ H x vs v us Q I rx rv h
  obtain ⟨l, b, xs, zs, rfl, rfl, hH, hB, hz, q⟩ := h
  cases rx
  obtain ⟨u, rfl, ru⟩ := rv.one
  cases ru
  obtain ⟨z, its, n, r, hl, e⟩ := I.lstM hH
  obtain ⟨z2, its2, n2, r2, hl2, e2⟩ := I.lstM hB
  have hsz : its.toArray.size + its2.toArray.size ≤ sizeLine := by rw [List.size_toArray, List.size_toArray]; omega
  have hlong : ¬ (!its.toArray.isEmpty && Builtin.List.listTooLong (its.toArray.size + its2.toArray.size)) = true := by
    rw [notLongL hsz, Bool.and_false]
    exact Bool.false_ne_true
  refine call_meets F.slot_list_extend ⟨_, e, rfl⟩ F.entry_list_extend (F.args_list_extend_2 _ _)
    (AutoSeq1.list_extend_list_list_0 l its.toArray n b its2.toArray n2 hlong (by rw [List.size_toArray]; omega) (by omega)) ⟨e, e2, ?_⟩
  refine ⟨.non, _, I.lset (its' := its ++ its2) hH e (by simp) (r.append r2) ?_, rfl, q⟩
  rw [List.length_append]
  omega

def rPop : V → List V → Hp → VK → Prop := fun x vs H Q => ∃ l xs y, x = .ref l ∧ vs = [] ∧ H l = some (.lst xs) ∧ xs[xs.length - 1]? = some y ∧ Q y (upd H l (.lst xs.dropLast))
theorem mt_pop : MtM X "list.pop" rPop := by
  intro pins s σ H x vs v us Q I rx rv h
  obtain ⟨l, xs, y, rfl, rfl, hH, hy, q⟩ := h
  cases rx
  have hus := rv.zero
  subst hus
  obtain ⟨z, its, n, r, hl, e⟩ := I.lstM hH
  obtain ⟨u, hu, ru⟩ := r.get hy
  have hy' : its.toArray[its.toArray.size - 1]? = some u := by
    show its.toArray[its.length - 1]? = some u
    rw [← Array.getElem?_toList, ← hl]
    exact hu
  refine call_meets F.slot_list_pop ⟨_, e, rfl⟩ F.entry_list_pop (F.args_list_pop_1 _) (MeetsSeq.list_pop_last l its.toArray n u hy' (by rw [List.size_toArray]; omega)) ⟨e, ?_⟩
  refine ⟨y, _, I.lset (its' := its.dropLast) hH e ?_ r.dropLast ?_, ru, q⟩
  · show its.toArray.eraseIdxIfInBounds (its.toArray.size - 1) = its.dropLast.toArray
    rw [List.size_toArray, List.eraseIdxIfInBounds_toArray, erase_last]
  · rw [List.length_dropLast]
    omega

def rPopAt : V → List V → Hp → VK → Prop := fun x vs H Q => ∃ l xs i k y, x = .ref l ∧ vs = [.int i] ∧ H l = some (.lst xs) ∧ -(2 ^ 63) ≤ i ∧ i < 2 ^ 63 ∧ seqIndex? i xs.length = some k ∧ xs[k]? = some y ∧ Q y (upd H l (.lst (xs.eraseIdx k)))
theorem mt_popAt : MtM X "list.pop" rPopAt := by
  intro pins s σ H x vs v us Q I rx rv h
  obtain ⟨l, xs, i, k, y, rfl, rfl, hH, h1, h2, hk, hy, q⟩ := h
  cases rx
  obtain ⟨u, rfl, ru⟩ := rv.one
  obtain ⟨t, rfl⟩ := ru
  obtain ⟨z, its, n, r, hl, e⟩ := I.lstM hH
  obtain ⟨w, hw, rw'⟩ := r.get hy
  refine call_meets F.slot_list_pop ⟨_, e, rfl⟩ F.entry_list_pop (F.args_list_pop_2 _ _)
    (MeetsSeq.list_pop_at l its.toArray n i t k w (fitsIndex_both h1 h2) (by rw [List.size_toArray, ← hl]; exact hk) (by rw [← Array.getElem?_toList]; exact hw) (by rw [List.size_toArray]; omega)) ⟨e, ?_⟩
  refine ⟨y, _, I.lset (its' := its.eraseIdx k) hH e ?_ (r.eraseIdx k) ?_, rw', q⟩
  · show its.toArray.eraseIdxIfInBounds k = (its.eraseIdx k).toArray
    rw [List.eraseIdxIfInBounds_toArray]
  · have := len_erase xs k
    omega

def rReverse : V → List V → Hp → VK → Prop := fun x vs H Q => ∃ l xs, x = .ref l ∧ vs = [] ∧ H l = some (.lst xs) ∧ Q .non (upd H l (.lst xs.reverse))
theorem mt_reverse : MtM X "list.reverse" rReverse := by
  intro pins s σ H x vs v us Q I rx rv h
  obtain ⟨l, xs, rfl, rfl, hH, q⟩ := h
  cases rx
  have hus := rv.zero
  subst hus
  obtain ⟨z, its, n, r, hl, e⟩ := I.lstM hH
  refine call_meets F.slot_list_reverse ⟨_, e, rfl⟩ F.entry_list_reverse (F.args_list_reverse_1 _) (AutoSeq1.list_reverse_list_0 l its.toArray n (by rw [List.size_toArray]; omega)) ⟨e, ?_⟩
  refine ⟨.non, _, I.lset (its' := its.reverse) hH e (by simp) r.reverse ?_, rfl, q⟩
  rw [List.length_reverse]
  omega

def rClear : V → List V → Hp → VK → Prop := fun x vs H Q => ∃ l xs, x = .ref l ∧ vs = [] ∧ H l = some (.lst xs) ∧ Q .non (upd H l (.lst []))
theorem mt_clear : MtM X "list.clear" rClear := by
  intro pins s σ H x vs v us Q I rx rv h
  obtain ⟨l, xs, rfl, rfl, hH, q⟩ := h
  cases rx
  have hus := rv.zero
  subst hus
  obtain ⟨z, its, n, r, hl, e⟩ := I.lstM hH
  refine call_meets F.slot_list_clear ⟨_, e, rfl⟩ F.entry_list_clear (F.args_list_clear_1 _) (AutoSeq1.list_clear_list_0 l its.toArray n (by rw [List.size_toArray]; omega)) ⟨e, ?_⟩
  exact ⟨.non, _, I.lset (its' := []) (ys := []) hH e rfl .nil (Nat.zero_le _), rfl, q⟩

/-! ### list + list, list += list, list * int -/
def rCat : R2 := fun x y H Q => ∃ l b xs zs, x = .ref l ∧ y = .ref b ∧ H l = some (.lst xs) ∧ H b = some (.lst zs) ∧ xs.length + zs.length ≤ sizeLine ∧ ∀ p, H p = none → Q (.ref p) (upd H p (.lst (xs ++ zs)))
theorem op_cat : OpR X (binaryOp .Add) rCat := by
  intro pins s σ H x y v u Q I rx ry h
  obtain ⟨l, b, xs, zs, rfl, rfl, hH, hB, hz, q⟩ := h
  cases rx
  cases ry
  obtain ⟨z, its, n, r, hl, e⟩ := I.lstM hH
  obtain ⟨z2, its2, n2, r2, hl2, e2⟩ := I.lstM hB
  refine PySem.P.add_list e e2 ?_ (by rw [List.size_toArray, List.size_toArray]; omega)
  have ea : its.toArray ++ its2.toArray = (its ++ its2).toArray := by simp
  rw [ea]
  exact ⟨.ref _, _, I.lnew (t' := s.toks) (r.append r2) (by rw [List.length_append]; omega), rfl, q _ I.fresh⟩
/-- a list times an int (a negative one is nothing) -/
def rRep : R2 := fun x y H Q => ∃ l k xs, x = .ref l ∧ y = .int k ∧ H l = some (.lst xs) ∧ -(2 ^ 63) ≤ k ∧ k < 2 ^ 63 ∧ xs.length * k.toNat ≤ sizeLine ∧
  ∀ p, H p = none → Q (.ref p) (upd H p (.lst (List.replicate k.toNat xs).flatten))
theorem len_rep {α : Type} (xs : List α) (k : Nat) : (List.replicate k xs).flatten.length = k * xs.length := by
  induction k with
  | zero => simp
  | succ k ih => rw [List.replicate_succ, List.flatten_cons, List.length_append, ih, Nat.succ_mul, Nat.add_comm]
theorem op_rep : OpR X (binaryOp .Mult) rRep := by
  intro pins s σ H x y v u Q I rx ry h
  obtain ⟨l, k, xs, rfl, rfl, hH, h1, h2, hz, q⟩ := h
  cases rx
  obtain ⟨t, rfl⟩ := ry
  obtain ⟨z, its, n, r, hl, e⟩ := I.lstM hH
  have hlen : its.toArray.size * k.toNat ≤ sizeLine := by rw [List.size_toArray, ← hl]; exact hz
  have hcap : ¬ its.toArray.size * k.toNat > (2 ^ 63 - 1) / 8 := by
    have : (sizeLine : Nat) ≤ (2 ^ 63 - 1) / 8 := by decide
    omega
  have hfit : ¬ (!Builtin.List.listFitsIndex k) = true := by
    rw [fitsIndex_both h1 h2]
    exact Bool.false_ne_true
  have hlong : ¬ Builtin.List.listTooLong (its.toArray.size * k.toNat) = true := by
    rw [notLongL hlen]
    exact Bool.false_ne_true
  have hnew : List.foldl (fun x1 x2 => x1 ++ x2) #[] (List.replicate (if its.toArray.isEmpty = true then 0 else k.toNat) its.toArray) = (List.replicate k.toNat its).flatten.toArray := by
    have f0 : ∀ m : Nat, List.foldl (fun x1 x2 => x1 ++ x2) #[] (List.replicate m its.toArray) = (List.replicate m its).flatten.toArray := fun m => by
      have := foldl_rep its m []
      rw [List.nil_append] at this
      exact this
    rw [f0]
    cases its with
    | nil => simp
    | cons a r' => rw [if_neg (by simp)]
  refine wpAny_binaryOp_repeat_ref (T := "list") (U := "int") (by decide) ⟨_, e, rfl⟩ (fun s' => typeIs_int s' k t) noFill_list_mul F.fills_int_mul F.slot_int_rmul repeat_list F.slot_int_index.lookup
    (call_meets F.slot_int_rmul (typeIs_int s k t) F.entry_int_rmul (F.args_int_rmul_2 _ _) (int___rmul___int_list k t l its.toArray n)
      ⟨e, rfl, ⟨_, e, rfl⟩, call_meets F.slot_list_mul ⟨_, e, rfl⟩ F.entry_list_mul (F.args_list_mul_2 _ _) (AutoListH.list___mul___list_int_3 l its.toArray n k t hfit hcap hlong) ⟨e, ?_⟩⟩)
  rw [hnew]
  exact ⟨.ref _, _, I.lnew (t' := s.toks) (r.rep k.toNat) (by rw [len_rep, Nat.mul_comm]; exact hz), rfl, q _ I.fresh⟩

/-! ### del xs[i] -/
theorem del_list {pins : List (Addr × Obj)} {s : Shared} {σ : St} {H : Hp} {l : Addr} {xs : List V} {i : Int} {t : Tok} {k : Nat} {Q : Unit → Shared → Prop} (I : Inv X pins σ H s) (hH : H l = some (.lst xs))
    (h1 : -(2 ^ 63) ≤ i) (h2 : i < 2 ^ 63) (hk : seqIndex? i xs.length = some k) (h : ∀ s', Inv X pins σ (upd H l (.lst (xs.eraseIdx k))) s' → Q () s') :
    wpAny (model X.prog X.w) X.A (delItem (.ref l) (.int i t)) Q X.xe s := by
  obtain ⟨z, its, n, r, hl, e⟩ := I.lstM hH
  refine PySem.P.delItem_list (k := k) e (fitsIndex_both h1 h2) (by rw [List.size_toArray, ← hl]; exact hk) (h _ ?_) (by rw [List.size_toArray]; omega)
  refine I.lset (its' := its.eraseIdx k) (t' := s.toks) hH e ?_ (r.eraseIdx k) ?_
  · show its.toArray.eraseIdxIfInBounds k = (its.eraseIdx k).toArray
    rw [List.eraseIdxIfInBounds_toArray]
  · have := len_erase xs k
    omega
end

/-! ### xs[a:b] = ys -/
section
variable {prog : Program} {w : World} {A : Around} {E : Value → Shared → Prop} {s : Shared}
theorem splice_eq (its its2 : List Value) (a c : Nat) : its.toArray.extract 0 a ++ its2.toArray ++ its.toArray.extract c its.toArray.size = (its.take a ++ its2 ++ its.drop c).toArray := by
  apply Array.toList_inj.mp
  first
    | (simp
       exact List.take_of_length_le (by simp))
    | simp [List.take_of_length_le]
    | simp
theorem bounds_run {a c n : Nat} (hac : a ≤ c) (hc : c ≤ n) : sliceBounds (some (a : Int)) (some (c : Int)) none n = ((a : Int), (c : Int), 1) := by
  simp only [sliceBounds, Option.getD_none]
  have h1 : ¬ ((a : Int) < 0) := by omega
  have h2 : ¬ ((c : Int) < 0) := by omega
  simp only [h1, h2, if_false, show (1 : Int) > 0 by decide, if_true]
  congr 1
  · omega
  · congr 1; omega
set_option maxRecDepth 100000 in
/-- list.__setitem__ with a slice of step one and another list -/
theorem setItem_slice {l b sl : Addr} {items new : Array Value} {n n2 : Nat} {vl vu : Value} {a c : Nat} {Q : Unit → Shared → Prop}
    (e : s.heap.get? l = some { cls := .type "list", data := .seq items n }) (e2 : s.heap.get? b = some { cls := .type "list", data := .seq new n2 }) (hne : l ≠ b)
    (hs : s.heap.IsSliceOf sl vl vu .none) (pl : IsPart vl (some (a : Int))) (pu : IsPart vu (some (c : Int))) (hac : a ≤ c) (hc : c ≤ items.size)
    (hsz : items.size + new.size ≤ sizeLine) (h : Q () { s with heap := s.heap.update l (Obj.mapSeq fun xs => xs.extract 0 a ++ new ++ xs.extract c xs.size) }) :
    wpAny (model prog w) A (setItem (.ref l) (.ref sl) (.ref b)) Q E s := by
  have hl : s.heap.IsList l items := PySem.IsL.isList e
  have hb : s.heap.IsList b new := PySem.IsL.isList e2
  obtain ⟨os, hos, hcs, hds⟩ := id hs
  have hTs : s.TypeIs (.ref sl) "slice" := ⟨os, hos, hcs⟩
  have hstep : ¬ ((rawPart none == rawInt 0) = true) := Bool.false_ne_true
  have hsame : Builtin.List.listSameRef (.ref l) (.ref b) = false := by
    unfold Builtin.List.listSameRef
    exact beq_eq_false_iff_ne.mpr hne
  have hmax : (max (a : Int) (c : Int)).toNat = c := by omega
  have hz' : ((fun xs : Array Value => xs.extract 0 a ++ new ++ xs.extract c xs.size) items).size ≤ sizeLine + 1 := by
    simp only [Array.size_append, Array.size_extract]
    omega
  unfold setItem
  try with_reducible refine wpAny_holding ?_
  first | refine wpAny_bind (wpAny_pure ?_) | skip
  refine wpAny_bind (wpAny_sequenceKey hl.typeIs (by decide) ?_)
  refine wpAny_bind (wpAny_callSpecial?_slot (name := Str.ofString "__setitem__") hl.typeIs slot_list_setitem
    (wpAny_call_entry slot_list_setitem hl.typeIs entry_list_setitem ?_ (args_list_setitem _ _ _)))
  show wpAny _ _ (Builtin.List.listSubscript? (.ref sl) >>= _) _ _ s
  refine wpAny_bind ?_
  unfold Builtin.List.listSubscript?
  refine wpAny_bind (wpAny_specialOf hTs slice_no_index ?_)
  simp only [Option.isNone_none, if_true]
  refine wpAny_pure ?_
  show wpAny _ _ (typeOf (.ref sl) >>= _) _ _ s
  refine wpAny_bind (wpAny_typeOf hTs ?_)
  first
    | rw [if_neg (by decide)]
    | refine PySem.W.KFB.if_not (by decide) ?_
  rw [listSliceParts_eq]
  refine wpAny_bind (wpAny_bind (wpAny_field hos hds (x := .none) rfl (wpAny_bind (wpAny_listPart .none ?_))))
  rw [if_neg hstep]
  refine wpAny_bind (wpAny_field hos hds (x := vl) rfl (wpAny_bind (wpAny_listPart pl ?_)))
  refine wpAny_bind (wpAny_field hos hds (x := vu) rfl (wpAny_bind (wpAny_listPart pu (wpAny_pure ?_))))
  first
    | simp only [hsame, Bool.false_eq_true, if_false]
    | refine PySem.W.KFB.if_not hsame ?_
    | (dsimp only
       rw [if_neg (by rw [hsame]; exact Bool.false_ne_true)])
  refine wpAny_bind (m := Builtin.List.listAllItems (.ref b) "must assign iterable to extended slice") ?_
  unfold Builtin.List.listAllItems
  refine wpAny_bind (wpAny_typeOf hb.typeIs ?_)
  first
    | refine PySem.W.KFB.if_so (by decide) ?_
    | rw [if_pos (by decide)]
    | simp only [beq_self_eq_true, Bool.true_or, if_true]
  unfold Builtin.List.listItems
  refine wpAny_bind (wpAny_seqItems e2 rfl (wpAny_pure ?_))
  refine wpAny_bind (wpAny_bind (wpAny_seqItems e rfl (wpAny_pure ?_)))
  refine wpAny_bind (wpAny_of_eq ((sliceIndices_raw (some (a : Int)) (some (c : Int)) none items.size (by simp)).trans (congrArg (pure : Int × Int × Int → Sem (Int × Int × Int)) (bounds_run hac hc))) ?_)
  show wpAny _ _ (if ((1 : Int) == 1) = true then _ else _) _ _ s
  rw [if_pos (by decide)]
  refine wpAny_bind (wpAny_rule ?_)
  first
    | simp only [notLongL hsz, Bool.false_eq_true, if_false]
    | refine PySem.W.KFB.if_not (notLongL hsz) ?_
  first | refine wpAny_bind (wpAny_pure ?_) | skip
  show wpAny _ _ (updateSeq l (fun xs => xs.extract 0 ((a : Int)).toNat ++ new ++ xs.extract (max (a : Int) (c : Int)).toNat xs.size) >>= _) _ _ s
  rw [hmax, Int.toNat_natCast]
  refine wpAny_bind (wpAny_updateSeq (hz := Nat.le_trans (Nat.le_add_right _ _) hsz) (_hz' := hz') e rfl ?_)
  refine wpAny_bind (wpAny_letGo ?_)
  first
    | exact wpAny_bind (wpAny_pure (wpAny_pure ⟨.none, rfl, wpAny_pure h⟩))
    | exact wpAny_pure ⟨.none, rfl, wpAny_pure h⟩
end

section
variable {X : Cx}
/-- xs[a:c] = ys of another list, at the value level: sl is the slice object that was just made -/
theorem set_slice {pins : List (Addr × Obj)} {s : Shared} {σ : St} {H : Hp} {l b sl : Addr} {xs ys : List V} {a c : Int} {vl vu : Value} {Q : Unit → Shared → Prop} (I : Inv X pins σ H s)
    (hH : H l = some (.lst xs)) (hB : H b = some (.lst ys)) (hne : l ≠ b) (hs : s.heap.IsSliceOf sl vl vu .none) (ra : RelV (.int a) vl) (rc : RelV (.int c) vu) (h0 : 0 ≤ a) (hac : a ≤ c) (hc : c ≤ xs.length)
    (hz : xs.length + ys.length ≤ sizeLine) (h : ∀ s', Inv X pins σ (upd H l (.lst (xs.take a.toNat ++ ys ++ xs.drop c.toNat))) s' → Q () s') :
    wpAny (model X.prog X.w) X.A (setItem (.ref l) (.ref sl) (.ref b)) Q X.xe s := by
  obtain ⟨ta, rfl⟩ := ra
  obtain ⟨tc, rfl⟩ := rc
  obtain ⟨z, its, n, r, hl, e⟩ := I.lstM hH
  obtain ⟨z2, its2, n2, r2, hl2, e2⟩ := I.lstM hB
  obtain ⟨a', rfl⟩ := Int.eq_ofNat_of_zero_le h0
  obtain ⟨c', rfl⟩ := Int.eq_ofNat_of_zero_le (Int.le_trans h0 hac)
  simp only [Int.toNat_natCast] at h
  refine setItem_slice (a := a') (c := c') e e2 hne hs (.int _ _) (.int _ _) (by omega) (by rw [List.size_toArray]; omega) (by rw [List.size_toArray, List.size_toArray]; omega) (h _ ?_)
  refine I.lset (its' := its.take a' ++ its2 ++ its.drop c') (t' := s.toks) hH e ?_ (Vals.append (Vals.append (r.take _) r2) (r.drop _)) ?_
  · exact splice_eq its its2 a' c'
  · rw [List.length_append, List.length_append, List.length_take, List.length_drop]
    omega
end
end L2

namespace L2
open PySem PySem.Spec PyProof.Rows

/-! ### lists of pairs as tables -/
section
variable {κ : Type} [DecidableEq κ]
def valV (kvs : List (κ × V)) (k : κ) : Option V := (kvs.find? fun kv => decide (kv.1 = k)).map (·.2)
/-- in its place, or at the end -/
def putK (kvs : List (κ × V)) (k : κ) (v : V) : List (κ × V) :=
  if (kvs.any fun kv => decide (kv.1 = k)) = true then kvs.map (fun kv => if kv.1 = k then (kv.1, v) else kv) else kvs ++ [(k, v)]
def dropK (kvs : List (κ × V)) (k : κ) : List (κ × V) := kvs.filter fun kv => decide (kv.1 ≠ k)

theorem valV_nil {k : κ} : valV ([] : List (κ × V)) k = none := rfl
theorem valV_pos {p : κ × V} {r : List (κ × V)} {k : κ} (e : p.1 = k) : valV (p :: r) k = some p.2 := by simp [valV, List.find?_cons, e]
theorem valV_neg {p : κ × V} {r : List (κ × V)} {k : κ} (e : ¬ p.1 = k) : valV (p :: r) k = valV r k := by simp [valV, List.find?_cons, e]
theorem valV_any (k : κ) : ∀ kvs : List (κ × V), (kvs.any fun kv => decide (kv.1 = k)) = (valV kvs k).isSome
  | [] => rfl
  | p :: r => by
    rw [List.any_cons]
    by_cases e : p.1 = k
    · simp only [valV_pos e, decide_eq_true e, Bool.true_or, Option.isSome_some]
    · rw [valV_neg e, decide_eq_false e, Bool.false_or]; exact valV_any k r
theorem valV_map (k j : κ) (y : V) : ∀ kvs : List (κ × V), valV (kvs.map fun kv => if kv.1 = k then (kv.1, y) else kv) j = (valV kvs j).map fun x => if j = k then y else x
  | [] => rfl
  | p :: r => by
    have ih := valV_map k j y r
    rw [List.map_cons]
    by_cases h : p.1 = k
    · rw [if_pos h]
      by_cases e : p.1 = j
      · rw [valV_pos (p := (p.1, y)) e, valV_pos e, Option.map_some, if_pos (e.symm.trans h)]
      · rw [valV_neg (p := (p.1, y)) e, valV_neg e, ih]
    · rw [if_neg h]
      by_cases e : p.1 = j
      · rw [valV_pos (p := p) e, valV_pos e, Option.map_some, if_neg (fun z => h (e.trans z))]
      · rw [valV_neg (p := p) e, valV_neg e, ih]
theorem valV_snoc (k j : κ) (y : V) : ∀ kvs : List (κ × V), valV kvs k = none → valV (kvs ++ [(k, y)]) j = if j = k then some y else valV kvs j
  | [], _ => by
    by_cases e : k = j
    · rw [if_pos e.symm]; exact valV_pos (p := (k, y)) e
    · rw [if_neg (fun z => e z.symm)]; exact valV_neg (p := (k, y)) e
  | p :: r, hn => by
    rw [List.cons_append]
    have hk : ¬ p.1 = k := fun z => by rw [valV_pos z] at hn; cases hn
    rw [valV_neg hk] at hn
    have ih := valV_snoc k j y r hn
    by_cases e : p.1 = j
    · rw [valV_pos e, valV_pos e, if_neg (fun z => hk (e.trans z))]
    · rw [valV_neg e, valV_neg e, ih]
theorem valV_put (kvs : List (κ × V)) (k j : κ) (y : V) : valV (putK kvs k y) j = if j = k then some y else valV kvs j := by
  unfold putK
  by_cases a : (kvs.any fun kv => decide (kv.1 = k)) = true
  · rw [if_pos a, valV_map]
    rw [valV_any] at a
    by_cases e : j = k
    · obtain ⟨x, hx⟩ := Option.isSome_iff_exists.mp a
      rw [if_pos e, e, hx, Option.map_some, if_pos rfl]
    · rw [if_neg e]
      cases valV kvs j with
      | none => rfl
      | some x => rw [Option.map_some, if_neg e]
  · rw [if_neg a]
    refine valV_snoc k j y kvs ?_
    rw [valV_any] at a
    cases q : valV kvs k with
    | none => rfl
    | some x => rw [q] at a; exact (a rfl).elim
theorem length_putK (kvs : List (κ × V)) (k : κ) (v : V) : (putK kvs k v).length ≤ kvs.length + 1 := by
  unfold putK
  split
  · rw [List.length_map]; omega
  · rw [List.length_append, List.length_cons, List.length_nil]; omega
theorem putK_new {kvs : List (κ × V)} {k : κ} (v : V) (h : valV kvs k = none) : putK kvs k v = kvs ++ [(k, v)] := by
  unfold putK
  rw [valV_any, h]
  exact if_neg (by decide)

theorem RelO.isSome_eq {o : Option V} {u : Option Value} (r : RelO o u) : o.isSome = u.isSome := by
  cases o with
  | none => cases u with
    | none => rfl
    | some _ => exact (show False from r).elim
  | some _ => cases u with
    | none => exact (show False from r).elim
    | some _ => rfl
theorem RelO.getD {o : Option V} {u : Option Value} {d : V} {d' : Value} (r : RelO o u) (rd : RelV d d') : RelV (o.getD d) (u.getD d') := by
  cases o with
  | none => cases u with
    | none => exact rd
    | some _ => exact (show False from r).elim
  | some _ => cases u with
    | none => exact (show False from r).elim
    | some _ => exact r

/-- raw tables of the same keys -/
theorem KV.val {kvs : List (κ × V)} {vs : List (κ × Value)} (r : KV kvs vs) (k : κ) : RelO (valV kvs k) (valueAt vs k) := by
  unfold KV at r
  induction r with
  | nil => exact True.intro
  | @cons p q ps qs h t ih =>
    obtain ⟨h1, h2⟩ := h
    by_cases e : p.1 = k
    · have e' : q.1 = k := h1.symm.trans e
      have b : valueAt (q :: qs) k = some q.2 := by simp [valueAt, List.find?_cons, e']
      rw [valV_pos e, b]; exact h2
    · have e' : ¬ q.1 = k := fun z => e (h1.trans z)
      have b : valueAt (q :: qs) k = valueAt qs k := by simp [valueAt, List.find?_cons, e']
      rw [valV_neg e, b]; exact ih
theorem KV.any {kvs : List (κ × V)} {vs : List (κ × Value)} (r : KV kvs vs) (k : κ) : (kvs.any fun kv => decide (kv.1 = k)) = vs.any fun kv => decide (kv.1 = k) := by
  unfold KV at r
  induction r with
  | nil => rfl
  | cons h t ih => rw [List.any_cons, List.any_cons, ih, h.1]
theorem KV.repl {kvs : List (κ × V)} {vs : List (κ × Value)} (r : KV kvs vs) (k : κ) {y : V} {u : Value} (ry : RelV y u) :
    KV (kvs.map fun kv => if kv.1 = k then (kv.1, y) else kv) (vs.map fun kv => if kv.1 = k then (kv.1, u) else kv) := by
  unfold KV at r ⊢
  induction r with
  | nil => exact .nil
  | @cons p q ps qs h t ih =>
    rw [List.map_cons, List.map_cons]
    refine .cons ?_ ih
    obtain ⟨h1, h2⟩ := h
    by_cases e : p.1 = k
    · rw [if_pos e, if_pos (h1.symm.trans e)]; exact ⟨h1, ry⟩
    · rw [if_neg e, if_neg (fun z => e (h1.trans z))]; exact ⟨h1, h2⟩
theorem KV.put {kvs : List (κ × V)} {vs : List (κ × Value)} (r : KV kvs vs) (k : κ) {y : V} {u : Value} (ry : RelV y u) : KV (putK kvs k y) (stored vs k u) := by
  unfold putK stored
  rw [r.any k]
  by_cases e : (vs.any fun kv => decide (kv.1 = k)) = true
  · rw [if_pos e, if_pos e]; exact r.repl k ry
  · rw [if_neg e, if_neg e]; exact Paired.snoc r ⟨rfl, ry⟩
theorem KV.drop {kvs : List (κ × V)} {vs : List (κ × Value)} (r : KV kvs vs) (k : κ) : KV (dropK kvs k) (without vs k) := by
  unfold KV at r ⊢
  unfold dropK without
  induction r with
  | nil => exact .nil
  | @cons p q ps qs h t ih =>
    obtain ⟨h1, h2⟩ := h
    rw [List.filter_cons, List.filter_cons]
    by_cases e : p.1 = k
    · have a : ¬ decide (p.1 ≠ k) = true := by simp [e]
      have b : ¬ decide (q.1 ≠ k) = true := by simp [h1.symm.trans e]
      rw [if_neg a, if_neg b]; exact ih
    · have e' : ¬ q.1 = k := fun z => e (h1.trans z)
      have a : decide (p.1 ≠ k) = true := by simp [e]
      have b : decide (q.1 ≠ k) = true := by simp [e']
      rw [if_pos a, if_pos b]; exact .cons ⟨h1, h2⟩ ih
theorem KV.keys {kvs : List (κ × V)} {vs : List (κ × Value)} (r : KV kvs vs) : kvs.map (·.1) = vs.map (·.1) := by
  unfold KV at r
  induction r with
  | nil => rfl
  | cons h t ih => rw [List.map_cons, List.map_cons, ih, h.1]
theorem KV.length {kvs : List (κ × V)} {vs : List (κ × Value)} (r : KV kvs vs) : kvs.length = vs.length := Paired.length r
theorem dropK_le (kvs : List (κ × V)) (k : κ) : (dropK kvs k).length ≤ kvs.length := List.length_filter_le _ _
end


/-! ### a tracked dict, its keys ints and texts or tuples of these -/
theorem kV_is {P : Program} {w : World} {k : Key} {u : Value} (r : RelV (kV k) u) : (mixKind P w).is k u = true := by
  cases k with
  | inl i => obtain ⟨t, e⟩ := (show ∃ t, u = Value.int i t from r); subst e; exact mixKind_int P w i t
  | inr x => obtain ⟨t, e⟩ := (show ∃ t, u = Value.str x t from r); subst e; exact mixKind_str P w x t
theorem kV_inj {a b : Key} (e : kV a = kV b) : a = b := by
  cases a with
  | inl i => cases b with
    | inl j => have e' : V.int i = V.int j := e; injection e' with e'; rw [e']
    | inr y => exact nomatch (show V.int i = V.str y from e)
  | inr x => cases b with
    | inl j => exact nomatch (show V.str x = V.int j from e)
    | inr y => have e' : V.str x = V.str y := e; injection e' with e'; rw [e']
theorem kVs_inj : ∀ {a b : List Key}, a.map kV = b.map kV → a = b
  | [], [], _ => rfl
  | [], _ :: _, e => by simp at e
  | _ :: _, [], e => by simp at e
  | x :: xs, y :: ys, e => by
    rw [List.map_cons, List.map_cons] at e
    injection e with e1 e2
    rw [kV_inj e1, kVs_inj e2]
theorem items_are {P : Program} {w : World} : ∀ {ks : List Key} {us : List Value}, Vals (ks.map kV) us → ItemsAre (mixKind P w) ks us
  | [], _, r => by rw [List.map_nil] at r; cases r; exact .nil
  | k :: ks, _, r => by
    rw [List.map_cons] at r
    cases r with
    | cons h t => exact .cons (kV_is h) (items_are t)

/-- raw entries of a dict with tuple keys -/
abbrev KT (H : Hp) : List (List Key × V) → List (List Key × Addr × Value) → Prop := Paired fun p q => p.1 = q.1 ∧ H q.2.1 = some (.tup (p.1.map kV)) ∧ RelV p.2 q.2.2
theorem KT.val {H : Hp} {kvs : List (List Key × V)} {xs : List (List Key × Addr × Value)} (r : KT H kvs xs) (k : List Key) : RelO (valV kvs k) ((atKey xs k).map (·.2)) := by
  induction r with
  | nil => exact True.intro
  | @cons p q ps qs h t ih =>
    obtain ⟨h1, _, h2⟩ := h
    by_cases e : p.1 = k
    · have e' : q.1 = k := h1.symm.trans e
      have b : atKey (q :: qs) k = some q.2 := by simp [atKey, List.find?_cons, e']
      rw [valV_pos e, b]; exact h2
    · have e' : ¬ q.1 = k := fun z => e (h1.trans z)
      have b : atKey (q :: qs) k = atKey qs k := by simp [atKey, List.find?_cons, e']
      rw [valV_neg e, b]; exact ih
theorem KT.repl {H : Hp} {kvs : List (List Key × V)} {xs : List (List Key × Addr × Value)} (r : KT H kvs xs) (k : List Key) {y : V} {u : Value} (ry : RelV y u) :
    KT H (kvs.map fun kv => if kv.1 = k then (kv.1, y) else kv) (xs.map (putAt k u)) := by
  induction r with
  | nil => exact .nil
  | @cons p q ps qs h t ih =>
    rw [List.map_cons, List.map_cons]
    refine .cons ?_ ih
    obtain ⟨h1, h2, h3⟩ := h
    unfold putAt
    by_cases e : p.1 = k
    · rw [if_pos e, if_pos (h1.symm.trans e)]; exact ⟨h1, h2, ry⟩
    · rw [if_neg e, if_neg (fun z => e (h1.trans z))]; exact ⟨h1, h2, h3⟩
theorem KT.put {H : Hp} {kvs : List (List Key × V)} {xs : List (List Key × Addr × Value)} (r : KT H kvs xs) (k : List Key) {b : Addr} {y : V} {u : Value} (hb : H b = some (.tup (k.map kV))) (ry : RelV y u) :
    KT H (putK kvs k y) (storedH xs k b u) := by
  have e : (kvs.any fun kv => decide (kv.1 = k)) = (atKey xs k).isSome := by
    rw [valV_any, (r.val k).isSome_eq, Option.isSome_map]
  unfold putK storedH
  rw [e]
  by_cases q : (atKey xs k).isSome = true
  · rw [if_pos q, if_pos q]; exact r.repl k ry
  · rw [if_neg q, if_neg q]; exact Paired.snoc r ⟨rfl, hb, ry⟩
theorem KT.keeps {H H' : Hp} {kvs : List (List Key × V)} {xs : List (List Key × Addr × Value)} (r : KT H kvs xs) (ht : ∀ b ys, H b = some (.tup ys) → H' b = some (.tup ys)) : KT H' kvs xs :=
  Paired.mapP r fun _ _ z => ⟨z.1, ht _ _ z.2.1, z.2.2⟩

section
variable {P : Program} {w : World} {H : Hp} {h : Heap} {a : Addr}
theorem rd_of {u : HO} (ok : HOk P w H h) (e : Rd H a u) : ObjOk P w H h a u := e.ok ok
theorem dk_rd {kvs : List (Key × V)} (ok : HOk P w H h) (e : Rd H a (.dK kvs)) : kvs.length ≤ sizeLine ∧ (a == sysModules) = false ∧ ∃ vs, KV kvs vs ∧ h.DictOf (mixKind P w) a vs :=
  show ObjOk P w H h a (.dK kvs) from rd_of ok e
theorem dk_of {kvs : List (Key × V)} (ok : HOk P w H h) (e : H a = some (.dK kvs)) : kvs.length ≤ sizeLine ∧ (a == sysModules) = false ∧ ∃ vs, KV kvs vs ∧ h.DictOf (mixKind P w) a vs := dk_rd ok (.inl e)
/-- a tracked tuple of ints and texts is a key -/
theorem key_of {ks : List Key} (ok : HOk P w H h) (e : H a = some (.tup (ks.map kV))) : (tupleKind (mixKind P w)).is h ks a := by
  obtain ⟨_, its, r, o, h1, h2, n, h3⟩ := (show ObjOk P w H h a (.tup (ks.map kV)) from ok a _ e)
  exact ⟨o, its.toArray, n, h1, h2, h3, by simpa using items_are r⟩
theorem dt_rd {kvs : List (List Key × V)} (ok : HOk P w H h) (e : Rd H a (.dT kvs)) : kvs.length ≤ sizeLine ∧ (a == sysModules) = false ∧
    ∃ xs, KT H kvs xs ∧ h.DictOfH (tupleKind (mixKind P w)) a xs := by
  obtain ⟨z, y, xs, r, o, es, ep, h1, h2, h3, h4, h5⟩ := (show ObjOk P w H h a (.dT kvs) from rd_of ok e)
  refine ⟨z, y, xs, r, o, es, ep, h1, h2, h3, h4, fun x hx => ?_, h5⟩
  have all : ∀ {l : List (List Key × V)} {m : List (List Key × Addr × Value)}, KT H l m → ∀ x ∈ m, (tupleKind (mixKind P w)).is h x.1 x.2.1 := by
    intro l m q
    induction q with
    | nil => intro x hx; exact nomatch hx
    | @cons p q ps qs hq t ih =>
      intro x hx
      rcases List.mem_cons.mp hx with e | hx
      · subst e
        exact key_of ok (by rw [← hq.1]; exact hq.2.1)
      · exact ih x hx
  exact all r x hx
theorem dt_of {kvs : List (List Key × V)} (ok : HOk P w H h) (e : H a = some (.dT kvs)) : kvs.length ≤ sizeLine ∧ (a == sysModules) = false ∧
    ∃ xs, KT H kvs xs ∧ h.DictOfH (tupleKind (mixKind P w)) a xs := dt_rd ok (.inl e)
end

/-- what the dict at a holds at the key y -/
def DGet (H : Hp) (a : Addr) (y : V) (r : Option V) : Prop :=
  (∃ kvs k, Rd H a (.dK kvs) ∧ y = kV k ∧ r = valV kvs k) ∨ ∃ kvs k b, Rd H a (.dT kvs) ∧ y = .ref b ∧ H b = some (.tup (k.map kV)) ∧ r = valV kvs k
/-- the heap behind a[y] = v -/
def DPut (H : Hp) (a : Addr) (y v : V) (H' : Hp) : Prop :=
  (∃ kvs k, H a = some (.dK kvs) ∧ y = kV k ∧ kvs.length < sizeLine ∧ H' = upd H a (.dK (putK kvs k v))) ∨
  ∃ kvs k b, H a = some (.dT kvs) ∧ y = .ref b ∧ H b = some (.tup (k.map kV)) ∧ kvs.length < sizeLine ∧ H' = upd H a (.dT (putK kvs k v))
theorem DGet.k {H : Hp} {a : Addr} {kvs : List (Key × V)} {k : Key} (e : H a = some (.dK kvs)) : DGet H a (kV k) (valV kvs k) := .inl ⟨kvs, k, .inl e, rfl, rfl⟩
theorem DGet.t {H : Hp} {a b : Addr} {kvs : List (List Key × V)} {k : List Key} (e : H a = some (.dT kvs)) (eb : H b = some (.tup (k.map kV))) : DGet H a (.ref b) (valV kvs k) := .inr ⟨kvs, k, b, .inl e, rfl, eb, rfl⟩
theorem DPut.k {H : Hp} {a : Addr} {kvs : List (Key × V)} {k : Key} {v : V} (e : H a = some (.dK kvs)) (hl : kvs.length < sizeLine) : DPut H a (kV k) v (upd H a (.dK (putK kvs k v))) := .inl ⟨kvs, k, e, rfl, hl, rfl⟩
theorem DPut.t {H : Hp} {a b : Addr} {kvs : List (List Key × V)} {k : List Key} {v : V} (e : H a = some (.dT kvs)) (eb : H b = some (.tup (k.map kV))) (hl : kvs.length < sizeLine) :
    DPut H a (.ref b) v (upd H a (.dT (putK kvs k v))) := .inr ⟨kvs, k, b, e, rfl, eb, hl, rfl⟩


section
variable {X : Cx} {pins : List (Addr × Obj)} {σ : St} {H : Hp} {s : Shared} {a : Addr} {y v : V} {u r : Value} {o : Option V} {A : Around} {E : Value → Shared → Prop}

theorem Inv.big (I : Inv X pins σ H s) : sysModules < s.heap.objs.size := by
  have h : mainGlobals < s.heap.objs.size := (I.mod.glob.keeps I.bk).lt
  exact Nat.lt_trans (by decide) h

/-- d[y], there -/
theorem d_getItem {Q : Value → Shared → Prop} (hu : A.units + 1 < cLine) (I : Inv X pins σ H s) (g : DGet H a y (some v)) (ry : RelV y u) (h : ∀ w' s', Inv X pins σ H s' → RelV v w' → Q w' s') :
    wpAny (model X.prog X.w) A (getItem (.ref a) u) Q E s := by
  rcases g with ⟨kvs, k, e, ey, l⟩ | ⟨kvs, k, b, e, ey, eb, l⟩
  · subst ey
    obtain ⟨z, hd, vs, rel, dd⟩ := dk_rd I.hok e
    obtain ⟨w', hw, rw'⟩ := RelO.some_of (v := v) (o := valueAt vs k) (by rw [l]; exact rel.val k)
    exact wpAny_getItem_of (kV_is ry) dd.mapOf hw (h w' _ (I.tok _) rw')
  · subst ey
    cases (show u = Value.ref b from ry)
    obtain ⟨z, hd, xs, rel, dd⟩ := dt_rd I.hok e
    obtain ⟨w', hw, rw'⟩ := RelO.some_of (v := v) (o := (atKey xs k).map (·.2)) (by rw [l]; exact rel.val k)
    obtain ⟨p, hp, hp2⟩ := Option.map_eq_some_iff.mp hw
    refine wpAny_getItem_heap (tupleKind_room_in1 hu) (key_of I.hok eb) dd hp ?_
    rw [hp2]
    exact h w' _ (I.tok _) rw'
/-- y in d -/
theorem d_in {Q : Value → Shared → Prop} (hu : A.units + 1 < cLine) (I : Inv X pins σ H s) (g : DGet H a y o) (ry : RelV y u) (h : ∀ s', Inv X pins σ H s' → Q (.bool o.isSome) s') :
    wpAny (model X.prog X.w) A (compareOp .In u (.ref a)) Q E s := by
  rcases g with ⟨kvs, k, e, ey, l⟩ | ⟨kvs, k, b, e, ey, eb, l⟩
  · subst ey
    obtain ⟨z, hd, vs, rel, dd⟩ := dk_rd I.hok e
    refine wpAny_in_of (kV_is ry) hd dd.mapOf ?_
    rw [← (rel.val k).isSome_eq, ← l]
    exact h _ (I.tok _)
  · subst ey
    cases (show u = Value.ref b from ry)
    obtain ⟨z, hd, xs, rel, dd⟩ := dt_rd I.hok e
    refine wpAny_in_heap (tupleKind_room_in1 hu) (key_of I.hok eb) hd dd ?_
    have q := (rel.val k).isSome_eq
    rw [Option.isSome_map] at q
    rw [← q, ← l]
    exact h _ (I.tok _)
theorem d_notIn {Q : Value → Shared → Prop} (hu : A.units + 1 < cLine) (I : Inv X pins σ H s) (g : DGet H a y o) (ry : RelV y u) (h : ∀ s', Inv X pins σ H s' → Q (.bool (!o.isSome)) s') :
    wpAny (model X.prog X.w) A (compareOp .NotIn u (.ref a)) Q E s := by
  rcases g with ⟨kvs, k, e, ey, l⟩ | ⟨kvs, k, b, e, ey, eb, l⟩
  · subst ey
    obtain ⟨z, hd, vs, rel, dd⟩ := dk_rd I.hok e
    refine wpAny_notIn_of (kV_is ry) hd dd.mapOf ?_
    rw [← (rel.val k).isSome_eq, ← l]
    exact h _ (I.tok _)
  · subst ey
    cases (show u = Value.ref b from ry)
    obtain ⟨z, hd, xs, rel, dd⟩ := dt_rd I.hok e
    refine wpAny_notIn_heap (tupleKind_room_in1 hu) (key_of I.hok eb) hd dd ?_
    have q := (rel.val k).isSome_eq
    rw [Option.isSome_map] at q
    rw [← q, ← l]
    exact h _ (I.tok _)
/-- a dict's object is replaced -/
theorem d_write {h' : Heap} {t' : Nat} {ob : HO} (I : Inv X pins σ H s) (mu : Mut (H a)) (hs : Heap.SameBut a s.heap h') (he : ∃ q, h'.get? a = some q) (new : ObjOk X.prog X.w (upd H a ob) h' a ob) :
    Inv X pins σ (upd H a ob) { s with heap := h', toks := t' } :=
  I.write (x := a) (e := a) mu (.inl rfl) (fun b q hb z => (hs.2 b hb).trans z) he new
theorem dk_new {P : Program} {w : World} {H' : Hp} {h' : Heap} {kvs : List (Key × V)} {vs : List (Key × Value)} (z : kvs.length ≤ sizeLine) (hd : (a == sysModules) = false) (rel : KV kvs vs) (dd : h'.DictOf (mixKind P w) a vs) :
    ObjOk P w H' h' a (.dK kvs) := ⟨z, hd, vs, rel, dd⟩
/-- d[y] = v -/
theorem d_setItem {H' : Hp} {Q : Unit → Shared → Prop} (hu : A.units + 1 < cLine) (I : Inv X pins σ H s) (g : DPut H a y v H') (ry : RelV y u) (rv : RelV v r) (h : ∀ s', Inv X pins σ H' s' → Q () s') :
    wpAny (model X.prog X.w) A (setItem (.ref a) u r) Q E s := by
  rcases g with ⟨kvs, k, e, ey, l, eH⟩ | ⟨kvs, k, b, e, ey, eb, l, eH⟩
  · subst ey eH
    obtain ⟨z, hd, vs, rel, dd⟩ := dk_of I.hok e
    have hz : vs.length ≤ sizeLine := by rw [← rel.length]; exact z
    have hl : (putK kvs k v).length ≤ sizeLine := by have := length_putK kvs k v; omega
    refine wpAny_setItem_pairs (hsz := hz) (kV_is ry) dd fun h' dd' hs => h _ ?_
    have he : ∃ q, h'.get? a = some q := let ⟨q, _, _, hq, _⟩ := dd'; ⟨q, hq⟩
    exact d_write I (by rw [e]; exact True.intro) hs he (dk_new hl hd (rel.put k rv) dd')
  · subst ey eH
    cases (show u = Value.ref b from ry)
    obtain ⟨z, hd, xs, rel, dd⟩ := dt_of I.hok e
    have hz : xs.length ≤ sizeLine := by rw [← Paired.length rel]; exact z
    have hl : (putK kvs k v).length ≤ sizeLine := by have := length_putK kvs k v; omega
    refine wpAny_setItem_heap (hsz := hz) (tupleKind_room_in1 hu) (key_of I.hok eb) dd fun h' dd' hs => h _ ?_
    obtain ⟨q, es, ep, hq, h2, h3, h4, _, h5⟩ := dd'
    refine d_write I (by rw [e]; exact True.intro) hs ⟨q, hq⟩ ⟨hl, hd, _, (rel.put k eb rv).keeps fun c ys ec => ?_, q, es, ep, hq, h2, h3, h4, h5⟩
    rw [upd_ne (ne_of ec e (fun z => nomatch z))]
    exact ec
end

section
variable {X : Cx} {pins : List (Addr × Obj)} {σ : St} {H : Hp} {s : Shared} {a : Addr} {kvs : List (Key × V)} {k : Key} {u : Value} {A : Around} {E : Value → Shared → Prop}
/-- del d[k] -/
theorem d_delItem {Q : Unit → Shared → Prop} (I : Inv X pins σ H s) (e : H a = some (.dK kvs)) (ry : RelV (kV k) u) (l : (valV kvs k).isSome = true) (h : ∀ s', Inv X pins σ (upd H a (.dK (dropK kvs k))) s' → Q () s') :
    wpAny (model X.prog X.w) A (delItem (.ref a) u) Q E s := by
  obtain ⟨z, hd, vs, rel, dd⟩ := dk_of I.hok e
  refine wpAny_delItem_slot dd.typeIs (by decide) PySem.F.slot_dict_delitem
    (call_meetsIn PySem.F.slot_dict_delitem dd.typeIs PySem.F.entry_dict_delitem (PySem.F.args_dict_delitem_2 _ _) (meets_dict_delitem_pairs (mixKind X.prog X.w) a (kV_is ry)) ⟨vs, dd, by rw [← rel.length]; exact z, by rw [← (rel.val k).isSome_eq]; exact l, fun h' dd' hs => h _ ?_⟩)
  have he : ∃ q, h'.get? a = some q := let ⟨q, _, _, hq, _⟩ := dd'; ⟨q, hq⟩
  exact d_write I (by rw [e]; exact True.intro) hs he (dk_new (Nat.le_trans (dropK_le kvs k) z) hd (rel.drop k) dd')
/-- d.pop(k[, x]), there -/
theorem d_pop {v : V} {more : List Value} {Q : Value → Shared → Prop} (I : Inv X pins σ H s) (e : H a = some (.dK kvs)) (ry : RelV (kV k) u) (l : valV kvs k = some v) (hm : more = [] ∨ ∃ x, more = [x])
    (h : ∀ w' s', Inv X pins σ (upd H a (.dK (dropK kvs k))) s' → RelV v w' → Q w' s') : wpAny (model X.prog X.w) A (call (.builtin "dict.pop") (.ref a :: u :: more)) Q E s := by
  obtain ⟨z, hd, vs, rel, dd⟩ := dk_of I.hok e
  obtain ⟨w', hw, rw'⟩ := RelO.some_of (v := v) (o := valueAt vs k) (by rw [← l]; exact rel.val k)
  have hp : (keyPart u).isSome = true := by
    cases k with
    | inl i => obtain ⟨t, q⟩ := (show ∃ t, u = Value.int i t from ry); subst q; rfl
    | inr x => obtain ⟨t, q⟩ := (show ∃ t, u = Value.str x t from ry); subst q; rfl
  have ha : argsOk "dict.pop" ⟨.ref a :: u :: more, []⟩ := by
    rcases hm with q | ⟨x, q⟩
    · subst q; exact PySem.F.args_dict_pop_2 _ _
    · subst q; exact PySem.F.args_dict_pop_3 _ _ _
  refine call_meetsIn PySem.F.slot_dict_pop dd.typeIs PySem.F.entry_dict_pop ha (meets_dict_pop_there (mixKind X.prog X.w) a (kV_is ry) more hm hp)
    ⟨vs, w', dd, by rw [← rel.length]; exact z, hw, fun h' dd' hs => h w' _ ?_ rw'⟩
  have he : ∃ q, h'.get? a = some q := let ⟨q, _, _, hq, _⟩ := dd'; ⟨q, hq⟩
  exact d_write I (by rw [e]; exact True.intro) hs he (dk_new (Nat.le_trans (dropK_le kvs k) z) hd (rel.drop k) dd')
/-- d.pop(k, x), not there -/
theorem d_popD {r : Value} {Q : Value → Shared → Prop} (I : Inv X pins σ H s) (e : H a = some (.dK kvs)) (ry : RelV (kV k) u) (l : valV kvs k = none) (h : ∀ s', Inv X pins σ H s' → Q r s') :
    wpAny (model X.prog X.w) A (call (.builtin "dict.pop") [.ref a, u, r]) Q E s := by
  obtain ⟨z, hd, vs, rel, dd⟩ := dk_of I.hok e
  have hn : valueAt vs k = none := RelO.none_of (by rw [← l]; exact rel.val k)
  have hp : (keyPart u).isSome = true := by
    cases k with
    | inl i => obtain ⟨t, q⟩ := (show ∃ t, u = Value.int i t from ry); subst q; rfl
    | inr x => obtain ⟨t, q⟩ := (show ∃ t, u = Value.str x t from ry); subst q; rfl
  exact call_meetsIn PySem.F.slot_dict_pop dd.typeIs PySem.F.entry_dict_pop (PySem.F.args_dict_pop_3 _ _ _) (meets_dict_pop_default (mixKind X.prog X.w) a (kV_is ry) hd hp r) ⟨vs, dd, hn, h _ (I.tok _)⟩
/-- d.clear() -/
theorem d_clear {Q : Value → Shared → Prop} (I : Inv X pins σ H s) (e : H a = some (.dK kvs)) (h : ∀ s', Inv X pins σ (upd H a (.dK [])) s' → Q .none s') : wpAny (model X.prog X.w) A (call (.builtin "dict.clear") [.ref a]) Q E s := by
  obtain ⟨z, hd, vs, rel, dd⟩ := dk_of I.hok e
  refine call_meetsIn PySem.F.slot_dict_clear dd.typeIs PySem.F.entry_dict_clear (PySem.F.args_dict_clear_1 _) (meets_dict_clear (mixKind X.prog X.w) a) ⟨vs, dd, by rw [← rel.length]; exact z, fun h' dd' hs => h _ ?_⟩
  have he : ∃ q, h'.get? a = some q := let ⟨q, _, _, hq, _⟩ := dd'; ⟨q, hq⟩
  exact d_write (t' := s.toks) I (by rw [e]; exact True.intro) hs he (dk_new (Nat.zero_le _) hd .nil dd')
/-- len(d) -/
theorem d_len {Q : Value → Shared → Prop} (I : Inv X pins σ H s) (e : Rd H a (.dK kvs)) (h : ∀ t s', Inv X pins σ H s' → Q (.int kvs.length t) s') : wpAny (model X.prog X.w) A (call (.builtin "len") [.ref a]) Q E s := by
  obtain ⟨z, hd, vs, rel, dd⟩ := dk_rd I.hok e
  refine call_len_dict hd dd (by rw [← rel.length]; rw [sizeLine_eq] at z; omega) ?_
  rw [← rel.length]
  exact h _ _ (I.tok _)
/-- if d -/
theorem d_truth {Q : Bool → Shared → Prop} (I : Inv X pins σ H s) (e : Rd H a (.dK kvs)) (h : ∀ s', Inv X pins σ H s' → Q (!kvs.isEmpty) s') : wpAny (model X.prog X.w) A (truthy (.ref a)) Q E s := by
  obtain ⟨z, hd, vs, rel, dd⟩ := dk_rd I.hok e
  refine wpAny_truthy_dict hd dd (by rw [← rel.length]; rw [sizeLine_eq] at z; omega) ?_
  have q : kvs.isEmpty = vs.isEmpty := by cases rel <;> rfl
  rw [← q]
  exact h _ (I.tok _)
end


/-! ### readings and rules -/
/-- the element of a subscription, not a slice -/
def NoSl (i : Expr) : Prop := ∀ ov iv, subscripted i false ov iv = operate [ov, iv] (getItem ov iv)
theorem subD_of {prog : Program} {w : World} {A : Around} {E : Value → Shared → Prop} {s : Shared} {env : Env} {value slice : Expr} {pos : Pos} {T id : String} {Q : Value → Shared → Prop}
    (hl : typeLookup (.type T) "__getitem__" = pure (some (.builtin id))) (hs : NoSl slice)
    (h : wpAny (model prog w) A (eval value env) (fun o s₁ => wpAny (model prog w) A (eval slice env) (fun i s₂ => s₂.TypeIs o T ∧ wpAny (model prog w) A (getItem o i) Q E s₂) E s₁) E s) :
    wpAny (model prog w) A (eval (.Subscript value slice pos) env) Q E s := by
  refine Subscript_ (wpAny_mono h (fun o s₁ h₁ => wpAny_mono h₁ (fun i s₂ h₂ => ?_) fun _ _ x => x) fun _ _ x => x)
  obtain ⟨hT, h₂⟩ := h₂
  unfold subscriptTail
  refine wpAny_bind ?_
  rw [getitemInPython_of_ne hT.not_modules]
  refine wpAny_bind (wpAny_specialOf hT hl ?_)
  have fin : wpAny (model prog w) A (subscripted slice false o i) (fun r s₃ => wpAny (model prog w) A (letTemporaryGo value o r >>= fun _ => pure r) Q E s₃) E s₂ := by
    rw [hs o i]
    exact wpAny_operating (wpAny_mono h₂ (fun r s₃ h₃ => wpAny_bind (wpAny_letTemporaryGo (wpAny_pure h₃))) fun _ _ x => x)
  first
    | exact wpAny_pure (wpAny_bind fin)
    | exact wpAny_bind (wpAny_pure (wpAny_bind fin))
    | exact wpAny_bind fin

theorem dict_typeIs {X : Cx} {pins : List (Addr × Obj)} {σ : St} {H : Hp} {s : Shared} {a : Addr} {y : V} {o : Option V} (I : Inv X pins σ H s) (g : DGet H a y o) : s.TypeIs (.ref a) "dict" := by
  rcases g with ⟨kvs, k, e, _, _⟩ | ⟨kvs, k, b, e, _, _, _⟩
  · obtain ⟨_, _, vs, _, dd⟩ := dk_rd I.hok e
    exact dd.typeIs
  · obtain ⟨_, _, xs, _, dd⟩ := dt_rd I.hok e
    exact dd.typeIs
theorem dict_noDict {X : Cx} {pins : List (Addr × Obj)} {σ : St} {H : Hp} {s : Shared} {a : Addr} {y : V} {o : Option V} (I : Inv X pins σ H s) (g : DGet H a y o) :
    ∀ b, Value.ref a = .ref b → ∃ ob, s.heap.get? b = some ob ∧ ob.dict = none := fun b q => by
  cases q
  rcases g with ⟨kvs, k, e, _, _⟩ | ⟨kvs, k, b, e, _, _, _⟩
  · obtain ⟨_, _, vs, _, ob, _, _, h1, h2, _⟩ := dk_rd I.hok e
    exact ⟨ob, h1, h2.2.1⟩
  · obtain ⟨_, _, xs, _, ob, _, _, h1, h2, _⟩ := dt_rd I.hok e
    exact ⟨ob, h1, h2.2.1⟩

/-- d[y] -/
def tDGet (td ty : TE) : TE := fun σ H Q => td σ H fun x H1 => ty σ H1 fun y H2 => ∃ a v, x = .ref a ∧ DGet H2 a y (some v) ∧ Q v H2
/-- y in d, y not in d -/
def tDIn (ty td : TE) : TE := fun σ H Q => ty σ H fun y H1 => td σ H1 fun x H2 => ∃ a o, x = .ref a ∧ DGet H2 a y o ∧ Q (.bl o.isSome) H2
def tDNotIn (ty td : TE) : TE := fun σ H Q => ty σ H fun y H1 => td σ H1 fun x H2 => ∃ a o, x = .ref a ∧ DGet H2 a y o ∧ Q (.bl (!o.isSome)) H2
/-- d[y] = v -/
def sDPut (td ty tv : TE) : TS := fun D σ H => tv σ H fun v H1 => td σ H1 fun x H2 => ty σ H2 fun y H3 => ∃ a H4, x = .ref a ∧ DPut H3 a y v H4 ∧ D.nx σ H4
/-- d[y] op= v -/
def sDAug (td ty tv : TE) (rd : V → V → Hp → VK → Prop) : TS := fun D σ H => td σ H fun x H1 => ty σ H1 fun y H2 => ∃ a v, x = .ref a ∧ DGet H2 a y (some v) ∧
  tv σ H2 fun y2 H3 => rd v y2 H3 fun z H4 => ∃ H5, DPut H4 a y z H5 ∧ D.nx σ H5
/-- del d[y] -/
def sDDel (td ty : TE) : TS := fun D σ H => td σ H fun x H1 => ty σ H1 fun y H2 => ∃ a kvs k, x = .ref a ∧ H2 a = some (.dK kvs) ∧ y = kV k ∧ (valV kvs k).isSome = true ∧ D.nx σ (upd H2 a (.dK (dropK kvs k)))

section
variable {X : Cx} {o i e value : Expr} {pos pos' tpos : Pos} {td ty tv : TE}
theorem pe_dget (hu : X.A.units + 1 < cLine) (ho : PE X o td) (hi : PE X i ty) (hs : NoSl i) : PE X (.Subscript o i pos) (tDGet td ty) := by
  intro pins s σ H Q I h
  refine subD_of PySem.F.slot_dict_getitem.lookup hs (thn (ho pins s σ H _ I h) fun u s1 ⟨x, H1, I1, rx, q1⟩ => thn (hi pins s1 σ H1 _ I1 q1) fun iv s2 ⟨y, H2, I2, ry, a, v, ex, g, q2⟩ => ?_)
  subst ex
  obtain rfl : u = Value.ref a := rx
  exact ⟨dict_typeIs I2 g, d_getItem hu I2 g ry fun w' s3 I3 rw' => ⟨v, H2, I3, rw', q2⟩⟩
theorem pc_din (hu : X.A.units + 1 < cLine) (hi : PE X i ty) (ho : PE X o td) : PC X .In i o (tDIn ty td) := by
  intro pins s σ H Q I h
  refine thn (hi pins s σ H _ I h) fun iv s1 ⟨y, H1, I1, ry, q1⟩ => thn (ho pins s1 σ H1 _ I1 q1) fun u s2 ⟨x, H2, I2, rx, a, ov, ex, g, q2⟩ => ?_
  subst ex
  obtain rfl : u = Value.ref a := rx
  exact d_in hu I2 g ry fun s3 I3 => ⟨.bl ov.isSome, H2, I3, rfl, q2⟩
theorem pc_dnotin (hu : X.A.units + 1 < cLine) (hi : PE X i ty) (ho : PE X o td) : PC X .NotIn i o (tDNotIn ty td) := by
  intro pins s σ H Q I h
  refine thn (hi pins s σ H _ I h) fun iv s1 ⟨y, H1, I1, ry, q1⟩ => thn (ho pins s1 σ H1 _ I1 q1) fun u s2 ⟨x, H2, I2, rx, a, ov, ex, g, q2⟩ => ?_
  subst ex
  obtain rfl : u = Value.ref a := rx
  exact d_notIn hu I2 g ry fun s3 I3 => ⟨.bl (!ov.isSome), H2, I3, rfl, q2⟩
theorem ps_dput (hu : X.A.units + 1 < cLine) (ho : PE X o td) (hi : PE X i ty) (hv : PE X value tv) (hs : swapsWith value (some (.Subscript o i pos')) pos.line X.env = pure false) :
    PS X (.Assign [.Subscript o i pos'] value pos) (sDPut td ty tv) := by
  intro pins s σ H D I h
  refine wpAny_Assign_Subscript (thn (hv pins s σ H _ I h) fun r s1 ⟨v, H1, I1, rv, q1⟩ => thn (ho pins s1 σ H1 _ I1 q1) fun u s2 ⟨x, H2, I2, rx, q2⟩ => thn (hi pins s2 σ H2 _ I2 q2) fun iv s3 ⟨y, H3, I3, ry, a, H4, ex, g, q3⟩ => ?_) hs
  subst ex
  obtain rfl : u = Value.ref a := rx
  exact d_setItem hu I3 g ry rv fun s4 I4 => ⟨σ, H4, I4, q3⟩
theorem ps_daug {op : Operator} {rd : V → V → Hp → VK → Prop} (hu : X.A.units + 1 < cLine) (ho : PE X o td) (hi : PE X i ty) (hv : PE X value tv) (hop : InOp X op rd)
    (ha : ∀ ov iv new, augStore i ov iv new = (do holding [new, ov, iv] (setItem ov iv new); release [new, ov, iv] []; pure .next)) : PS X (.AugAssign (.Subscript o i tpos) op value pos) (sDAug td ty tv rd) := by
  intro pins s σ H D I h
  refine wpAny_AugAssign_SubscriptAny (thn (ho pins s σ H _ I h) fun u s1 ⟨x, H1, I1, rx, q1⟩ => thn (hi pins s1 σ H1 _ I1 q1) fun iv s2 ⟨y, H2, I2, ry, a, v, ex, g, q2⟩ => ?_) ha
  subst ex
  obtain rfl : u = Value.ref a := rx
  refine d_getItem hu I2 g ry fun w' s3 I3 rw' => thn (hv pins s3 σ H2 _ I3 q2) fun w2 s4 ⟨y2, H3, I4, ry2, q3⟩ => thn (hop pins s4 σ H3 v y2 w' w2 _ I4 rw' ry2 q3) fun w3 s5 ⟨z, H4, I5, rz, H5, g5, q4⟩ => ?_
  exact d_setItem hu I5 g5 ry rz fun s6 I6 => ⟨σ, H5, I6, q4⟩
theorem ps_ddel (ho : PE X o td) (hi : PE X i ty) : PS X (.Delete [.Subscript o i tpos] pos) (sDDel td ty) := by
  intro pins s σ H D I h
  refine wpAny_Delete (wpAny_deleteEach_cons (wpAny_delete_Subscript (thn (ho pins s σ H _ I h) fun u s1 ⟨x, H1, I1, rx, q1⟩ => thn (hi pins s1 σ H1 _ I1 q1) fun iv s2 ⟨y, H2, I2, ry, a, kvs, k, ex, e, ey, l, q2⟩ => ?_)))
  subst ex ey
  obtain rfl : u = Value.ref a := rx
  exact d_delItem I2 e ry l fun s3 I3 => wpAny_deleteEach_nil ⟨σ, _, I3, q2⟩
end


/-! ### displays -/
theorem dk_empty {P : Program} {w : World} {H : Hp} (h : Heap) (hb : sysModules < h.objs.size) : ObjOk P w H (h.push { cls := .type "dict", data := .dict #[] }) h.objs.size (.dK []) :=
  ⟨Nat.zero_le _, beq_eq_false_iff_ne.mpr (Ne.symm (Nat.ne_of_lt hb)), [], .nil, Heap.DictOf.new h⟩
theorem dt_empty {P : Program} {w : World} {H : Hp} (h : Heap) (hb : sysModules < h.objs.size) : ObjOk P w H (h.push { cls := .type "dict", data := .dict #[] }) h.objs.size (.dT []) :=
  ⟨Nat.zero_le _, beq_eq_false_iff_ne.mpr (Ne.symm (Nat.ne_of_lt hb)), [], .nil, _, #[], 0, Heap.get?_push_size _ rfl, ⟨rfl, rfl, rfl⟩, rfl, rfl, List.nodup_nil⟩
/-- {}, to be a dict of the kind that is wanted -/
def tDNewK : TE := fun _ H Q => ∀ p, H p = none → Q (.ref p) (upd H p (.dK []))
def tDNewT : TE := fun _ H Q => ∀ p, H p = none → Q (.ref p) (upd H p (.dT []))
section
variable {X : Cx} {pos : Pos}
theorem pe_dnewK : PE X (.Dict [] [] pos) tDNewK := fun pins s σ H Q I h =>
  wpAny_Dict_empty ⟨.ref s.heap.objs.size, _, I.laid (a := s.heap.objs.size) (o := .dK []) (t' := s.toks) (fun _ _ q => Heap.get?_push_of_some _ q) (Nat.le_refl _) (dk_empty s.heap I.big), rfl, h _ (I.hok.fresh (Nat.le_refl _))⟩
theorem pe_dnewT : PE X (.Dict [] [] pos) tDNewT := fun pins s σ H Q I h =>
  wpAny_Dict_empty ⟨.ref s.heap.objs.size, _, I.laid (a := s.heap.objs.size) (o := .dT []) (t' := s.toks) (fun _ _ q => Heap.get?_push_of_some _ q) (Nat.le_refl _) (dt_empty s.heap I.big), rfl, h _ (I.hok.fresh (Nat.le_refl _))⟩
end

/-- the pairs of a display, from the left -/
def tPairs : List (TE × TE) → St → Hp → (List (V × V) → Hp → Prop) → Prop
  | [], _, H, Q => Q [] H
  | (tk, tv) :: r, σ, H, Q => tk σ H fun x H1 => tv σ H1 fun y H2 => tPairs r σ H2 fun ps H3 => Q ((x, y) :: ps) H3
abbrev VV : List (V × V) → List (Value × Value) → Prop := Paired fun p q => RelV p.1 q.1 ∧ RelV p.2 q.2
def PPs (X : Cx) (pos : Pos) (keys : List (Option Expr)) (values : List Expr) (trs : List (TE × TE)) : Prop :=
  ∀ (pins : List (Addr × Obj)) (s : Shared) (σ : St) (H : Hp) (Q : List (V × V) → Hp → Prop), Inv X pins σ H s → tPairs trs σ H Q →
    wpAny (model X.prog X.w) X.A (evalPairs (pairTrees keys values X.env pos)) (fun vs s' => ∃ ps H', Inv X pins σ H' s' ∧ VV ps vs ∧ Q ps H') X.xe s
theorem pps_nil {X : Cx} {pos : Pos} : PPs X pos [] [] [] := fun pins s σ H Q I h => pairTrees_nil_walk ⟨[], H, I, .nil, h⟩
theorem pps_cons {X : Cx} {pos : Pos} {k v : Expr} {ks : List (Option Expr)} {vs : List Expr} {tk tv : TE} {trs : List (TE × TE)} (hk : PE X k tk) (hv : PE X v tv) (hr : PPs X pos ks vs trs) :
    PPs X pos (some k :: ks) (v :: vs) ((tk, tv) :: trs) := fun pins s σ H Q I h =>
  pairTrees_cons_walk (thn (hk pins s σ H _ I h) fun u s1 ⟨x, H1, I1, rx, q1⟩ => thn (hv pins s1 σ H1 _ I1 q1) fun w2 s2 ⟨y, H2, I2, ry, q2⟩ =>
    thn (hr pins s2 σ H2 _ I2 q2) fun ws s3 ⟨ps, H3, I3, rel, q3⟩ => ⟨(x, y) :: ps, H3, I3, .cons ⟨rx, ry⟩ rel, q3⟩)

def mergeK (kvs more : List (Key × V)) : List (Key × V) := more.foldl (fun acc kv => putK acc kv.1 kv.2) kvs
theorem KV.merge : ∀ {more : List (Key × V)} {rs : List (Key × Value)} {kvs : List (Key × V)} {vs : List (Key × Value)}, KV more rs → KV kvs vs → KV (mergeK kvs more) (merged vs rs) := by
  intro more rs kvs vs r
  unfold KV at r
  induction r generalizing kvs vs with
  | nil => intro q; exact q
  | @cons p q ps qs h t ih =>
    intro r0
    have e : KV (putK kvs p.1 p.2) (stored vs q.1 q.2) := by
      have := r0.put p.1 h.2
      rw [← h.1]; exact this
    exact ih e
theorem length_mergeK : ∀ (more kvs : List (Key × V)), (mergeK kvs more).length ≤ kvs.length + more.length
  | [], kvs => by show kvs.length ≤ kvs.length + 0; omega
  | p :: r, kvs => by
    have h1 := length_mergeK r (putK kvs p.1 p.2)
    have h2 := length_putK kvs p.1 p.2
    show (mergeK (putK kvs p.1 p.2) r).length ≤ _
    rw [List.length_cons]; omega
theorem carries_of {P : Program} {w : World} : ∀ {kvs : List (Key × V)} {ws : List (Value × Value)}, VV (kvs.map fun kv => (kV kv.1, kv.2)) ws → ∃ rs, Carries (mixKind P w) ws rs ∧ KV kvs rs
  | [], _, r => by rw [List.map_nil] at r; cases r; exact ⟨[], True.intro, .nil⟩
  | p :: kvs, _, r => by
    rw [List.map_cons] at r
    cases r with
    | @cons a b as bs h t =>
      obtain ⟨rs, c, q⟩ := carries_of (P := P) (w := w) t
      obtain ⟨b1, b2⟩ := b
      exact ⟨(p.1, b2) :: rs, ⟨kV_is h.1, rfl, c⟩, .cons ⟨rfl, h.2⟩ q⟩
/-- {k: v, ..} with keys ints and texts; the new dict stands empty while the pairs are made -/
def tDisp (trs : List (TE × TE)) : TE := fun σ H Q => ∀ p, H p = none → tPairs trs σ (upd H p (.dK [])) fun ps H2 => H2 p = some (.dK []) ∧ ∃ kvs : List (Key × V), ps = kvs.map (fun kv => (kV kv.1, kv.2)) ∧ kvs.length ≤ 15 ∧ Q (.ref p) (upd H2 p (.dK (mergeK [] kvs)))
theorem pe_disp {X : Cx} {pos : Pos} {keys : List (Option Expr)} {values : List Expr} {trs : List (TE × TE)} (h : PPs X pos keys values trs) (hall : keys.all (·.isSome) = true) (hl : keys.length = values.length) (h0 : keys ≠ [])
    (h15 : keys.length ≤ 15) : PE X (.Dict keys values pos) (tDisp trs) := by
  intro pins s σ H Q I q
  have hn := I.hok.fresh (Nat.le_refl s.heap.objs.size)
  have I1 := I.laid (a := s.heap.objs.size) (o := .dK []) (h' := s.heap.push { cls := .type "dict", data := .dict #[] }) (t' := s.toks) (fun _ _ q => Heap.get?_push_of_some _ q) (Nat.le_refl _) (dk_empty s.heap I.big)
  refine wpAny_Dict_walk (knd := mixKind X.prog X.w) hall hl h0 h15 (thn (h pins _ σ _ _ I1 (q _ hn)) fun ws s2 ⟨ps, H2, I2, rel, e, kvs, ep, lk, q2⟩ => ?_)
  subst ep
  obtain ⟨rs, c, rk⟩ := carries_of (P := X.prog) (w := X.w) rel
  obtain ⟨z, hd, vs0, r0, dd⟩ := dk_of I2.hok e
  cases r0
  refine ⟨rs, c, dd, fun h' dd' hs => ⟨.ref s.heap.objs.size, _, ?_, rfl, q2⟩⟩
  have hz : (mergeK [] kvs).length ≤ sizeLine := by
    have h1 := length_mergeK kvs []
    rw [List.length_nil] at h1
    rw [sizeLine_eq]; omega
  have he : ∃ q, h'.get? s.heap.objs.size = some q := let ⟨q, _, _, hq, _⟩ := dd'; ⟨q, hq⟩
  exact d_write I2 (by rw [e]; exact True.intro) hs he (dk_new hz hd (rk.merge .nil) dd')


/-! ### methods -/
/-- a method call o.m(e) of a built-in, with one argument: what must be seen of the text -/
structure M1 (X : Cx) (o : Expr) (m : Str) (apos : Pos) (e : Expr) (cpos : Pos) : Prop where
  base : attributeBase o m X.env (eval o X.env) = eval o X.env
  few : ((backTo cpos (starEach [e] X.env)).all (fun x => !x.1) && (backToKw cpos (keywordEach [] X.env)).all (fun x => x.1.isSome)
    && decide (([e] : List Expr).length + ([] : List Keyword).length + (if ([] : List Keyword).isEmpty then 0 else 1) < 30)) = true
  line : (apos.endLine == cpos.line) = true
  trees : backTo cpos (starEach [e] X.env) = [(false, eval e X.env)]
structure M2 (X : Cx) (o : Expr) (m : Str) (apos : Pos) (e f : Expr) (cpos : Pos) : Prop where
  base : attributeBase o m X.env (eval o X.env) = eval o X.env
  few : ((backTo cpos (starEach [e, f] X.env)).all (fun x => !x.1) && (backToKw cpos (keywordEach [] X.env)).all (fun x => x.1.isSome)
    && decide (([e, f] : List Expr).length + ([] : List Keyword).length + (if ([] : List Keyword).isEmpty then 0 else 1) < 30)) = true
  line : (apos.endLine == cpos.line) = true
  trees : backTo cpos (starEach [e, f] X.env) = [(false, eval e X.env), (false, eval f X.env)]

/-- a is a dict, whatever its keys -/
def IsD (H : Hp) (a : Addr) : Prop := (∃ kvs, Rd H a (.dK kvs)) ∨ ∃ kvs, Rd H a (.dT kvs)
theorem isD_at {X : Cx} {pins : List (Addr × Obj)} {σ : St} {H : Hp} {s : Shared} {a : Addr} (I : Inv X pins σ H s) (d : IsD H a) :
    s.TypeIs (.ref a) "dict" ∧ (∀ b, Value.ref a = .ref b → ∃ ob, s.heap.get? b = some ob ∧ ob.dict = none) ∧ (a == sysModules) = false := by
  rcases d with ⟨kvs, e⟩ | ⟨kvs, e⟩
  · obtain ⟨_, hd, vs, _, dd⟩ := dk_rd I.hok e
    refine ⟨dd.typeIs, fun b q => ?_, hd⟩
    cases q
    obtain ⟨ob, _, _, h1, h2, _⟩ := dd
    exact ⟨ob, h1, h2.2.1⟩
  · obtain ⟨_, hd, xs, _, dd⟩ := dt_rd I.hok e
    refine ⟨dd.typeIs, fun b q => ?_, hd⟩
    cases q
    obtain ⟨ob, _, _, h1, h2, _⟩ := dd
    exact ⟨ob, h1, h2.2.1⟩

section
variable {X : Cx} {pins : List (Addr × Obj)} {σ : St} {H : Hp} {s : Shared} {a : Addr} {y d : V} {u r : Value} {o : Option V} {A : Around} {E : Value → Shared → Prop}
/-- d.get(y) -/
theorem d_get1 {Q : Value → Shared → Prop} (hu : A.units + 1 < cLine) (I : Inv X pins σ H s) (g : DGet H a y o) (ry : RelV y u) (h : ∀ w' s', Inv X pins σ H s' → RelV (o.getD .non) w' → Q w' s') :
    wpAny (model X.prog X.w) A (call (.builtin "dict.get") [.ref a, u]) Q E s := by
  rcases g with ⟨kvs, k, e, ey, l⟩ | ⟨kvs, k, b, e, ey, eb, l⟩
  · subst ey
    obtain ⟨z, hd, vs, rel, dd⟩ := dk_rd I.hok e
    refine call_meetsIn PySem.F.slot_dict_get dd.typeIs PySem.F.entry_dict_get (PySem.F.args_dict_get_2 _ _) (meets_dict_get (mixKind X.prog X.w) a (kV_is ry) hd) ⟨_, dd.mapOf, h _ _ (I.tok _) ?_⟩
    rw [l]
    exact (rel.val k).getD rfl
  · subst ey
    cases (show u = Value.ref b from ry)
    obtain ⟨z, hd, xs, rel, dd⟩ := dt_rd I.hok e
    refine call_meetsIn PySem.F.slot_dict_get dd.typeIs PySem.F.entry_dict_get (PySem.F.args_dict_get_2 _ _) (meetsH_dict_get (tupleKind (mixKind X.prog X.w)) a b hd) ⟨tupleKind_room_in1 hu, k, xs, key_of I.hok eb, dd, h _ _ (I.tok _) ?_⟩
    rw [l]
    exact (rel.val k).getD rfl
/-- d.get(y, x) -/
theorem d_get2 {Q : Value → Shared → Prop} (hu : A.units + 1 < cLine) (I : Inv X pins σ H s) (g : DGet H a y o) (ry : RelV y u) (rd : RelV d r) (h : ∀ w' s', Inv X pins σ H s' → RelV (o.getD d) w' → Q w' s') :
    wpAny (model X.prog X.w) A (call (.builtin "dict.get") [.ref a, u, r]) Q E s := by
  rcases g with ⟨kvs, k, e, ey, l⟩ | ⟨kvs, k, b, e, ey, eb, l⟩
  · subst ey
    obtain ⟨z, hd, vs, rel, dd⟩ := dk_rd I.hok e
    refine call_meetsIn PySem.F.slot_dict_get dd.typeIs PySem.F.entry_dict_get (PySem.F.args_dict_get_3 _ _ _) (meets_dict_get_default (mixKind X.prog X.w) a (kV_is ry) hd r) ⟨_, dd.mapOf, h _ _ (I.tok _) ?_⟩
    rw [l]
    exact (rel.val k).getD rd
  · subst ey
    cases (show u = Value.ref b from ry)
    obtain ⟨z, hd, xs, rel, dd⟩ := dt_rd I.hok e
    refine call_meetsIn PySem.F.slot_dict_get dd.typeIs PySem.F.entry_dict_get (PySem.F.args_dict_get_3 _ _ _) (meetsH_dict_get_default (tupleKind (mixKind X.prog X.w)) a b hd r) ⟨tupleKind_room_in1 hu, k, xs, key_of I.hok eb, dd, h _ _ (I.tok _) ?_⟩
    rw [l]
    exact (rel.val k).getD rd
end

def tDGet1 (td ty : TE) : TE := fun σ H Q => td σ H fun x H1 => ∃ a, x = .ref a ∧ IsD H1 a ∧ ty σ H1 fun y H2 => ∃ o, DGet H2 a y o ∧ Q (o.getD .non) H2
def tDGet2 (td ty tx : TE) : TE := fun σ H Q => td σ H fun x H1 => ∃ a, x = .ref a ∧ IsD H1 a ∧ ty σ H1 fun y H2 => tx σ H2 fun z H3 => ∃ o, DGet H3 a y o ∧ Q (o.getD z) H3
/-- d.pop(k): there; d.pop(k, x): there or not -/
def tDPop1 (td ty : TE) : TE := fun σ H Q => td σ H fun x H1 => ∃ a, x = .ref a ∧ IsD H1 a ∧ ty σ H1 fun y H2 => ∃ kvs k v, H2 a = some (.dK kvs) ∧ y = kV k ∧ valV kvs k = some v ∧ Q v (upd H2 a (.dK (dropK kvs k)))
def tDPop2 (td ty tx : TE) : TE := fun σ H Q => td σ H fun x H1 => ∃ a, x = .ref a ∧ IsD H1 a ∧ ty σ H1 fun y H2 => tx σ H2 fun z H3 => ∃ kvs k, H3 a = some (.dK kvs) ∧ y = kV k ∧
  (∀ v, valV kvs k = some v → Q v (upd H3 a (.dK (dropK kvs k)))) ∧ (valV kvs k = none → Q z H3)
section
variable {X : Cx} {o e f : Expr} {apos cpos : Pos} {td ty tx : TE}
theorem pe_dget1 (hu : X.A.units + 1 < cLine) (ho : PE X o td) (he : PE X e ty) (m : M1 X o "get" apos e cpos) : PE X (.Call (.Attribute o "get" apos) [e] [] cpos) (tDGet1 td ty) := by
  intro pins s σ H Q I h
  refine wpAny_Call_method m.base m.few m.line PySem.F.plainAttrs_dict PySem.F.slot_dict_get PySem.F.type_dict_get (thn (ho pins s σ H _ I h) fun u s1 ⟨x, H1, I1, rx, a, ex, d, q1⟩ => ?_)
  subst ex
  obtain rfl : u = Value.ref a := rx
  obtain ⟨t1, t2, _⟩ := isD_at I1 d
  refine ⟨t1, t2, ?_⟩
  rw [m.trees]
  refine Calls.callWith_builtin rfl (Calls.evalArgs_plain (Calls.spliced_cons (thn (he pins s1 σ H1 _ I1 q1) fun iv s2 ⟨y, H2, I2, ry, ov, g, q2⟩ => Calls.spliced_nil ?_)))
  exact d_get1 hu I2 g ry fun w' s3 I3 rw' => ⟨_, H2, I3, rw', q2⟩
theorem pe_dget2 (hu : X.A.units + 1 < cLine) (ho : PE X o td) (he : PE X e ty) (hf : PE X f tx) (m : M2 X o "get" apos e f cpos) : PE X (.Call (.Attribute o "get" apos) [e, f] [] cpos) (tDGet2 td ty tx) := by
  intro pins s σ H Q I h
  refine wpAny_Call_method m.base m.few m.line PySem.F.plainAttrs_dict PySem.F.slot_dict_get PySem.F.type_dict_get (thn (ho pins s σ H _ I h) fun u s1 ⟨x, H1, I1, rx, a, ex, d, q1⟩ => ?_)
  subst ex
  obtain rfl : u = Value.ref a := rx
  obtain ⟨t1, t2, _⟩ := isD_at I1 d
  refine ⟨t1, t2, ?_⟩
  rw [m.trees]
  refine Calls.callWith_builtin rfl (Calls.evalArgs_plain (Calls.spliced_cons (thn (he pins s1 σ H1 _ I1 q1) fun iv s2 ⟨y, H2, I2, ry, q2⟩ =>
    Calls.spliced_cons (thn (hf pins s2 σ H2 _ I2 q2) fun fv s3 ⟨z, H3, I3, rz, ov, g, q3⟩ => Calls.spliced_nil ?_))))
  exact d_get2 hu I3 g ry rz fun w' s4 I4 rw' => ⟨_, H3, I4, rw', q3⟩
theorem pe_dpop1 (ho : PE X o td) (he : PE X e ty) (m : M1 X o "pop" apos e cpos) : PE X (.Call (.Attribute o "pop" apos) [e] [] cpos) (tDPop1 td ty) := by
  intro pins s σ H Q I h
  refine wpAny_Call_method m.base m.few m.line PySem.F.plainAttrs_dict PySem.F.slot_dict_pop PySem.F.type_dict_pop (thn (ho pins s σ H _ I h) fun u s1 ⟨x, H1, I1, rx, a, ex, d, q1⟩ => ?_)
  subst ex
  obtain rfl : u = Value.ref a := rx
  obtain ⟨t1, t2, _⟩ := isD_at I1 d
  refine ⟨t1, t2, ?_⟩
  rw [m.trees]
  refine Calls.callWith_builtin rfl (Calls.evalArgs_plain (Calls.spliced_cons (thn (he pins s1 σ H1 _ I1 q1) fun iv s2 ⟨y, H2, I2, ry, kvs, k, v, ea, ey, l, q2⟩ => Calls.spliced_nil ?_)))
  subst ey
  exact d_pop I2 ea ry l (.inl rfl) fun w' s3 I3 rw' => ⟨v, _, I3, rw', q2⟩
theorem pe_dpop2 (ho : PE X o td) (he : PE X e ty) (hf : PE X f tx) (m : M2 X o "pop" apos e f cpos) : PE X (.Call (.Attribute o "pop" apos) [e, f] [] cpos) (tDPop2 td ty tx) := by
  intro pins s σ H Q I h
  refine wpAny_Call_method m.base m.few m.line PySem.F.plainAttrs_dict PySem.F.slot_dict_pop PySem.F.type_dict_pop (thn (ho pins s σ H _ I h) fun u s1 ⟨x, H1, I1, rx, a, ex, d, q1⟩ => ?_)
  subst ex
  obtain rfl : u = Value.ref a := rx
  obtain ⟨t1, t2, _⟩ := isD_at I1 d
  refine ⟨t1, t2, ?_⟩
  rw [m.trees]
  refine Calls.callWith_builtin rfl (Calls.evalArgs_plain (Calls.spliced_cons (thn (he pins s1 σ H1 _ I1 q1) fun iv s2 ⟨y, H2, I2, ry, q2⟩ =>
    Calls.spliced_cons (thn (hf pins s2 σ H2 _ I2 q2) fun fv s3 ⟨z, H3, I3, rz, kvs, k, ea, ey, q3, q4⟩ => Calls.spliced_nil ?_))))
  subst ey
  cases l : valV kvs k with
  | some v => exact d_pop I3 ea ry l (.inr ⟨fv, rfl⟩) fun w' s4 I4 rw' => ⟨v, _, I4, rw', q3 v l⟩
  | none => exact d_popD I3 ea ry l fun s4 I4 => ⟨z, H3, I4, rz, q4 l⟩
end

/-! ### dict(d): a copy -/
section
variable {X : Cx} {pins : List (Addr × Obj)} {σ : St} {H : Hp} {s : Shared} {a : Addr} {kvs : List (Key × V)} {A : Around} {E : Value → Shared → Prop}
theorem d_copyOf {Q : Value → Shared → Prop} (I : Inv X pins σ H s) (e : Rd H a (.dK kvs)) (h : ∀ p s', H p = none → Inv X pins σ (upd H p (.dK kvs)) s' → Q (.ref p) s') : wpAny (model X.prog X.w) A (call (.type "dict") [.ref a]) Q E s := by
  obtain ⟨z, hd, vs, rel, dd⟩ := dk_rd I.hok e
  refine kt_call_dict hd dd (by rw [← rel.length]; exact z) fun h' dd' hs => ?_
  refine h _ _ (I.hok.fresh (Nat.le_refl _)) (I.laid (a := s.heap.objs.size) (o := .dK kvs) (t' := s.toks) (fun b q hq => ?_) (Nat.le_refl _) (dk_new z (beq_eq_false_iff_ne.mpr (Ne.symm (Nat.ne_of_lt I.big))) rel dd'))
  exact (hs.2 b (Nat.ne_of_lt (Heap.lt_size hq))).trans (Heap.get?_push_of_some _ hq)
end


section
variable {X : Cx} {pins : List (Addr × Obj)} {σ : St} {H : Hp} {s : Shared} {a : Addr} {y : V} {u : Value} {A : Around} {E : Value → Shared → Prop}
/-- d[y], not there: a KeyError -/
theorem d_missing {Q : Value → Shared → Prop} (hu : A.units + 1 < cLine) (hh : A.handled = none) (I : Inv X pins σ H s) (g : DGet H a y none) (ry : RelV y u)
    (h : ∀ h' e t', Heap.NewExc s.heap h' e "KeyError" → E (.ref e) { s with heap := h', toks := t' }) : wpAny (model X.prog X.w) A (getItem (.ref a) u) Q E s := by
  rcases g with ⟨kvs, k, e, ey, l⟩ | ⟨kvs, k, b, e, ey, eb, l⟩
  · subst ey
    obtain ⟨z, hd, vs, rel, dd⟩ := dk_rd I.hok e
    have hn : valueAt vs k = none := RelO.none_of (by rw [l]; exact rel.val k)
    exact wpAny_getItem_missing_of (kV_is ry) hd hh dd.mapOf hn fun h' ex ne => h h' ex _ ne
  · subst ey
    cases (show u = Value.ref b from ry)
    obtain ⟨z, hd, xs, rel, dd⟩ := dt_rd I.hok e
    have hn : (atKey xs k).map (·.2) = none := RelO.none_of (by rw [l]; exact rel.val k)
    exact wpAny_getItem_missing_heap (tupleKind_room_in1 hu) (key_of I.hok eb) hd hh dd (Option.map_eq_none_iff.mp hn) fun h' ex ne => h h' ex _ ne
end
end L2

namespace Att
open PySem PySem.W PySem.Calls PyProof.Rows

/-! ### the script -/
theorem ints_of_wellAll {P : Params} {h : Heap} : ∀ (ns : List Int) (vs : List Value), WellAll P h vs (ns.map WData.int) → IntsAre vs ns := by
  intro ns
  induction ns with
  | nil =>
    intro vs w
    rw [List.map_nil] at w
    cases w
    exact .nil
  | cons n ns ih =>
    intro vs w
    rw [List.map_cons] at w
    cases w with
    | cons a b =>
      cases a
      exact .cons _ _ (ih _ b)

theorem script_of {l : OpenLaw} {n : Nat} (hn : l.most = some n) {P : Params} {h : Heap} {args : List WData} {vals : List Value}
    (hpre : l.row.toRowW.claim.pre args = true) (hwl : WellAll P h vals args) :
    ∃ a vs ns, vals = [Value.ref a] ∧ args = [WData.list (ns.map WData.int)] ∧ h.get? a = some { cls := .type "list", data := .seq vs.toArray } ∧ IntsAre vs ns ∧ ns.length ≤ n := by
  have hsh : WShape.hasAll [] args [.list .int] = true := (pre_splitW hpre).1
  have hc : l.pre.holds [] { args := args } = true := (pre_splitW hpre).2
  obtain ⟨d, r, rfl, h1, h2⟩ := hasAllW_cons hsh
  obtain rfl := hasAllW_nil h2
  obtain ⟨xs, rfl, h3⟩ := hasW_list h1
  obtain ⟨ns, rfl⟩ := items_int h3
  have hlen : ns.length ≤ n := by
    unfold OpenLaw.pre at hc
    have h4 : (WTm.not (.lt (.lit (.int (n : Int))) (.len (.arg 0)))).holds [] { args := [.list (ns.map .int)] } = true := by
      have h4 := (holds_andW hc).1
      rw [hn] at h4
      exact h4
    have h5 := condW_of h4 (w_not (w_lt w_lit (w_len_list (w_arg rfl))))
    rw [List.length_map] at h5
    refine Nat.le_of_not_lt fun q => ?_
    have q' : (n : Int) < ((ns.length : Nat) : Int) := by omega
    first
      | (rw [decide_eq_true q'] at h5; exact absurd h5 (by decide))
      | (simp at h5; omega)
  cases hwl with
  | cons w1 w2 =>
    cases w2
    cases w1 with
    | list ho hall => exact ⟨_, _, ns, rfl, rfl, ho, ints_of_wellAll ns _ hall, hlen⟩

theorem post_true (l : OpenLaw) (args : List WData) : l.row.toRowW.claim.post args (.bool true) args = true :=
  postW_of (r := l.row.toRowW) (X := (true == true))
    (show WShape.has [] (.bool true) .bool = true by first | rfl | decide | simp [WShape.has, WShape.arms, WShape.armsAll])
    (show (WTm.eq .res (.lit (.bool true))).value [] { args := args, res := some (.bool true), after := args } = some (.bool (true == true)) from w_eq_bool (w_res rfl) w_lit) rfl

/-! ### the attachment: holds_open's last premise (the goal 'hc' behind k_head) from a wpAny of the law's body -/
theorem attach {l : OpenLaw} {n : Nat} {q : Program} {loose : List Str} {XP : (Str → Option Value) → Heap → Prop} {YP : World → Heap → Prop} {d : DefRec} {x : Str}
    (hn : l.most = some n) (hdf : d.params.defaults = [])
    (hbind : ∀ pm cd doc v : Value, bindArgs (docDef d.name d.params d.body d.scope pm cd doc) ⟨[v], []⟩ = pure [(x, v)])
    (hx : d.scope.names.lookup x = some .local ∨ d.scope.names.lookup x = some .cell)
    (hk : d.scope.kind = .function) (hco : d.scope.isCoroutine = false) (hgen : d.scope.isGenerator = false)
    (body : ∀ (w : World) (s₀ s₁ s : Shared) (mg mb : Str → Option Value) (fa : Addr) (o : Obj) (pm cd doc : Value) (a : Addr) (vs : List Value) (ns : List Int),
      Ground q loose [] XP w s₀ mg mb s₁.heap → YP w s₁.heap →
      s₁.heap.get? fa = some o → o.data = .func (docDef d.name d.params d.body d.scope pm cd doc) → s₁.heap.CodeRec cd d.name → mg d.name = some (.ref fa) →
      s₁.heap.get? a = some { cls := .type "list", data := .seq vs.toArray } → IntsAre vs ns → ns.length ≤ n →
      s.gens = #[] → s.os = s₁.os →
      Fr s₁.heap s₁.heap.objs.size s.heap (bindL (envOfC d.name d.scope s₁.heap.objs.size fa cd).kindOf [(x, .ref a)] fun _ => none) →
      Cl s₁.heap.objs.size (cellsFrom (s₁.heap.objs.size + 1) d.scope.names []) s.heap (bindC (envOfC d.name d.scope s₁.heap.objs.size fa cd).kindOf [(x, .ref a)] fun _ => none) →
      wpAny (model l.prog w) (callerA.deeper (envOfC d.name d.scope s₁.heap.objs.size fa cd)) (execs d.body (envOfC d.name d.scope s₁.heap.objs.size fa cd))
        (fun f s' => f = .ret (.bool true) ∧ OldK s₁.heap s'.heap ∧ s'.os = s₁.os ∧ AllBare s'.gens) (fun _ _ => False) s) :
    WalkO q loose XP YP l.row.toRowW d [] (fun f vs => PySem.call f vs) := by
  intro w s₀ s₁ mg mb G Y fa o pm cd doc dV kV ho hd hcd hD hmg hg args vals as hpre hlay hrd hwl hlo
  obtain rfl : dV = .none := Dflts.none hD hdf
  obtain rfl : kV = .none := Dflts.noKw hD
  obtain ⟨a, vs, ns, rfl, rfl, hobj, hints, hlen⟩ := script_of hn hpre hwl
  refine enter_call ?_
  refine call_cells_ret (o := o) (by rw [depth_caller]; decide) ho (fd_plain hd) G.T.nolimit hcd (hbind pm cd doc (.ref a)) (fun y hy => ?_) (fun h₁ tk F X => ?_) hco hgen hk
  · obtain rfl : y = (x, Value.ref a) := List.mem_singleton.mp hy
    rcases hx with e | e
    · exact .inl e
    · exact .inr ⟨e, cellsFrom_some _ _ _ (.inl e)⟩
  · refine wpAny_mono (body w s₀ s₁ { s₁ with heap := h₁, toks := tk } mg mb fa o pm cd doc a vs ns G Y ho (fd_plain hd) hcd hmg hobj hints hlen hg rfl F X) (fun f s' hq => ?_) (fun _ _ hq => hq)
    obtain ⟨rfl, h2, h3, h4⟩ := hq
    exact ⟨.inl ⟨.bool true, .bool true, [], rfl, fun _ => rfl, .bool true, post_true l _, fun _ => ⟨List.Pairwise.nil, fun _ hm => (nomatch hm)⟩⟩, h2, h3, h4⟩

/-- the same from a codeAny of the CALL (for a layer whose function contracts speak of calls) -/
theorem attach_call {l : OpenLaw} {n : Nat} {q : Program} {loose : List Str} {XP : (Str → Option Value) → Heap → Prop} {YP : World → Heap → Prop} {d : DefRec}
    (hn : l.most = some n) (hdf : d.params.defaults = [])
    (call : ∀ (w : World) (s₀ s₁ : Shared) (mg mb : Str → Option Value) (fa : Addr) (o : Obj) (pm cd doc : Value) (a : Addr) (vs : List Value) (ns : List Int),
      Ground q loose [] XP w s₀ mg mb s₁.heap → YP w s₁.heap →
      s₁.heap.get? fa = some o → o.data = .func (docDef d.name d.params d.body d.scope pm cd doc) → s₁.heap.CodeRec cd d.name → mg d.name = some (.ref fa) →
      s₁.heap.get? a = some { cls := .type "list", data := .seq vs.toArray } → IntsAre vs ns → ns.length ≤ n → s₁.gens = #[] →
      codeAny (model l.prog w) callerA (.call (.ref fa) ⟨[.ref a], []⟩) (fun r s' => r = .ok (.ret (.bool true)) ∧ OldK s₁.heap s'.heap ∧ s'.os = s₁.os ∧ AllBare s'.gens) s₁) :
    WalkO q loose XP YP l.row.toRowW d [] (fun f vs => PySem.call f vs) := by
  intro w s₀ s₁ mg mb G Y fa o pm cd doc dV kV ho hd hcd hD hmg hg args vals as hpre hlay hrd hwl hlo
  obtain rfl : dV = .none := Dflts.none hD hdf
  obtain rfl : kV = .none := Dflts.noKw hD
  obtain ⟨a, vs, ns, rfl, rfl, hobj, hints, hlen⟩ := script_of hn hpre hwl
  refine enter_call (codeAny_mono (call w s₀ s₁ mg mb fa o pm cd doc a vs ns G Y ho (fd_plain hd) hcd hmg hobj hints hlen hg) fun r s' hq => ?_)
  obtain ⟨rfl, h2, h3, h4⟩ := hq
  exact ⟨.inl ⟨.bool true, .bool true, [], rfl, fun _ => rfl, .bool true, post_true l _, fun _ => ⟨List.Pairwise.nil, fun _ hm => (nomatch hm)⟩⟩, h2, h3, h4⟩

/-- the same where the top left finished generators (o_head chose holds_openN): nothing may have changed at all and no generator may be left -/
theorem attachN {l : OpenLaw} {n : Nat} {q : Program} {loose : List Str} {XP : (Str → Option Value) → Heap → Prop} {YP : World → Heap → Prop} {d : DefRec} {x : Str}
    (hn : l.most = some n) (hdf : d.params.defaults = [])
    (hbind : ∀ pm cd doc v : Value, bindArgs (docDef d.name d.params d.body d.scope pm cd doc) ⟨[v], []⟩ = pure [(x, v)])
    (hx : d.scope.names.lookup x = some .local ∨ d.scope.names.lookup x = some .cell)
    (hk : d.scope.kind = .function) (hco : d.scope.isCoroutine = false) (hgen : d.scope.isGenerator = false)
    (body : ∀ (w : World) (s₀ s₁ s : Shared) (mg mb : Str → Option Value) (fa : Addr) (o : Obj) (pm cd doc : Value) (a : Addr) (vs : List Value) (ns : List Int),
      Ground q loose [] XP w s₀ mg mb s₁.heap → YP w s₁.heap →
      s₁.heap.get? fa = some o → o.data = .func (docDef d.name d.params d.body d.scope pm cd doc) → s₁.heap.CodeRec cd d.name → mg d.name = some (.ref fa) →
      s₁.heap.get? a = some { cls := .type "list", data := .seq vs.toArray } → IntsAre vs ns → ns.length ≤ n →
      s.gens = #[] → s.os = s₁.os →
      Fr s₁.heap s₁.heap.objs.size s.heap (bindL (envOfC d.name d.scope s₁.heap.objs.size fa cd).kindOf [(x, .ref a)] fun _ => none) →
      Cl s₁.heap.objs.size (cellsFrom (s₁.heap.objs.size + 1) d.scope.names []) s.heap (bindC (envOfC d.name d.scope s₁.heap.objs.size fa cd).kindOf [(x, .ref a)] fun _ => none) →
      wpAny (model l.prog w) (callerA.deeper (envOfC d.name d.scope s₁.heap.objs.size fa cd)) (execs d.body (envOfC d.name d.scope s₁.heap.objs.size fa cd))
        (fun f s' => f = .ret (.bool true) ∧ (∀ b o, s₁.heap.get? b = some o → s'.heap.get? b = some o) ∧ s'.os = s₁.os ∧ s'.gens = #[]) (fun _ _ => False) s) :
    WalkN q loose XP YP l.row.toRowW d [] (fun f vs => PySem.call f vs) := by
  intro w s₀ s₁ mg mb G Y fa o pm cd doc dV kV ho hd hcd hD hmg hg args vals as hpre hlay hrd hwl hlo
  obtain rfl : dV = .none := Dflts.none hD hdf
  obtain rfl : kV = .none := Dflts.noKw hD
  obtain ⟨a, vs, ns, rfl, rfl, hobj, hints, hlen⟩ := script_of hn hpre hwl
  refine enter_callW ?_
  refine call_cells_ret (o := o) (by rw [depth_caller]; decide) ho (fd_plain hd) G.T.nolimit hcd (hbind pm cd doc (.ref a)) (fun y hy => ?_) (fun h₁ tk F X => ?_) hco hgen hk
  · obtain rfl : y = (x, Value.ref a) := List.mem_singleton.mp hy
    rcases hx with e | e
    · exact .inl e
    · exact .inr ⟨e, cellsFrom_some _ _ _ (.inl e)⟩
  · refine wpAny_mono (body w s₀ s₁ { s₁ with heap := h₁, toks := tk } mg mb fa o pm cd doc a vs ns G Y ho (fd_plain hd) hcd hmg hobj hints hlen hg rfl F X) (fun f s' hq => ?_) (fun _ _ hq => hq)
    obtain ⟨rfl, h2, h3, h4⟩ := hq
    exact ⟨.inl ⟨.bool true, .bool true, [], rfl, fun _ => rfl, .bool true, post_true l _, fun _ => ⟨List.Pairwise.nil, fun _ hm => (nomatch hm)⟩⟩, h2, h3, h4⟩

/-! ### rules over ANY heap (no ledger) from facts about the written part K: the library's own take a ledger (News) for what they write -/
section
variable {prog : Program} {w : World} {A : Around} {E : Value → Shared → Prop} {s : Shared} {K : Frag}

/-- a def of the module, or a method (qual 'C.m'), entered: the frame is the next address; cells behind it -/
theorem call_fn {R : Result → Shared → Prop} {name qual : Str} {params : Arguments} {body : List Stmt} {scope : Scope} {dV kV doc pm cdv ct oc : Value} {an od : Option Addr} {osl : Array (Option Value)} {f : Addr} {args : Args} {binds : List (Str × Value)}
    (X : K.In s.heap) (hlim : s.heap.NoLimit) (ho : K.lookup f = some ⟨oc, od, .func (fnOf name qual params body scope dV kV doc pm an cdv ct), osl⟩) (hcd : codeIn K cdv qual = true) (hroom : A.depth < recursionLimit)
    (hbind : BindsTo s (fnOf name qual params body scope dV kV doc pm an cdv ct) args binds)
    (hkind : (binds.all fun y => scope.names.lookup y.1 == some .local || scope.names.lookup y.1 == some .cell) = true)
    (h : ∀ s₁, InCallC s s.heap.objs.size (bindL (envOfC qual scope s.heap.objs.size f cdv).kindOf binds fun _ => none) (cellsFrom (s.heap.objs.size + 1) scope.names [])
        (bindC (envOfC qual scope s.heap.objs.size f cdv).kindOf binds fun _ => none) s₁ →
      wpAny (model prog w) (A.deeper (envOfC qual scope s.heap.objs.size f cdv)) (execs body (envOfC qual scope s.heap.objs.size f cdv))
        (fun fl s' => R (.ok (.ret (match fl with | .ret v => v | _ => .none))) s')
        (fun e s' => wpAny (model prog w) (A.deeper (envOfC qual scope s.heap.objs.size f cdv)) (leaving (envOfC qual scope s.heap.objs.size f cdv) e) (fun _ s'' => R (.error e) s'') (fun e' s'' => R (.error e') s'') s') s₁)
    (hco : scope.isCoroutine = false) (hgen : scope.isGenerator = false) (hk : scope.kind = .function) : codeAny (model prog w) A (.call (.ref f) args) R s := by
  refine codeAny_call_function hroom (X _ _ ho) rfl hco hgen rfl (codeRec_of X hcd) (hbind _ _ _ _ ?_)
  refine wpAny_newFunctionEnv_cells hk (kindsX hkind _) fun env he s₁ x => ?_
  subst he
  exact ⟨hlim.keeps x.toInCall.keep, codeAny_func (h s₁ x)⟩

/-- C(..): dict at size, instance at size + 1, then __init__ -/
theorem make_obj {R : Result → Shared → Prop} {C fI : Addr} {rest : List Value} {kw : List (Str × Value)}
    (X : K.In s.heap) (hm : makesIn K C = true) (hi : findIn K (.ref C) "__init__" = some (some (.ref fI))) (hf : isFn K (.ref fI) = true)
    (h : codeAny (model prog w) (A.under (.builtin "type.__call__" ⟨.ref C :: rest, kw⟩)) (.call (.ref fI) ⟨.ref (s.heap.objs.size + 1) :: rest, kw⟩) (InitBack (s.heap.objs.size + 1) R)
      { s with heap := (s.heap.push emptyDict).push (instObj C s.heap.objs.size) }) : codeAny (model prog w) A (.call (.ref C) ⟨rest, kw⟩) R s := by
  obtain ⟨hh, g, d, t, os⟩ := s
  exact make_core (makes_of X hm) (looks_findIn X hi) (fun self => bind_fn X self (beq_iff_eq.mp hf)) (.inl rfl) h

/-- x.name where the instance's dict holds the name and the class does not -/
theorem get_field {x C : Addr} {ox : Obj} {es : List DictEntry} {n : Nat} {name : Str} {expr : Bool} {v : Value} {Q : Value → Shared → Prop}
    (X : K.In s.heap) (I : PySem.W.InstAt s.heap x ox C (some (dictOf es n))) (hg : plainGet K C name = true) (hh : hasDictIn K C = true) (ha : findIn K (.ref C) name = some none)
    (hl : getL name es = some (some v)) (hv : handedIn v = true) (h : Q v { s with toks := s.toks + 1 }) : wpAny (model prog w) A (getAttr (.ref x) name expr) Q E s :=
  get_value X I (plainGet_of hg).1 (findObj_own hh ha rfl hl) hv h

/-- x.m(..): the method found in the class -/
theorem get_method {x C f : Addr} {ox : Obj} {es : List DictEntry} {n : Nat} {name : Str} {pl : Sem Bool} {Q : Value × List Value → Shared → Prop}
    (X : K.In s.heap) (I : PySem.W.InstAt s.heap x ox C (some (dictOf es n))) (hg : plainGet K C name = true) (hf : findIn K (.ref C) name = some (some (.ref f))) (ht : isFn K (.ref f) = true)
    (hl : getL name es = some none) (h : Q (.ref f, [.ref x]) s) : wpAny (model prog w) A (getMethod (.ref x) name pl) Q E s :=
  method_fn X I (plainGet_of hg).1 (plainGet_of hg).2 hf (beq_iff_eq.mp ht) (by show (lookIn name (dictOf es n)).map _ = _; rw [lookIn_dict, hl]; rfl) h

/-! the whole heap as the ledger: makes every rule that writes through a ledger a rule over any heap -/
def noObjs (h : Heap) : Heap := { h with objs := #[] }
theorem noObjs_get (h : Heap) (b : Addr) : (noObjs h).get? b = none := by
  cases e : (noObjs h).get? b with
  | none => rfl
  | some o => exact absurd (Heap.lt_size e) (Nat.not_lt_zero _)
def ledger (h : Heap) (L d : Addr) : List (Addr × Obj) := (List.range h.objs.size).filterMap fun a => if a = L ∨ a = d then none else (h.get? a).map fun o => (a, o)
theorem mem_ledger {h : Heap} {L d a : Addr} {o : Obj} : (a, o) ∈ ledger h L d ↔ a ≠ L ∧ a ≠ d ∧ h.get? a = some o := by
  unfold ledger
  rw [List.mem_filterMap]
  constructor
  · rintro ⟨b, _, e⟩
    split at e
    · cases e
    · rename_i hb
      obtain ⟨o', ho, e'⟩ := Option.map_eq_some_iff.mp e
      cases e'
      exact ⟨fun q => hb (.inl q), fun q => hb (.inr q), ho⟩
  · rintro ⟨n1, n2, ho⟩
    refine ⟨a, List.mem_range.mpr (Heap.lt_size ho), ?_⟩
    rw [if_neg (show ¬ (a = L ∨ a = d) from fun q => q.elim n1 n2), ho] <;> rfl
theorem news_ledger {h : Heap} {L d : Addr} {od : Obj} (hne : d ≠ L) (ho : h.get? d = some od) : News (noObjs h) L h ([] ++ (d, od) :: ledger h L d) := by
  rintro ⟨a, o⟩ hp
  rcases List.mem_cons.mp hp with e | hp
  · cases e
    exact ⟨ho, hne, noObjs_get _ _⟩
  · obtain ⟨n1, n2, e⟩ := mem_ledger.mp hp
    exact ⟨e, n1, noObjs_get _ _⟩
theorem fr_all {h : Heap} {L : Addr} {m : Str → Option Value} (n : h.Ns L m) : Fr (noObjs h) L h m :=
  ⟨n, fun b o e => (by rw [noObjs_get] at e; cases e), Nat.zero_le _⟩
/-- Upd of the head entry (for append_K, setItem_K ..) -/
theorem upd_ledger {h : Heap} {L d : Addr} {o o' : Obj} : Upd d o o' ((d, o) :: ledger h L d) ((d, o') :: ledger h L d) :=
  .head fun ⟨_, _⟩ hp => (mem_ledger.mp hp).2.1

/-- x.name = v over any heap: L is any namespace of the heap (the frame's, say): its map stays, its object is not told; all else but the dict stays -/
theorem set_field {x C dx L : Addr} {ox : Obj} {m : Str → Option Value} {es es' : List DictEntry} {n n' : Nat} {name : Str} {v : Value} {Q : Unit → Shared → Prop}
    (X : K.In s.heap) (I : PySem.W.InstAt s.heap x ox C (some (dictOf es n))) (hd : ox.dict = some dx) (hL : s.heap.Ns L m) (hne : dx ≠ L)
    (hs : findIn K (.ref C) "__setattr__" = some (some (.builtin "object.__setattr__"))) (hp : plainOver K C = true) (ht : takerIn K C name = some none) (hh : hasDictIn K C = true) (hl : (getL name es).isSome = true)
    (e : (putL name (PyData.keyHash w.params name) (.str name (s.toks + 1)) v es, putN name es n) = (es', n')) (hz : es'.length ≤ 1000)
    (h : ∀ h' : Heap, h'.Ns L m → h'.get? dx = some (dictOf es' n') → (∀ b o, b ≠ dx → b ≠ L → s.heap.get? b = some o → h'.get? b = some o) → Q () { s with heap := h', toks := s.toks + 2 }) :
    wpAny (model prog w) A (setAttr (.ref x) name v) Q E s := by
  obtain ⟨e1, e2⟩ := Prod.mk.inj e
  have hdx : s.heap.get? dx = some (dictOf es n) := by
    have := I.dict
    rw [hd] at this
    exact this
  refine set_plain X I hs (osa_dict (s := { s with toks := s.toks + 1 }) (h₀ := noObjs s.heap) (L := L) (m := m) (od := dictOf es n) (od' := dictOf es' n') (es := es') (n := n') (pre := []) (post := ledger s.heap L dx)
    (fr_all hL) (news_ledger hne hdx) X I hd hp ht hh hl (fun _ q => nomatch q) (fun ⟨_, _⟩ q => (mem_ledger.mp q).2.1) (by rw [putName_dict, e1, e2]) rfl hz fun h' F' N' => ?_)
  exact h h' F'.ns (N'.get (List.Mem.head _)) fun b o n1 n2 ho => N'.get (List.Mem.tail _ (mem_ledger.mpr ⟨n2, n1, ho⟩))
end
end Att

namespace L2
open PySem PySem.Spec PyProof.Rows

theorem vals_ints : ∀ {vs : List Value} {ns : List Int}, IntsAre vs ns → Vals (ns.map V.int) vs
  | _, _, .nil => .nil
  | _, _, .cons n t h => .cons ⟨t, rfl⟩ (vals_ints h)

/-- nothing is tracked but the script, known to the object (or it is an object of the module) -/
def Only (H : Hp) : Prop := ∀ b, H b = none ∨ ∃ o xs, H b = some (.frz o (.lst xs))

/-- THE HEAD: the law's promise, at the heap behind the top. F, the promise of the law's def, may use that base is part of the heap (so K.In base, base.Ns mainGlobals mg stand in Mod) -/
theorem law_call {P : Program} {w : World} {K : PySem.W.Frag} {mg mb : Str → Option Value} {CX : CXT} {k : Nat} {fa a : Addr} {fd : FuncData} {x : Str} {sp : Sp} {s₁ : Shared} {vs : List Value} {ns : List Int}
    (KX : K.In s₁.heap) (hns : s₁.heap.Ns mainGlobals mg) (hb : s₁.heap.Ns builtinsNs mb) (hbb : ∀ x : Str, x ≠ "__name__" → mb x = bootBuiltins x) (hlim : s₁.heap.NoLimit) (hg : s₁.gens = #[])
    (ha : s₁.heap.get? a = some { cls := .type "list", data := .seq vs.toArray }) (hi : IntsAre vs ns) (hl : ns.length ≤ sizeLine) (hr : Room k callerA)
    (F : ∀ base : Heap, K.In base → base.Ns mainGlobals mg → FnOk P w K mg base CX k fa fd [x] sp) (hbind : ∀ (s : Shared) (u : Value), BindsTo s fd ⟨[u], []⟩ [(x, u)])
    (hsp : ∀ H : Hp, Only H → SqL K H a (ns.map V.int) → sp [.ref a] H (fun v _ => v = .bl true) fun _ _ _ => False)
    (hCX : ∀ H e s', CX [] H s₁ (fun _ _ _ => False) e s' → False) :
    codeAny (model P w) callerA (.call (.ref fa) ⟨[.ref a], []⟩) (fun r s' => r = .ok (.ret (.bool true)) ∧ OldK s₁.heap s'.heap ∧ s'.os = s₁.os ∧ AllBare s'.gens) s₁ := by
  have rv := vals_ints hi
  have lenV := hi.length
  -- from an abstract heap in which nothing but the script may be tracked
  have core : ∀ H : Hp, Only H → SqL K H a (ns.map V.int) → HOk P w H s₁.heap → (∀ b, H b ≠ none → b = a) → (H a ≠ none → K.lookup a = none) →
      codeAny (model P w) callerA (.call (.ref fa) ⟨[.ref a], []⟩) (fun r s' => r = .ok (.ret (.bool true)) ∧ OldK s₁.heap s'.heap ∧ s'.os = s₁.os ∧ AllBare s'.gens) s₁ := by
    intro H hO hS hok hA hK
    have base_of : ∀ {b : Addr} {o : Obj}, s₁.heap.get? b = some o → H b = none → (hidT s₁.heap H).get? b = some o := fun e n => hidT_get e n
    have noA : ∀ {b : Addr} {o : Obj} {es : Array DictEntry} {ep : Nat}, s₁.heap.get? b = some o → o.data = .dict es ep → H b = none := fun {b o es ep} e d => by
      cases q : H b with
      | none => rfl
      | some u =>
        have e' : b = a := hA b (by rw [q]; simp)
        subst e'
        rw [ha] at e; cases e
        have d' : Data.seq vs.toArray _ = Data.dict es ep := d
        cases d'
    have nsK : ∀ {b : Addr} {m : Str → Option Value}, s₁.heap.Ns b m → (hidT s₁.heap H).Ns b m := fun {b m} ⟨o, es, ep, e, d, r⟩ => ⟨o, es, ep, base_of e (noA e d), d, r⟩
    have hKb : K.In (hidT s₁.heap H) := fun b o e => base_of (KX b o e) (by
      cases q : H b with
      | none => rfl
      | some u =>
        have e' : b = a := hA b (by rw [q]; simp)
        subst e'
        rw [hK (by rw [q]; simp)] at e; cases e)
    have hM : Mod K mg (hidT s₁.heap H) := ⟨hKb, nsK hns, ⟨mb, nsK hb, hbb⟩, let ⟨mc, h1, h2⟩ := hlim; ⟨mc, nsK h1, h2⟩⟩
    have e0 : Env0 P w K mg (hidT s₁.heap H) callerA [] s₁ H := ⟨rfl, hM, fun b o e => of_hidT e, Nat.le_of_eq (hidT_size _ _), trivial, fun b hb => absurd (show b ∈ ([] : List Addr) from hb) (by simp), hok, .of_eq hg⟩
    refine codeAny_mono ((F _ hKb (nsK hns)).run callerA [] s₁ H ⟨[.ref a], []⟩ [.ref a] [.ref a] _ _ hr e0 (hbind s₁ (.ref a)) (.cons rfl .nil) (hsp H hO hS)) fun r s' h => ?_
    cases r with
    | error e => exact (hCX H e s' h).elim
    | ok fl =>
      cases fl with
      | next => exact False.elim h
      | brk => exact False.elim h
      | cont => exact False.elim h
      | ret u =>
        obtain ⟨v, H', os, bare, un, hok', r', q⟩ := h
        have q' : v = .bl true := q
        subst q'
        obtain rfl : u = Value.bool true := r'
        refine ⟨rfl, OldK.of_keep fun b o e => ?_, os, bare⟩
        cases q : H b with
        | none => exact un.keep b o e q (by intro z; exact absurd (show b ∈ ([] : List Addr) from z) (by simp)) (by simp)
        | some u =>
          rcases hO b with z | ⟨ob, xs, z⟩
          · rw [q] at z; cases z
          · have z2 := un.frzs b ob _ z
            obtain ⟨e1, _⟩ := hok b _ z
            obtain ⟨e2, _⟩ := hok' b _ z2
            rw [e] at e1; cases e1
            exact e2
  cases hk : K.lookup a with
  | some o =>
    -- the script is one of the module's own objects
    have e := KX a o hk
    rw [ha] at e
    cases e
    refine core (fun _ => none) (fun _ => .inl rfl) (.inr ⟨_, vs.toArray, _, hk, rfl, rfl, rfl, by rw [List.size_toArray, lenV]; exact hl, by simpa using rv⟩) (fun b u z => by have z' : (none : Option HO) = some u := z; cases z') (fun b z => absurd rfl z) fun z => absurd rfl z
  | none =>
    refine core (fun b => if b = a then some (.frz { cls := .type "list", data := .seq vs.toArray } (.lst (ns.map V.int))) else none) (fun b => ?_) (.inl (.inr ⟨{ cls := .type "list", data := .seq vs.toArray }, if_pos rfl⟩)) (fun b u z => ?_) (fun b z => ?_) fun _ => hk
    · by_cases hb : b = a
      · exact .inr ⟨_, _, if_pos hb⟩
      · exact .inl (if_neg hb)
    · by_cases hb : b = a
      · have z' := (if_pos hb).symm.trans z
        cases z'
        subst hb
        exact ⟨ha, by rw [List.length_map]; exact hl, vs, _, rv, ha⟩
      · have z' := (if_neg hb).symm.trans z
        cases z'
    · by_cases hb : b = a
      · exact hb
      · exact absurd (if_neg hb) z
end L2

namespace L2
open PySem PySem.Spec PyProof.Rows

abbrev KOf {K : PySem.W.Frag} {h : Heap} (_ : K.In h) : PySem.W.Frag := K

/-- the goal that k_head leaves (case hc), from the law's promise. F gives the function object fd (K's own) once, then the promise over every base -/
theorem walk_of {l : PySem.W.OpenLaw} {n k : Nat} {q : Program} {loose : List Str} {XP : (Str → Option Value) → Heap → Prop} {YP : World → Heap → Prop} {d : DefRec} {K : Params → PySem.W.Frag} {CX : World → CXT} {sp : World → Sp} {x : Str}
    (hn : l.most = some n) (hn2 : n ≤ sizeLine) (hdf : d.params.defaults = []) (hr : Room k callerA)
    (hY : ∀ (w : World) (h : Heap), YP w h → (K w.params).In h)
    (F : ∀ (w : World) (mg : Str → Option Value) (fa : Addr) (h : Heap), (K w.params).In h → h.Ns mainGlobals mg → mg d.name = some (.ref fa) →
      ∃ fd : FuncData, (∀ (s : Shared) (u : Value), BindsTo s fd ⟨[u], []⟩ [(x, u)]) ∧
        ∀ base : Heap, (K w.params).In base → base.Ns mainGlobals mg → FnOk l.prog w (K w.params) mg base (CX w) k fa fd [x] (sp w))
    (hsp : ∀ (w : World) (H : Hp) (a : Addr) (ns : List Int), ns.length ≤ n → Only H → SqL (K w.params) H a (ns.map V.int) → sp w [.ref a] H (fun v _ => v = .bl true) fun _ _ _ => False)
    (hCX : ∀ (w : World) (H : Hp) (s : Shared) (e : Value) (s' : Shared), CX w [] H s (fun _ _ _ => False) e s' → False) :
    PySem.W.WalkO q loose XP YP l.row.toRowW d [] (fun f vs => PySem.call f vs) := by
  refine Att.attach_call hn hdf fun w s₀ s₁ mg mb fa o pm cd doc a vs ns G Y ho hd hcd hmg hobj hints hlen hg => ?_
  have KX := hY w _ Y
  obtain ⟨fd, hb, hF⟩ := F w mg fa _ KX G.T.g hmg
  exact law_call KX G.T.g G.T.b G.T.builtins G.T.nolimit hg hobj hints (Nat.le_trans hlen hn2) hr hF hb (fun H hO hS => hsp w H a ns hlen hO hS) fun H e s' => hCX w H s₁ e s'
/-- the same where the promise hangs on the written part alone: (sp := My.sp_law), no hole under a binder -/
theorem walk_ofK {l : PySem.W.OpenLaw} {n k : Nat} {q : Program} {loose : List Str} {XP : (Str → Option Value) → Heap → Prop} {YP : World → Heap → Prop} {d : DefRec} {K : Params → PySem.W.Frag} {CX : CXT} {sp : PySem.W.Frag → Sp} {x : Str}
    (hn : l.most = some n) (hn2 : n ≤ sizeLine) (hdf : d.params.defaults = []) (hr : Room k callerA)
    (hY : ∀ (w : World) (h : Heap), YP w h → (K w.params).In h)
    (F : ∀ (w : World) (mg : Str → Option Value) (fa : Addr) (h : Heap), (K w.params).In h → h.Ns mainGlobals mg → mg d.name = some (.ref fa) →
      ∃ fd : FuncData, (∀ (s : Shared) (u : Value), BindsTo s fd ⟨[u], []⟩ [(x, u)]) ∧
        ∀ base : Heap, (K w.params).In base → base.Ns mainGlobals mg → FnOk l.prog w (K w.params) mg base CX k fa fd [x] (sp (K w.params)))
    (hsp : ∀ (K : PySem.W.Frag) (H : Hp) (a : Addr) (ns : List Int), ns.length ≤ n → Only H → SqL K H a (ns.map V.int) → sp K [.ref a] H (fun v _ => v = .bl true) fun _ _ _ => False)
    (hCX : ∀ (H : Hp) (s : Shared) (e : Value) (s' : Shared), CX [] H s (fun _ _ _ => False) e s' → False) :
    PySem.W.WalkO q loose XP YP l.row.toRowW d [] (fun f vs => PySem.call f vs) :=
  walk_of (K := K) (CX := fun _ => CX) (sp := fun w => sp (K w.params)) hn hn2 hdf hr hY F (fun w H a ns h1 h2 h3 => hsp (K w.params) H a ns h1 h2 h3) fun _ H s e s' => hCX H s e s'
end L2

/- THE LAST THEOREM (shape; LID, My.* are yours):
   My.Adr: a structure of the addresses that your layer names (classes, functions); My.Txt K t: a structure (Prop) of the equations over K;
   My.txt_mk : {K} {implicit addresses ..} (e1 : nsIn K mainGlobals "law" = some (some (.ref f))) (e2 : K.lookup f = some ⟨oc, od, .func (fnOf "law" "law" params body scope dV kV doc pm an cdv ct), sl⟩) (e3 : codeIn K cdv "law" = true) .. : ∃ t, My.Txt K t

set_option maxRecDepth 100000 in
set_option maxHeartbeats 0 in
theorem PySem.Challenge.cw_LID_holds : PySem.Challenge.rw_LID.Holds := by
  w_on; o_law; k_head; (case hw => w_witness2)
  k_fill
  refine L2.walk_of (l := PySem.Challenge.rw_LID) (n := 63) (k := 40) (x := "script") (CX := fun w => ..) (sp := fun _ => My.sp_law) rfl (by decide) rfl ⟨rfl, by decide, by decide⟩ (fun w h Y => PySem.W.kIn_of Y) ?F ?S ?C
  case F =>
    intro w mg fa h KX G hmg
    have T : ∃ t, My.Txt (L2.KOf KX) t := by
      dsimp only [L2.KOf]                          -- K must stand as «<heap const> w.params» for k_is
      refine' My.txt_mk ?e1 ?e2 ?e3 ..
      (case e1 => PySem.W.k_is)                    -- in the order: a name -> its address -> its object -> its parts
      (case e2 => PySem.W.k_is)
      ..
    obtain ⟨t, T⟩ := T
    have e0 := hmg.symm.trans (PySem.W.mg_of KX G T.law)
    cases e0                                       -- fa is the law's own address
    exact ⟨_, fun s u => .of_eq rfl, fun base kb nb => My.law_fn T kb nb⟩     -- if «.of_eq rfl» comes too early: refine' ⟨_, ?b, fun base kb nb => My.law_fn T kb nb⟩; exact fun s u => .of_eq rfl
  case S => exact fun w H a ns hl hO hS => ..
  case C => exact ..
(the tactic k_is has no namespace: write k_is) -/

/-! SHORT WORDS over the layer: a def of the text, its body, what a loop and a test want. -/
namespace L2
open PySem PySem.Spec PyProof.Rows

/-! ### the text by places -/
/-- the j-th statement of a class's body -/
def inClass (s : Stmt) (j : Nat) : Stmt := match s with
  | .ClassDef _ _ _ body _ _ _ _ _ _ _ => body.getD j (.Pass ⟨0, 0, 0, 0⟩)
  | _ => .Pass ⟨0, 0, 0, 0⟩
def defArgs (s : Stmt) : Arguments := match s with
  | .FunctionDef _ a _ _ _ _ _ _ _ _ => a
  | _ => { posonlyargs := [], args := [], vararg := none, kwonlyargs := [], kw_defaults := [], kwarg := none, defaults := [] }
def defBody (s : Stmt) : List Stmt := match s with
  | .FunctionDef _ _ b _ _ _ _ _ _ _ => b
  | _ => []
def defScope (s : Stmt) : Scope := match s with
  | .FunctionDef _ _ _ _ _ _ sc _ _ _ => sc
  | _ => { kind := .function, names := [], isGenerator := false, isCoroutine := false }

/-! ### no exception leaves a def -/
abbrev CX0 : CXT := fun _ _ _ _ _ _ => False
abbrev E0 : XK := fun _ _ _ => False
theorem pass0 {X : Cx} : Passes CX0 X E0 := fun _ _ _ _ _ _ _ h => h.elim

/-! ### a def (or method) of the text as it stands behind the top -/
structure Fun (K : PySem.W.Frag) (x qual : Str) (st : Stmt) (f : Addr) (fd : FuncData) : Prop where
  ex : ∃ (oc : Value) (od : Option Addr) (kV doc pm : Value) (an : Option Addr) (cdv ct : Value) (osl : Array (Option Value)),
    fd = PySem.W.fnOf x qual (defArgs st) (defBody st) (defScope st) .none kV doc pm an cdv ct ∧ K.lookup f = some ⟨oc, od, .func fd, osl⟩ ∧ PySem.W.codeIn K cdv qual = true
  kp : PySem.W.keepIn K (.ref f) = true
section
variable {P : Program} {w : World} {K : PySem.W.Frag} {mg : Str → Option Value} {base : Heap}
/-- THE RULE for a def: its body as a term of rules, and the reading of that term -/
theorem Fun.ok {x qual : Str} {st : Stmt} {f : Addr} {fd : FuncData} {N ps : List Str} {k : Nat} {sp : Sp} (F : Fun K x qual st f fd) (S : FnScope N ps (defScope st)) (len : ∀ vs H Q E, sp vs H Q E → vs.length = ps.length)
    (hbody : ∀ (cdv : Value) (A : Around) (outer : List Env) (s : Shared) (H : Hp) (vs : List V) (Q : VK) (E : XK), Room k (A.deeper (envOfC qual (defScope st) s.heap.objs.size f cdv)) → sp vs H Q E →
      ∃ t, PSs (cxOf CX0 P w K mg base N qual (defScope st) f cdv A outer s H E).nox (defBody st) t ∧ t { nx := fun _ H' => Q .non H', rt := Q } (start N vs) H) : FnOk P w K mg base CX0 (k + 1) f fd ps sp := by
  obtain ⟨oc, od, kV, doc, pm, an, cdv, ct, osl, rfl, lk, hcd⟩ := F.ex
  refine fn_of lk hcd S len fun A outer s H vs Q E hr hsp => ?_
  obtain ⟨t, h, q⟩ := hbody cdv A outer s H vs Q E hr hsp
  exact ⟨t, h.nox, q⟩
/-- how its arguments bind (no defaults): h is «fun _ _ _ _ _ _ us hl => match us, hl with | [_, _], _ => rfl», one _ a parameter -/
theorem Fun.binds {x qual : Str} {st : Stmt} {f : Addr} {fd : FuncData} {ps : List Str} (F : Fun K x qual st f fd)
    (h : ∀ (kV doc pm : Value) (an : Option Addr) (cdv ct : Value) (us : List Value), us.length = ps.length → bindArgs (PySem.W.fnOf x qual (defArgs st) (defBody st) (defScope st) .none kV doc pm an cdv ct) ⟨us, []⟩ = pure (ps.zip us)) : Binds K fd ps [] := by
  obtain ⟨oc, od, kV, doc, pm, an, cdv, ct, osl, rfl, lk, hcd⟩ := F.ex
  exact .all (h kV doc pm an cdv ct)
theorem fun_mk {x qual : Str} {st : Stmt} {f : Addr} {oc : Value} {od an : Option Addr} {osl : Array (Option Value)} {kV doc pm cdv ct : Value} (l : K.lookup f = some ⟨oc, od, .func (PySem.W.fnOf x qual (defArgs st) (defBody st) (defScope st) .none kV doc pm an cdv ct), osl⟩)
    (c : PySem.W.codeIn K cdv qual = true) (k : PySem.W.keepIn K (.ref f) = true) : Fun K x qual st f (PySem.W.fnOf x qual (defArgs st) (defBody st) (defScope st) .none kV doc pm an cdv ct) := ⟨⟨oc, od, kV, doc, pm, an, cdv, ct, osl, rfl, l, c⟩, k⟩
end
theorem hu_of {A : Around} {k : Nat} (hr : Room k A) : A.units + 1 < cLine := Nat.lt_of_le_of_lt (Nat.add_le_add_left (by decide : 1 ≤ 64) _) hr.units
theorem small1000 {n : Nat} (h : n ≤ 1000) : n < sizeLine := Nat.lt_of_le_of_lt h (by decide)

/-! ### expressions in short: the name that stands in the i-th slot -/
section
variable {X : Cx}
theorem pv (i : Nat) {x : Str} {pos : Pos} (hN : X.N[i]? = some x := by rfl) (hv : Vis X.env.scope x := by first | exact Or.inl rfl | exact Or.inr (Or.inl rfl) | exact Or.inr (Or.inr rfl)) (hd : (x == ("__debug__" : Str)) = false := by decide)
    (hcd : (x == ("__classdict__" : Str)) = false := by decide) : PE X (.Name x pos) (tVar i) := pe_var hN hv hd hcd
end

/-! ### tests -/
theorem iteF {A B : Prop} (h : B) : if false = true then A else B := by
  rw [if_neg Bool.false_ne_true]
  exact h
theorem iteT {A B : Prop} (h : A) : if true = true then A else B := by
  rw [if_pos rfl]
  exact h
theorem ite2 {c A B : Prop} [Decidable c] (h1 : c → A) (h2 : ¬ c → B) : if c then A else B := by
  by_cases h : c
  · rw [if_pos h]
    exact h1 h
  · rw [if_neg h]
    exact h2 h
theorem iteNS {c A B : Prop} [Decidable c] (hc : c) (h : B) : if (!decide c) = true then A else B := by
  rw [decide_eq_true hc]
  exact iteF h

/-! ### heaps -/
/-- all that was tracked is as it was -/
def Same (H H' : Hp) : Prop := ∀ b o, H b = some o → H' b = some o
theorem Same.refl (H : Hp) : Same H H := fun _ _ h => h
theorem Same.trans {H H1 H2 : Hp} (a : Same H H1) (b : Same H1 H2) : Same H H2 := fun c o h => b c o (a c o h)
theorem Same.free {H H' : Hp} (e : Same H H') {l : Addr} (h : H' l = Option.none) : H l = Option.none := by
  cases q : H l with
  | none => rfl
  | some o =>
    rw [e l o q] at h
    cases h
theorem Same.seq {K : PySem.W.Frag} {H H' : Hp} {a : Addr} {xs : List V} (e : Same H H') (h : SqL K H a xs) : SqL K H' a xs := by
  rcases h with (h | ⟨o, h⟩) | h
  · exact .inl (.inl (e _ _ h))
  · exact .inl (.inr ⟨o, e _ _ h⟩)
  · exact .inr h

end L2

namespace L2
open PySem PySem.Spec PyProof.Rows
section
variable {X : Cx}
/-- len of a dict -/
theorem call_lenD : CallR X (.builtin "len") (fun xs H Q => ∃ a kvs, xs = [V.ref a] ∧ H a = some (.dK kvs) ∧ Q (.int kvs.length) H) := by
  intro pins s σ H xs us Q I r h
  obtain ⟨a, kvs, rfl, ha, q⟩ := h
  obtain ⟨u, rfl, ru⟩ := vals1 r
  cases ru
  exact d_len I (.inl ha) fun t s' I' => ⟨.int kvs.length, H, I', ⟨t, rfl⟩, q⟩
end
/-! ### a dict's pairs: keys that differ -/
section
variable {κ : Type} [DecidableEq κ]
theorem valV_not {kvs : List (κ × V)} {k : κ} (h : valV kvs k = none) : ¬ k ∈ kvs.map (·.1) := by
  intro m
  obtain ⟨p, hp, e⟩ := List.mem_map.mp m
  have q : (kvs.any fun kv => decide (kv.1 = k)) = true := List.any_eq_true.mpr ⟨p, hp, decide_eq_true e⟩
  rw [valV_any, h] at q
  exact absurd q (by simp)
theorem valV_in {kvs : List (κ × V)} {k : κ} {v : V} (h : valV kvs k = some v) : k ∈ kvs.map (·.1) := by
  have q : (kvs.any fun kv => decide (kv.1 = k)) = true := by
    rw [valV_any, h]
    all_goals rfl
  obtain ⟨p, hp, e⟩ := List.any_eq_true.mp q
  exact List.mem_map.mpr ⟨p, hp, of_decide_eq_true e⟩
theorem nd_snoc : ∀ {l : List κ} {k : κ}, l.Nodup → ¬ k ∈ l → (l ++ [k]).Nodup
  | [], k, _, _ => by simp
  | a :: r, k, h, hk => by
    obtain ⟨h1, h2⟩ := List.nodup_cons.mp h
    show (a :: (r ++ [k])).Nodup
    refine List.nodup_cons.mpr ⟨fun m => ?_, nd_snoc h2 fun m => hk (List.mem_cons.mpr (Or.inr m))⟩
    rcases List.mem_append.mp m with q | q
    · exact h1 q
    · exact hk (List.mem_cons.mpr (Or.inl (List.mem_singleton.mp q).symm))
theorem nd_putK {kvs : List (κ × V)} {k : κ} (v : V) (hn : (kvs.map (·.1)).Nodup) (h : valV kvs k = none) : ((putK kvs k v).map (·.1)).Nodup := by
  rw [putK_new v h, List.map_append]
  exact nd_snoc hn (valV_not h)
theorem dropK_pos {p : κ × V} {r : List (κ × V)} {k : κ} (e : p.1 = k) : dropK (p :: r) k = dropK r k := by
  unfold dropK
  rw [List.filter_cons, if_neg (by simp [e])]
theorem dropK_neg {p : κ × V} {r : List (κ × V)} {k : κ} (e : ¬ p.1 = k) : dropK (p :: r) k = p :: dropK r k := by
  unfold dropK
  rw [List.filter_cons, if_pos (by simp [e])]
theorem dropK_no : ∀ {kvs : List (κ × V)} {k : κ}, ¬ k ∈ kvs.map (·.1) → dropK kvs k = kvs
  | [], _, _ => rfl
  | p :: r, k, h => by
    have h' : ¬ k ∈ r.map (·.1) := fun m => by
      obtain ⟨q, hq, e⟩ := List.mem_map.mp m
      exact h (List.mem_map.mpr ⟨q, List.mem_cons.mpr (Or.inr hq), e⟩)
    rw [dropK_neg fun e => h (List.mem_map.mpr ⟨p, List.mem_cons.mpr (Or.inl rfl), e⟩), dropK_no h']
theorem dropK_mem {kvs : List (κ × V)} {k : κ} {p : κ × V} (h : p ∈ dropK kvs k) : p ∈ kvs := (List.mem_filter.mp h).1
theorem nd_dropK : ∀ {kvs : List (κ × V)} {k : κ}, (kvs.map (·.1)).Nodup → ((dropK kvs k).map (·.1)).Nodup
  | [], _, _ => List.nodup_nil
  | p :: r, k, h => by
    have h : (p.1 :: r.map (·.1)).Nodup := h
    obtain ⟨h1, h2⟩ := List.nodup_cons.mp h
    by_cases e : p.1 = k
    · rw [dropK_pos e]
      exact nd_dropK h2
    · rw [dropK_neg e]
      show (p.1 :: (dropK r k).map (·.1)).Nodup
      refine List.nodup_cons.mpr ⟨fun m => h1 ?_, nd_dropK h2⟩
      obtain ⟨q, hq, eq⟩ := List.mem_map.mp m
      exact List.mem_map.mpr ⟨q, dropK_mem hq, eq⟩
theorem dropK_len : ∀ {kvs : List (κ × V)} {k : κ}, (kvs.map (·.1)).Nodup → k ∈ kvs.map (·.1) → (dropK kvs k).length + 1 = kvs.length
  | [], _, _, m => by simp at m
  | p :: r, k, h, m => by
    have h : (p.1 :: r.map (·.1)).Nodup := h
    have m : k = p.1 ∨ k ∈ r.map (·.1) := List.mem_cons.mp m
    obtain ⟨h1, h2⟩ := List.nodup_cons.mp h
    by_cases e : p.1 = k
    · subst e
      rw [dropK_pos rfl, dropK_no h1]
      all_goals rfl
    · have m' : k ∈ r.map (·.1) := m.resolve_left fun z => e z.symm
      have q := dropK_len h2 m'
      rw [dropK_neg e, List.length_cons, List.length_cons]
      omega
end
end L2
set_option Elab.async false
set_option linter.all false
set_option maxRecDepth 100000
namespace L2
open PySem PySem.Spec PyProof.Rows

/-! ### list comprehensions: the block that runs inside the def's frame -/
def closL (env : Env) : List (Str × NameKind) → List (Str × Addr) → List (Str × Addr)
  | [], cs => cs
  | (n, k) :: r, cs => if (k == NameKind.free) = true then closL env r ((n, (env.cells.lookup n).getD 0) :: cs) else closL env r cs
theorem closureFor_is {scope : Scope} {env : Env} (h : ∀ x ∈ scope.names, x.2 = .free → ∃ c, env.cells.lookup x.1 = some c) : closureFor scope env = pure (closL env scope.names []) := by
  unfold closureFor
  have go : ∀ (l : List (Str × NameKind)) (cs : List (Str × Addr)), (∀ x ∈ l, x.2 = .free → ∃ c, env.cells.lookup x.1 = some c) →
      (forIn l cs fun (x : Str × NameKind) (r : List (Str × Addr)) => (match x with
        | (name, kind) => if (kind == NameKind.free) = true then do let a ← cellOf env name; pure (ForInStep.yield ((name, a) :: r)) else pure (ForInStep.yield r) : Sem (ForInStep (List (Str × Addr))))) = (pure (closL env l cs) : Sem (List (Str × Addr))) := by
    intro l
    induction l with
    | nil => intro cs _; rfl
    | cons x r ih =>
      intro cs hl
      obtain ⟨n, k⟩ := x
      rw [List.forIn_cons]
      by_cases hk : (k == NameKind.free) = true
      · obtain ⟨c, hc⟩ := hl (n, k) List.mem_cons_self (by simpa using hk)
        have e : cellOf env n = pure c := by unfold cellOf; rw [hc]
        simp only [hk, if_true, e, pure_bind]
        rw [ih _ fun y hy => hl y (List.mem_cons_of_mem _ hy)]
        rw [closL, if_pos hk, hc]
        rfl
      · simp only [hk, if_false, Bool.false_eq_true, pure_bind]
        rw [ih _ fun y hy => hl y (List.mem_cons_of_mem _ hy)]
        rw [closL, if_neg hk]
  have q := go scope.names [] h
  simp only [pure_bind, bind_pure] at q ⊢
  exact q
theorem closL_lookup {env : Env} {y : Str} {c : Addr} : ∀ (l : List (Str × NameKind)) (cs : List (Str × Addr)), (∀ x ∈ l, x.2 = .free → ∃ c, env.cells.lookup x.1 = some c) →
    (∀ z d, cs.lookup z = some d → env.cells.lookup z = some d) → (closL env l cs).lookup y = some c → env.cells.lookup y = some c
  | [], cs, _, hc, e => hc _ _ e
  | (n, k) :: r, cs, h, hc, e => by
    have hr : ∀ x ∈ r, x.2 = .free → ∃ c, env.cells.lookup x.1 = some c := fun x hx => h x (List.mem_cons_of_mem _ hx)
    by_cases hk : (k == NameKind.free) = true
    · rw [closL, if_pos hk] at e
      refine closL_lookup r _ hr (fun z d ez => ?_) e
      obtain ⟨c', hc'⟩ := h (n, k) List.mem_cons_self (by simpa using hk)
      rw [List.lookup_cons] at ez
      cases hz : z == n with
      | true =>
        rw [hz] at ez
        have hz' : z = n := eq_of_beq hz
        subst hz'
        have e2 : (env.cells.lookup z).getD 0 = d := Option.some.inj ez
        have hc'' : env.cells.lookup z = some c' := hc'
        rw [hc''] at e2 ⊢
        exact congrArg some e2
      | false => rw [hz] at ez; exact hc z d ez
    · rw [closL, if_neg hk] at e
      exact closL_lookup r cs hr hc e
theorem closL_has {env : Env} {y : Str} : ∀ (l : List (Str × NameKind)) (cs : List (Str × Addr)), ((y, NameKind.free) ∈ l ∨ ∃ c, cs.lookup y = some c) → ∃ c, (closL env l cs).lookup y = some c
  | [], cs, h => h.elim (fun z => nomatch z) fun z => z
  | (n, k) :: r, cs, h => by
    by_cases hk : (k == NameKind.free) = true
    · rw [closL, if_pos hk]
      refine closL_has r _ ?_
      rcases h with h | ⟨c, h⟩
      · rcases List.mem_cons.mp h with h | h
        · cases h
          exact .inr ⟨_, by rw [List.lookup_cons, beq_self_eq_true]⟩
        · exact .inl h
      · cases hz : y == n with
        | true => exact .inr ⟨_, by rw [List.lookup_cons, hz]⟩
        | false => exact .inr ⟨c, by rw [List.lookup_cons, hz]; exact h⟩
    · rw [closL, if_neg hk]
      refine closL_has r _ ?_
      rcases h with h | h
      · rcases List.mem_cons.mp h with h | h
        · cases h
          exact absurd rfl hk
        · exact .inl h
      · exact .inr h
theorem lookup_relabel {env : Env} : ∀ {names : List (Str × NameKind)} {x : Str} {k' : NameKind},
    (names.map fun (n, k) => if (k == NameKind.free && env.scope.kind == .function && env.kindOf n == some .cell) then (n, NameKind.cell) else (n, k)).lookup x = some k' →
    names.lookup x = some k' ∨ (names.lookup x = some .free ∧ k' = .cell)
  | [], _, _, h => by simp at h
  | (n, k) :: r, x, k', h => by
    have ih := @lookup_relabel env r x k'
    have h : List.lookup x ((if (k == NameKind.free && env.scope.kind == .function && env.kindOf n == some .cell) = true then (n, NameKind.cell) else (n, k)) :: _) = some k' := h
    rw [List.lookup_cons]
    by_cases hc : (k == NameKind.free && env.scope.kind == .function && env.kindOf n == some .cell) = true
    · rw [if_pos hc, List.lookup_cons] at h
      cases hx : x == n with
      | true =>
        rw [hx] at h
        have e1 : NameKind.cell = k' := Option.some.inj h
        simp only [Bool.and_eq_true] at hc
        exact .inr ⟨congrArg some (eq_of_beq hc.1.1), e1.symm⟩
      | false => rw [hx] at h; exact ih h
    · rw [if_neg hc, List.lookup_cons] at h
      cases hx : x == n with
      | true => rw [hx] at h; exact .inl h
      | false => rw [hx] at h; exact ih h
theorem relabel_free {env : Env} : ∀ {names : List (Str × NameKind)} {x : Str}, names.lookup x = some .free →
    (names.map fun (n, k) => if (k == NameKind.free && env.scope.kind == .function && env.kindOf n == some .cell) then (n, NameKind.cell) else (n, k)).lookup x = some .cell ∨
    (names.map fun (n, k) => if (k == NameKind.free && env.scope.kind == .function && env.kindOf n == some .cell) then (n, NameKind.cell) else (n, k)).lookup x = some .free
  | [], _, h => by simp at h
  | (n, k) :: r, x, h => by
    have ih := @relabel_free env r x
    show List.lookup x ((if (k == NameKind.free && env.scope.kind == .function && env.kindOf n == some .cell) = true then (n, NameKind.cell) else (n, k)) :: _) = _ ∨ List.lookup x ((if (k == NameKind.free && env.scope.kind == .function && env.kindOf n == some .cell) = true then (n, NameKind.cell) else (n, k)) :: _) = _
    rw [List.lookup_cons] at h
    by_cases hc : (k == NameKind.free && env.scope.kind == .function && env.kindOf n == some .cell) = true
    · rw [if_pos hc, List.lookup_cons]
      cases hx : x == n with
      | true => exact .inl rfl
      | false => rw [hx] at h; exact ih h
    · rw [if_neg hc, List.lookup_cons]
      cases hx : x == n with
      | true => rw [hx] at h; exact .inr h
      | false => rw [hx] at h; exact ih h

/-- what is told of a comprehension's own scope: xs its own names, ys the names that it takes from around -/
structure LcScope (xs ys : List Str) (scope around : Scope) : Prop where
  kind : scope.kind = .function
  nd : (xs ++ ys).Nodup
  own : ∀ x ∈ xs, scope.names.lookup x = some .local
  cap : ∀ y ∈ ys, scope.names.lookup y = some .free ∧ (around.names.lookup y = some .cell ∨ around.names.lookup y = some .free)
  nocell : ∀ y ∈ scope.names, y.2 ≠ .cell
  names : ∀ y ∈ scope.names, y.2 = .local → scope.names.lookup y.1 = some .local
  free : ∀ y ∈ scope.names, y.2 = .free → y.1 ∈ ys

/-- the context of the block -/
def blockCx (X : Cx) (xs ys : List Str) (scope : Scope) (C : Addr) (s₀ : Shared) (H₀ : Hp) (fp : List Addr) : Cx where
  prog := X.prog
  w := X.w
  K := X.K
  mg := X.mg
  base := X.base
  A := X.A
  N := xs ++ ys
  s₀ := s₀
  H₀ := H₀
  env := compEnvC scope (closL X.env scope.names []) C X.env
  outer := X.stack
  stack := X.stack
  ex := fp
  fn := fun _ => false
  calm := X.calm
  pn := []
  xe := fun _ _ => False

/-- the values at the block's entry: its own names have none, the others those of the slots js -/
def lcSt (xs : List Str) (js : List Nat) (σ : St) : St := xs.map (fun _ => none) ++ js.map fun j => (σ[j]?).join
/-- a list comprehension over J: what holds between two turns, W, with a measure -/
def LcW (J : It) (n : List Str) (js : List Nat) (g : TG) (tc : Option TT) (te : TE) (σ : St) (H1 : Hp) (Q : VK) : Prop := ∃ W : Nat → Nat → List V → St → Hp → Prop, (∃ m, W 0 m [] (lcSt n js σ) H1) ∧ ∀ i m ys σ1 H, W i m ys σ1 H →
  (J.stop i H ∧ ∀ p, H p = none → Q (.ref p) (upd H p (.lst ys))) ∨
  (J.go i H ∧ ys.length < sizeLine ∧ ∀ x H', J.yld i H x H' → g x σ1 H' fun σ2 H2 => match tc with
    | none => te σ2 H2 fun y H3 => ∃ m', m' < m ∧ W (i + 1) m' (ys ++ [y]) σ2 H3
    | some c => c σ2 H2 fun b H3 => if b = true then te σ2 H3 fun y H4 => ∃ m', m' < m ∧ W (i + 1) m' (ys ++ [y]) σ2 H4 else ∃ m', m' < m ∧ W (i + 1) m' ys σ2 H3)
/-- a list comprehension's reading: its source, its target, its test (if there is one), its element -/
def tLC (n : List Str) (js : List Nat) (wi : TI) (g : TG) (tc : Option TT) (te : TE) : TE := fun σ H Q => wi σ H fun J H1 => LcW J n js g tc te σ H1 Q

/-- the tests as the walk takes them -/
def PIf (X : Cx) (ifs : List Expr) (tc : Option TT) : Prop := match ifs, tc with
  | [], none => True
  | [c], some t => PT X c t
  | _, _ => False
section
variable {X : Cx} {pins : List (Addr × Obj)} {σ : St} {H : Hp} {s : Shared} {xs ys : List Str} {scope : Scope} {fp : List Addr} {C D : Addr} {js : List Nat}
/-- the slots that the block takes over -/
def Caps (X : Cx) (ys : List Str) (js : List Nat) : Prop := js.length = ys.length ∧ ∀ (i : Nat) (y : Str) (j : Nat), ys[i]? = some y → js[i]? = some j → X.N[j]? = some y
theorem clos_ok (I : Inv X pins σ H s) (S : LcScope xs ys scope X.env.scope) : ∀ x ∈ scope.names, x.2 = .free → ∃ c, X.env.cells.lookup x.1 = some c := fun x hx hf =>
  I.ok.has x.1 ((S.cap x.1 (S.free x hx hf)).2.elim .inl .inr)
theorem clos_look (I : Inv X pins σ H s) (S : LcScope xs ys scope X.env.scope) {y : Str} {c : Addr} (e : (closL X.env scope.names []).lookup y = some c) : X.env.cells.lookup y = some c :=
  closL_lookup scope.names [] (clos_ok I S) (fun _ _ z => nomatch z) e
theorem block_start (I : Inv X pins σ H s) (S : LcScope xs ys scope X.env.scope) (hj : Caps X ys js) (f2 : ∀ b ∈ fp, FpOk X pins H b) (fo : ∀ b ∈ fp, b < s.heap.objs.size)
    {h₁ : Heap} {m : Str → Option Value} {tk : Nat} {oD : Obj} (hC : s.heap.objs.size ≤ C) (hD : s.heap.objs.size ≤ D) (hDC : D ≠ C) (hn : h₁.Ns C m) (hd : h₁.get? D = some oD) (hdd : ∀ v, oD.data ≠ .cell v)
    (old : ∀ b o, s.heap.get? b = some o → h₁.get? b = some o) :
    Inv (blockCx X xs ys scope C s H fp) [(D, oD)] (lcSt xs js σ) H { s with heap := h₁, toks := tk } := by
  have cl := fun y c => clos_look (y := y) (c := c) I S
  have nC : H C = none := I.hok.fresh hC
  have nD : H D = none := I.hok.fresh hD
  have lt_of : ∀ {b : Addr}, b < s.heap.objs.size → b ≠ C := fun hb => Nat.ne_of_lt (Nat.lt_of_lt_of_le hb hC)
  have fsub : ∀ b, b ∈ frs X.stack → b ∈ X.env.locals :: X.fs := I.stkSub
  refine ⟨⟨I.ok.mod, ?_, I.ok.glob, I.ok.blt, hC, fun x y c h1 h2 => I.ok.inj x y c (cl x c h1) (cl y c h2), fun x hx => ?_, (fun x c h => nomatch h), I.ok.hd, I.ok.frames, .inl rfl, fun b hb => ⟨lt_of (fo b hb), fun x c h => (f2 b hb).2.2.2.2.1 x c (cl x c h)⟩, I.bs,
    Nat.le_trans I.ok.bsz I.sz, fun b o e hb => ?_, fun b hb hf => ?_, I.stack, I.stkFree⟩,
    rfl, I.bare, Un.kept old, ⟨m, hn, fun i x v e1 e2 e3 => ?_⟩, fun x c h => ?_, nC, fun x c h => I.freeC x c (cl x c h), fun p hp => ?_, I.hok.kept old, ?_⟩
  · show scope.kind = _
    exact S.kind
  · have hx : (relabel scope X.env).names.lookup x = some .cell ∨ (relabel scope X.env).names.lookup x = some .free := hx
    have hm : (x, NameKind.free) ∈ scope.names := by
      rcases hx with hx | hx
      · rcases lookup_relabel hx with z | z
        · exact absurd rfl (S.nocell _ (PySem.mem_of_lookup z))
        · exact PySem.mem_of_lookup z.1
      · rcases lookup_relabel hx with z | z
        · exact PySem.mem_of_lookup z
        · exact nomatch z.2
    exact closL_has scope.names [] (.inl hm)
  · rcases (f2 b hb).2.2.2.1 with z | z
    · exact I.ok.noex b o e z
    · exact absurd (Nat.lt_of_lt_of_le (Heap.lt_size e) (Nat.le_trans I.ok.bsz z)) (Nat.lt_irrefl _)
  · rcases List.mem_cons.mp (fsub b hf) with z | z
    · exact (f2 b hb).2.1 z
    · exact (f2 b hb).2.2.1 z
  · have e1 : (xs ++ ys)[i]? = some x := e1
    have e2 : (xs.map (fun _ => (none : Option V)) ++ js.map fun j => (σ[j]?).join)[i]? = some (some v) := e2
    by_cases hi : i < xs.length
    · rw [List.getElem?_append_left (by simpa using hi), List.getElem?_map] at e2
      cases q : xs[i]? with
      | none => rw [q] at e2; cases e2
      | some z => rw [q] at e2; cases e2
    · rw [List.getElem?_append_right (by simpa using hi), List.length_map, List.getElem?_map] at e2
      rw [List.getElem?_append_right (by simpa using hi)] at e1
      cases q : js[i - xs.length]? with
      | none => rw [q] at e2; cases e2
      | some j =>
        rw [q] at e2
        have e2' : (σ[j]?).join = some v := Option.some.inj e2
        have hy := hj.2 _ _ _ e1 q
        have hσ : σ[j]? = some (some v) := by
          cases z : σ[j]? with
          | none => rw [z] at e2'; cases e2'
          | some t => rw [z] at e2'; exact congrArg some e2'
        have ym : x ∈ ys := List.mem_of_getElem? e1
        obtain ⟨cf, ca⟩ := S.cap x ym
        obtain ⟨m0, _, hl⟩ := I.loc
        obtain ⟨u, ru, lk⟩ := hl j x v hy hσ (ca.elim (fun z => .inr (.inl z)) fun z => .inr (.inr z))
        refine ⟨u, ru, .inr ⟨?_, ?_⟩⟩
        · exact relabel_free (env := X.env) cf
        · rcases lk with ⟨k, _⟩ | ⟨_, c, ec, zc⟩
          · have k : X.env.scope.names.lookup x = some .local := k
            rcases ca with z | z <;> · rw [k] at z; cases z
          · obtain ⟨c', ec'⟩ := closL_has (env := X.env) (y := x) scope.names [] (.inl (PySem.mem_of_lookup cf))
            have e3 := cl x c' ec'
            rw [ec] at e3
            cases e3
            obtain ⟨o, ho, hod⟩ := zc
            exact ⟨_, ec', o, old _ _ ho, hod⟩
  · obtain ⟨v, o, ho, hod⟩ := I.cell x c (cl x c h)
    exact ⟨v, o, old _ _ ho, hod⟩
  · have hp : p ∈ [(D, oD)] := by simpa [blockCx] using hp
    have e := List.mem_singleton.mp hp
    subst e
    refine ⟨hd, nD, hDC, fun hf => ?_, hdd⟩
    have hf : D ∈ frs X.stack := hf
    obtain ⟨o, ho⟩ : ∃ o, s.heap.get? D = some o := by
      rcases List.mem_cons.mp (fsub D hf) with z | z
      · obtain ⟨m0, ⟨o, _, _, ho, _⟩, _⟩ := I.loc
        have z : D = X.env.locals := z
        exact ⟨o, z ▸ ho⟩
      · exact absurd z (I.nofs hD)
    exact absurd (Heap.lt_size ho) (Nat.not_lt.mpr hD)
  · show (xs.map (fun _ => (none : Option V)) ++ js.map fun j => (σ[j]?).join).length = (xs ++ ys).length
    rw [List.length_append, List.length_append, List.length_map, List.length_map, hj.1]
end
section
variable {X : Cx} {pins : List (Addr × Obj)} {σ : St} {H : Hp} {s : Shared} {xs ys : List Str} {scope : Scope} {js : List Nat} {tg iter elt : Expr} {ifs : List Expr} {pos : Pos} {wi : TI} {g : TG} {tc : Option TT} {te : TE}
theorem wp_no {α : Type} {M : Model} {A : Around} {t : Sem α} {Q : α → Shared → Prop} {E : Value → Shared → Prop} {s : Shared} (h : wpAny M A t Q (fun _ _ => False) s) : wpAny M A t Q E s := wpAny_mono h (fun _ _ x => x) fun _ _ z => z.elim
/-- the turn of a list comprehension, any target -/
theorem compLoop_any {prog : Program} {w : World} {A : Around} {R : Result → Shared → Prop} {it acc : Value} {env : Env} (J : Nat → Shared → Prop)
    (turn : ∀ n s, J n s → wpAny (model prog w) A (pyNext it) (fun r s₁ => match r with
      | none => R (.ok .next) s₁
      | some v => wpAny (model prog w) A (letOwnedTupleGo tg it v) (fun _ s₁' => wpAny (model prog w) A (assign tg env v) (fun _ s₂ =>
          wpAny (model prog w) A (forIn ifs true fun c r => if r = true then do let ok ← isTrue c env (eval c env); pure (ForInStep.yield ok) else pure (ForInStep.yield r)) (fun ok s₃ =>
            if ok = true then wpAny (model prog w) A (eval elt env) (fun x s₄ =>
              wpAny (model prog w) A (call (.builtin "list.append") [acc, x]) (fun _ s₅ => ∃ m, m < n ∧ J m s₅) (fun _ _ => False) s₄) (fun _ _ => False) s₃
            else ∃ m, m < n ∧ J m s₃) (fun _ _ => False) s₂) (fun _ _ => False) s₁') (fun _ _ => False) s₁) (fun _ _ => False) s)
    (n : Nat) (h : J n s) : codeAny (model prog w) A (.compLoop (.ListComp elt [⟨tg, iter, ifs, 0⟩] scope pos) 0 it acc env) R s := by
  refine codeAny_loop rfl J (fun n s hI => ?_) n h
  show wpAny _ A ((compTurn (.ListComp elt [⟨tg, iter, ifs, 0⟩] scope pos) 0 it acc env).onRaise (fun x => do noteFrame x env; theTreesLotGoes x)) _ _ s
  refine wpAny_noted ?_
  rw [compTurn_list]
  refine wpAny_bind (wpAny_standAt (wpAny_bind (wp_no (thn (turn n s hI) fun r s₁ h₁ => ?_))))
  cases r with
  | none => exact wpAny_pure h₁
  | some v =>
    refine wpAny_bind (wp_no (thn h₁ fun _ s₁' h₁' => wpAny_bind (wp_no (thn h₁' fun _ s₂ h₂ => wpAny_bind (wp_no (thn h₂ fun ok s₃ h₃ => ?_))))))
    cases ok with
    | false => exact wpAny_pure ⟨rfl, h₃⟩
    | true => exact wpAny_bind (wpAny_bind (wp_no (thn h₃ fun x s₄ h₄ => wpAny_bind (wp_no (thn h₄ fun _ s₅ h₅ => wpAny_pure (wpAny_pure ⟨rfl, h₅⟩))))))
/-- what is left behind a comprehension: the list at D, the block's own namespace at C -/
structure LcEnd (X : Cx) (pins : List (Addr × Obj)) (σ : St) (C : Addr) (H' : Hp) (s' : Shared) : Prop where
  inv : Inv X pins σ H' s'
  ns : ∃ m, s'.heap.Ns C m
  free : H' C = none
  ne : C ≠ X.env.locals
  up : X.s₀.heap.objs.size ≤ C
  cells : ∀ x c, X.env.cells.lookup x = some c → c ≠ C
  pin : ∀ p ∈ X.pn ++ pins, p.1 ≠ C
theorem LcEnd.gone {C : Addr} {H' : Hp} {s' : Shared} (L : LcEnd X pins σ C H' s') {h' : Heap} (hs : Heap.SameBut C s'.heap h') : Inv X pins σ H' { s' with heap := h' } :=
  L.inv.turned (t' := s'.toks) (fun b o hb e => hs.extBut b o hb e) L.free L.ne (.inr L.up) L.cells L.pin
theorem lc_core (hc : X.calm = true) (S : LcScope xs ys scope X.env.scope) (hj : Caps X ys js) (hi : PI X tg iter wi)
    (hg : ∀ C s₀ H₀ fp, PG (blockCx X xs ys scope C s₀ H₀ fp) tg g) (hif : ∀ C s₀ H₀ fp, PIf (blockCx X xs ys scope C s₀ H₀ fp) ifs tc) (he : ∀ C s₀ H₀ fp, PE (blockCx X xs ys scope C s₀ H₀ fp) elt te)
    {RR : Value → Addr → Result → Shared → Prop} {Q : VK} (I : Inv X pins σ H s) (h : tLC xs js wi g tc te σ H Q)
    (fin : ∀ D C H' s', LcEnd X pins σ C H' s' → Q (.ref D) H' → RR (.ref D) C (.ok .next) s') :
    wpAny (model X.prog X.w) X.A (eval iter X.env) (fun x s₁ => wpAny (model X.prog X.w) X.A (pyIter x) (fun it s₂ => wpAny (model X.prog X.w) X.A (newList []) (fun acc s₃ =>
      wpAny (model X.prog X.w) X.A (newFunctionEnv scope X.env.globals (closL X.env scope.names []) [] X.env.qual none .none (some X.env)) (fun cenv s₄ =>
        codeAny (model X.prog X.w) X.A (.compStart (.ListComp elt [⟨tg, iter, ifs, 0⟩] scope pos) 0 it acc { cenv with scope := relabel scope X.env }) (RR acc cenv.locals) s₄) X.xe s₃) X.xe s₂) X.xe s₁) X.xe s := by
  refine thn (hi pins s σ H _ I h) fun v s1 h1 => thn h1 fun itv s2 h2 => ?_
  obtain ⟨it, fp, tn, J, H2, e, I2, T, st2, f2, W, ⟨m0, w0⟩, turn⟩ := h2
  subst e
  have fo : ∀ b ∈ fp, b < s2.heap.objs.size := fun b hb => let ⟨o, e, _⟩ := T.obj _ _ st2 b hb; Heap.lt_size e
  refine wpAny_newObj_type (wpAny_newFunctionEnv S.nocell (by intro y hy; simp at hy) (fun h₁ hns₁ hsb₁ => ?_) S.kind)
  dsimp only at hns₁ hsb₁ ⊢
  generalize hH2 : s2.heap.push { cls := .type "list", dict := none, data := .seq ([] : List Value).toArray } = G at hns₁ hsb₁ ⊢
  have hC : G.objs.size = s2.heap.objs.size + 1 := by rw [← hH2, Heap.size_push]
  have hDC : s2.heap.objs.size ≠ G.objs.size := by rw [hC]; exact Nat.ne_of_lt (Nat.lt_succ_self _)
  have hCle : s2.heap.objs.size ≤ G.objs.size := by rw [hC]; exact Nat.le_succ _
  have below : ∀ b, b < s2.heap.objs.size → b ≠ G.objs.size ∧ b ≠ s2.heap.objs.size := fun b hb => ⟨by rw [hC]; exact Nat.ne_of_lt (Nat.lt_succ_of_lt hb), Nat.ne_of_lt hb⟩
  have old : ∀ b o, s2.heap.get? b = some o → h₁.get? b = some o := fun b o e => hsb₁.extBut b o (below b (Heap.lt_size e)).1 (Heap.get?_push_of_some _ (hH2 ▸ Heap.get?_push_of_some _ e))
  have hacc : h₁.get? s2.heap.objs.size = some (LCg.lst []) := hsb₁.extBut _ _ hDC (Heap.get?_push_of_some _ (hH2 ▸ Heap.get?_push_size _ rfl))
  have st₁ : tn 0 h₁ := T.keep _ _ _ st2 fun b _ o e => old b o e
  have I3 := block_start (C := G.objs.size) (D := s2.heap.objs.size) (tk := s2.toks + ([] : List (Str × Value)).length) I2 S hj f2 fo hCle (Nat.le_refl _) hDC hns₁ hacc (by intro v hv; cases hv) old
  generalize hX : blockCx X xs ys scope G.objs.size s2 H2 fp = B at I3
  have pB : B.prog = X.prog := by rw [← hX]; rfl
  have wB : B.w = X.w := by rw [← hX]; rfl
  have kB : B.K = X.K := by rw [← hX]; rfl
  have aB : B.A = X.A := by rw [← hX]; rfl
  have eB : B.env = compEnvC scope (closL X.env scope.names []) G.objs.size X.env := by rw [← hX]; rfl
  have cB : B.calm = true := by rw [← hX]; exact hc
  have xB : B.xe = fun _ _ => False := by rw [← hX]; rfl
  have gB : PG B tg g := by rw [← hX]; exact hg _ _ _ _
  have iB : PIf B ifs tc := by rw [← hX]; exact hif _ _ _ _
  have elB : PE B elt te := by rw [← hX]; exact he _ _ _ _
  have sB : B.s₀ = s2 := by rw [← hX]; rfl
  have hB : B.H₀ = H2 := by rw [← hX]; rfl
  have fB : B.fs = frs X.stack := by rw [← hX]; rfl
  have exB : B.ex = fp := by rw [← hX]; rfl
  have pnB : B.pn = [] := by rw [← hX]; rfl
  have statB : ∀ {H' : Hp} {oD : Obj} {σ' : St} {s' : Shared}, Inv B [(s2.heap.objs.size, oD)] σ' H' s' → (∀ b ∈ fp, H' b = none) → ∀ b ∈ fp, FpOk B [(s2.heap.objs.size, oD)] H' b := fun {H' oD σ' s'} I' hn b hb =>
    ⟨hn b hb, (I'.ok.exf b (exB ▸ hb)).1, I'.ok.exfs b (exB ▸ hb), .inl (exB ▸ hb), (I'.ok.exf b (exB ▸ hb)).2, fun p hp => by
      rw [pnB] at hp
      have e := List.mem_singleton.mp (show p ∈ [(s2.heap.objs.size, oD)] from hp)
      subst e
      exact Nat.ne_of_gt (fo b hb)⟩
  have loop : ∀ s₃ : Shared, s₃ = { s2 with heap := h₁, toks := s2.toks + ([] : List (Str × Value)).length } →
      codeAny (model X.prog X.w) X.A (.compLoop (.ListComp elt [⟨tg, iter, ifs, 0⟩] scope pos) 0 (.ref it) (.ref s2.heap.objs.size) (compEnvC scope (closL X.env scope.names []) G.objs.size X.env)) (RR (.ref s2.heap.objs.size) G.objs.size) s₃ := by
    rintro s₃ rfl
    refine compLoop_any (fun n s' => ∃ i ys its σ1 H', Inv B [(s2.heap.objs.size, LCg.lst its)] σ1 H' s' ∧ Vals ys its ∧ tn i s'.heap ∧ (∀ b ∈ fp, H' b = none) ∧ ys.length ≤ sizeLine ∧ W i n ys σ1 H') ?_ m0
      ⟨0, [], [], _, H2, I3, .nil, st₁, fun b hb => (f2 b hb).1, Nat.zero_le _, w0⟩
    rintro n s' ⟨i, ys', its, σ1, H', I', rv, st', fr', hz, w'⟩
    have rl := rv.length
    rcases turn i n ys' σ1 H' w' with ⟨stop, qn⟩ | ⟨go, hz', step⟩
    · have q := T.done B pB wB kB cB i _ s' σ1 H' (fun _ _ => False) I' (statB I' fr') st' stop
      rw [aB] at q
      refine thn q fun r s4 ⟨hr, I4⟩ => ?_
      subst hr
      have pD := (I4.pin (s2.heap.objs.size, LCg.lst its) (List.mem_append_right _ List.mem_cons_self))
      have hDn : H' s2.heap.objs.size = none := pD.2.1
      have ub := I4.base
      rw [fB, exB, hB, sB] at ub
      have neD : ∀ {b : Addr} {o : HO}, H' b = some o → b ≠ s2.heap.objs.size := fun e z => by rw [z, hDn] at e; cases e
      have upk : ∀ {b : Addr} {o : HO}, H' b = some o → upd H' s2.heap.objs.size (.lst ys') b = some o := fun e => by rw [upd_ne (neD e)]; exact e
      have u : Un (frs X.stack) fp H2 (upd H' s2.heap.objs.size (.lst ys')) s2.heap s4.heap :=
        ⟨ub.keep, ub.slot, fun b o e n hx => by rw [upd_ne (below b (Heap.lt_size e)).2]; exact ub.free b o e n hx, ub.there, fun b zs e => upk (ub.tups b zs e), fun b o zs e => upk (ub.frzs b o zs e), fun b ps e => let ⟨more, q⟩ := ub.tbls b ps e; ⟨more, upk q⟩⟩
      have hok4 : HOk X.prog X.w H' s4.heap := by have := I4.hok; rw [pB, wB] at this; exact this
      have hok : HOk X.prog X.w (upd H' s2.heap.objs.size (.lst ys')) s4.heap := fun b o e => by
        by_cases hb : b = s2.heap.objs.size
        · subst hb
          rw [upd_same] at e
          cases e
          exact ⟨hz, its, its.length, rv, pD.1⟩
        · rw [upd_ne hb] at e
          exact (hok4 b o e).stay (fun _ _ _ q => q) (fun _ q => upk q) fun _ _ q => upk q
      have I5 : Inv X pins σ (upd H' s2.heap.objs.size (.lst ys')) s4 := I2.call' (ch := fp) (by rw [I4.os, sB]) u hok I4.bare fun b hb => let f := f2 b hb; ⟨f.2.2.2.1, f.2.1, f.2.2.2.2.1, f.2.2.2.2.2⟩
      refine fin s2.heap.objs.size G.objs.size _ s4 ⟨I5, ?_, ?_, ?_, Nat.le_trans I2.sz hCle, fun x c e z => ?_, fun p hp z => ?_⟩ (qn _ hDn)
      · obtain ⟨m, hn, _⟩ := I4.loc
        rw [eB] at hn
        exact ⟨m, hn⟩
      · have fr := I4.free
        rw [eB] at fr
        rw [upd_ne (Ne.symm hDC)]
        exact fr
      · exact Ne.symm (below _ I2.lt).1
      · obtain ⟨_, o, ho, _⟩ := I2.cell x c e
        exact (below c (Heap.lt_size ho)).1 z
      · exact (below p.1 (Heap.lt_size (I2.pin p hp).1)).1 z
    · have q := T.item B pB wB kB cB i _ s' σ1 H' (fun _ _ => False) I' (statB I' fr') st' go
      rw [aB] at q
      refine thn q fun r s4 ⟨u, hr, h4⟩ => ?_
      subst hr
      refine thn h4 fun _ s5 ⟨x, H5, I5, r5, y5, st5, fr5⟩ => ?_
      have I5' := I5.pinned (statB I5 fr5) (T.obj _ _ st5)
      have q5 := gB _ s5 σ1 H5 x u _ I5' r5 (step x H5 y5)
      rw [pB, wB, aB, eB, xB] at q5
      refine thn q5 fun _ s6 ⟨σ6, H6, I6, q6⟩ => ?_
      -- the element and the append
      have last : ∀ {s7 : Shared} {H7 : Hp}, Inv B ([(s2.heap.objs.size, LCg.lst its)] ++ pinsAt fp s5.heap) σ6 H7 s7 → (te σ6 H7 fun y H8 => ∃ m', m' < n ∧ W (i + 1) m' (ys' ++ [y]) σ6 H8) →
          wpAny (model X.prog X.w) X.A (eval elt (compEnvC scope (closL X.env scope.names []) G.objs.size X.env)) (fun x s₄ =>
              wpAny (model X.prog X.w) X.A (call (.builtin "list.append") [.ref s2.heap.objs.size, x]) (fun _ s₅ => ∃ m, m < n ∧
                ∃ i ys its σ1 H', Inv B [(s2.heap.objs.size, LCg.lst its)] σ1 H' s₅ ∧ Vals ys its ∧ tn i s₅.heap ∧ (∀ b ∈ fp, H' b = none) ∧ ys.length ≤ sizeLine ∧ W i m ys σ1 H') (fun _ _ => False) s₄) (fun _ _ => False) s7 := fun {s7 H7} I7 q7 => by
        have q8 := elB _ s7 σ6 H7 _ I7 q7
        rw [pB, wB, aB, eB, xB] at q8
        refine thn q8 fun uy s8 ⟨y, H8, I8, r8, m', hm', w8⟩ => ?_
        have pD := (I8.pin (s2.heap.objs.size, LCg.lst its) (List.mem_append_right _ (List.mem_append_left _ List.mem_cons_self)))
        refine append_at (its := its.toArray) (n := its.length) pD.1 (fun h9 hs9 hd9 => ?_) (by rw [List.size_toArray, ← rl]; exact hz)
        have dropped : Inv B (pinsAt fp s5.heap) σ6 H8 s8 := I8.pins_of fun p hp => I8.pin p (List.mem_append_right _ (List.mem_append_right _ hp))
        have apart : ∀ p ∈ B.pn ++ pinsAt fp s5.heap, p.1 ≠ s2.heap.objs.size := fun p hp => by
          rw [pnB] at hp
          exact Nat.ne_of_lt (fo _ (of_pinsAt (show p ∈ pinsAt fp s5.heap from hp)).1)
        have I9 : Inv B (pinsAt fp s5.heap) σ6 H8 { s8 with heap := h9 } := dropped.turned (t' := s8.toks) (fun b o hb e => hs9.extBut b o hb e) pD.2.1 pD.2.2.1 (.inr (by rw [sB]; exact Nat.le_refl _)) (fun x c e => by
          intro z
          obtain ⟨v, o, ho, hd⟩ := I8.cell x c e
          rw [z, pD.1] at ho
          cases ho
          cases hd) apart
        have I9' : Inv B [(s2.heap.objs.size, LCg.lst (its ++ [uy]))] σ6 H8 { s8 with heap := h9 } := I9.pins_of fun p hp => by
          have e := List.mem_singleton.mp hp
          subst e
          exact ⟨hd9.trans (congrArg some (LCg.lst_snoc its uy)), pD.2.1, pD.2.2.1, pD.2.2.2.1, by intro v hv; cases hv⟩
        refine ⟨m', hm', i + 1, ys' ++ [y], its ++ [uy], σ6, H8, I9', Vals.append rv (.cons r8 .nil), T.keep _ _ _ st5 fun b hb o e => ?_, fun b hb => ?_, by rw [List.length_append]; exact hz', w8⟩
        · exact (I9.pin (b, o) (List.mem_append_right _ (mem_pinsAt hb e))).1
        · obtain ⟨o, e, d⟩ := T.obj _ _ st5 b hb
          exact (I9.pin (b, o) (List.mem_append_right _ (mem_pinsAt hb e))).2.1
      have again : ∀ {s7 : Shared} {H7 : Hp}, Inv B ([(s2.heap.objs.size, LCg.lst its)] ++ pinsAt fp s5.heap) σ6 H7 s7 → (∃ m', m' < n ∧ W (i + 1) m' ys' σ6 H7) → ∃ m, m < n ∧
          ∃ i ys its σ1 H', Inv B [(s2.heap.objs.size, LCg.lst its)] σ1 H' s7 ∧ Vals ys its ∧ tn i s7.heap ∧ (∀ b ∈ fp, H' b = none) ∧ ys.length ≤ sizeLine ∧ W i m ys σ1 H' := fun {s7 H7} I7 ⟨m', hm', w7⟩ => by
        refine ⟨m', hm', i + 1, ys', its, σ6, H7, I7.unpinned, rv, T.keep _ _ _ st5 fun b hb o e => (I7.pin (b, o) (List.mem_append_right _ (List.mem_append_right _ (mem_pinsAt hb e)))).1, fun b hb => ?_, hz, w7⟩
        obtain ⟨o, e, d⟩ := T.obj _ _ st5 b hb
        exact (I7.pin (b, o) (List.mem_append_right _ (List.mem_append_right _ (mem_pinsAt hb e)))).2.1
      match ifs, tc, iB, q6 with
      | [], none, _, q6 =>
        refine wpAny_tests_nil ?_
        rw [if_pos rfl]
        exact last I6 q6
      | [c], some t, iB, q6 =>
        have iB : PT B c t := iB
        have q7 := iB _ s6 σ6 H6 _ I6 q6
        rw [pB, wB, aB, eB, xB] at q7
        refine wpAny_tests_one (thn q7 fun b s7 ⟨H7, I7, q7⟩ => ?_)
        cases b with
        | true => rw [if_pos rfl] at q7 ⊢; exact last I7 q7
        | false => rw [if_neg Bool.false_ne_true] at q7 ⊢; exact again I7 q7
  exact codeAny_compStart_list (loop _ rfl) (T.self _ 0 _ _ _ st₁ (loop _ rfl))
/-- [elt for tg in iter], [elt for tg in iter if c] -/
theorem pe_lc (hc : X.calm = true) (S : LcScope xs ys scope X.env.scope) (hj : Caps X ys js) (hi : PI X tg iter wi)
    (hg : ∀ C s₀ H₀ fp, PG (blockCx X xs ys scope C s₀ H₀ fp) tg g) (hif : ∀ C s₀ H₀ fp, PIf (blockCx X xs ys scope C s₀ H₀ fp) ifs tc) (he : ∀ C s₀ H₀ fp, PE (blockCx X xs ys scope C s₀ H₀ fp) elt te)
    (hs : ∀ x, foldedSetIterable iter X.env x = pure x := by intro _; rfl) : PE X (.ListComp elt [⟨tg, iter, ifs, 0⟩] scope pos) (tLC xs js wi g tc te) := by
  intro pins s σ H Q I h
  rw [eval_ListComp]
  refine wpAny_comprehension_free (use := none) rfl hs (closureFor_is (clos_ok I S)) S.kind S.names ?_
  refine lc_core (RR := fun acc C => compPost (model X.prog X.w) X.A X.xe none (EP X pins σ Q) acc C) hc S hj hi hg hif he I h fun D C H' s' L q => ?_
  obtain ⟨m, hn⟩ := L.ns
  exact ⟨m, hn, fun h'' hs'' => ⟨.ref D, H', L.gone hs'', rfl, q⟩⟩
/-- name = [elt for tg in iter ..], a plain local name on the same row -/
theorem ps_setLC {i : Nat} {x : Str} {p' p : Pos} (hN : X.N.Nodup) (hx : X.N[i]? = some x) (hl : X.env.scope.names.lookup x = some .local) (hc : X.calm = true) (S : LcScope xs ys scope X.env.scope) (hj : Caps X ys js) (hi : PI X tg iter wi)
    (hg : ∀ C s₀ H₀ fp, PG (blockCx X xs ys scope C s₀ H₀ fp) tg g) (hif : ∀ C s₀ H₀ fp, PIf (blockCx X xs ys scope C s₀ H₀ fp) ifs tc) (he : ∀ C s₀ H₀ fp, PE (blockCx X xs ys scope C s₀ H₀ fp) elt te)
    (hsw : swapsWith (.ListComp elt [⟨tg, iter, ifs, 0⟩] scope pos) (some (.Name x p')) p.line X.env = pure true := by rfl)
    (hs : ∀ x, foldedSetIterable iter X.env x = pure x := by intro _; rfl) : PS X (.Assign [.Name x p'] (.ListComp elt [⟨tg, iter, ifs, 0⟩] scope pos) p) (tAsg (tLC xs js wi g tc te) (gName i)) := by
  intro pins s σ H D I h
  rw [exec_Assign_Name_used _ _ _ _ hsw]
  refine wpAny_bind (wpAny_standAt (wpAny_bind ?_))
  show wpAny _ X.A (do let _ ← comprehension (.ListComp elt [⟨tg, iter, ifs, 0⟩] scope pos) scope X.env _ (newList []) false (eval iter X.env) (some (assign (.Name x p') X.env))) _ _ s
  refine wpAny_bind (wpAny_mono (wpAny_comprehension_free (use := some (assign (.Name x p') X.env)) (Q := fun _ s' => SP X pins D .next s') rfl hs (closureFor_is (clos_ok I S)) S.kind S.names ?_) (fun _ s' hq => wpAny_pure (wpAny_pure hq)) fun _ _ e => e)
  refine lc_core (Q := fun v H' => gName i v σ H' D.nx) (RR := fun acc C => compPost (model X.prog X.w) X.A X.xe (some (assign (.Name x p') X.env)) (fun _ s' => SP X pins D .next s') acc C) hc S hj hi hg hif he I h fun A C H' s' L q => ?_
  show wpAny _ X.A (assign (.Name x p') X.env (.ref A)) _ _ _
  refine wpAny_assign_Name (store_ok2 (v := .ref A) L.inv hN hx (.inl hl) rfl (fun s'' I'' ⟨a, sb, ha⟩ => ?_) (.inr hl))
  have cne : ∀ {b : Addr}, (b = X.env.locals ∨ X.env.cells.lookup x = some b) → C ≠ b := fun z e => by
    rcases z with z | z
    · exact L.ne (e.trans z)
    · exact L.cells x _ z e.symm
  obtain ⟨m, hn⟩ := L.ns
  refine ⟨m, hn.sameBut sb (cne ha), fun h'' hs'' => ⟨_, _, ?_, q⟩⟩
  exact LcEnd.gone ⟨I'', ⟨m, hn.sameBut sb (cne ha)⟩, L.free, L.ne, L.up, L.cells, L.pin⟩ hs''
end
end L2
set_option Elab.async false
set_option linter.all false
set_option maxRecDepth 100000
namespace L2
open PySem PySem.Spec PyProof.Rows

/-! ### signs of a text, one by one -/
/-- the signs of a text, as texts -/
def Its (x : Str) : It := ⟨fun i _ => i < x.cps.size, fun i H v H' => H' = H ∧ ∃ c, x.cps[i]? = some c ∧ v = .str ⟨#[c]⟩, fun i _ => x.cps.size ≤ i⟩
section
variable {X : Cx} {tg : Expr}
theorem turn_walk {P : Program} {w : World} {K : PySem.W.Frag} {tg : Expr} {it : Addr} {n : Nat} {Pv : Nat → Value → Prop} {St : Nat → Heap → Prop} {J : It} {T : String}
    (W : ∀ A' : Around, A'.handled = none → Walks P w A' it [it] [it] n Pv St) (ho : ∀ i h, St i h → ∃ o vs, h.get? it = some o ∧ o.cls = .type T ∧ o.data = .fields vs)
    (hT : ["enumerate", "zip", "dict_itemiterator", "dict_reverseitemiterator", "odict_iterator", "itertools.zip_longest", "itertools.pairwise"].contains T = false)
    (hgo : ∀ i H, J.go i H → i < n) (hst : ∀ i H, J.stop i H → n ≤ i) (hy : ∀ i H u, Pv i u → ∃ x, RelV x u ∧ J.yld i H x H) (hself : ∀ (A : Around) (i : Nat) (s : Shared) (Q : Value → Shared → Prop) (E : Value → Shared → Prop), St i s.heap → Q (.ref it) s → wpAny (model P w) A (pyIter (.ref it)) Q E s) : Turn P w K tg J [it] it (fun i h => St i h ∧ i ≤ n) where
  mem := by simp
  obj := fun i h st b hb => by
    have e : b = it := by simpa using hb
    subst e
    obtain ⟨o, vs, e, c, d⟩ := ho i h st.1
    exact ⟨o, e, fun v z => by rw [d] at z; cases z⟩
  keep := fun i h h' st k => ⟨(W {} rfl).frame i h h' st.1 k, st.2⟩
  item := by
    intro X hP hw hK hc i pins s σ H E I hf st hg
    subst hP hw hK
    obtain ⟨f0, f1, f2, f3, f4, f5⟩ := hf it (by simp)
    refine (W X.A (I.ok.hd hc)).item i s _ _ (hgo i H hg) st.1 fun v h' tk hv st' k => ?_
    have I1 : Inv X pins σ H { s with heap := h', toks := tk } := I.turned (fun b o hb e => k b o (by simpa using hb) e) f0 f1 f3 f4 f5
    obtain ⟨o, vs, e, c, d⟩ := ho _ _ st'
    obtain ⟨x, rx, yx⟩ := hy i H v hv
    exact ⟨v, rfl, go_of (s := { s with heap := h', toks := tk }) e c d hT ⟨x, H, I1, rx, yx, ⟨st', hgo i H hg⟩, fun b hb => (hf b hb).1⟩⟩
  done := by
    intro X hP hw hK hc i pins s σ H E I hf st hg
    subst hP hw hK
    obtain ⟨f0, f1, f2, f3, f4, f5⟩ := hf it (by simp)
    have e : i = n := Nat.le_antisymm st.2 (hst i H hg)
    subst e
    exact (W X.A (I.ok.hd hc)).done s _ _ st.1 fun h' tk k => ⟨rfl, I.turned (fun b o hb e => k b o (by simpa using hb) e) f0 f1 f3 f4 f5⟩
  self := fun A i s Q E st q => hself A i s Q E st.1 q
def iStr (tl : TE) : TI := fun σ H R => tl σ H fun x H1 => ∃ z, x = .str z ∧ R (Its z) H1
theorem pi_str {l : Expr} {tl : TE} (hl : PE X l tl) : PI X tg l (iStr tl) := by
  intro pins s σ H R I h
  refine thn (hl pins s σ H _ I h) fun v s1 ⟨x, H1, I1, r1, z, e, q⟩ => ?_
  subst e
  obtain ⟨t, rfl⟩ := r1
  have go : ∀ (T : String) (o : Obj) (St : Nat → Heap → Prop), (∀ A' : Around, A'.handled = none → Walks X.prog X.w A' s1.heap.objs.size [s1.heap.objs.size] [s1.heap.objs.size] z.cps.size (SignAt z) St) →
      (∀ i h, St i h → ∃ o vs, h.get? s1.heap.objs.size = some o ∧ o.cls = .type T ∧ o.data = .fields vs) →
      (["enumerate", "zip", "dict_itemiterator", "dict_reverseitemiterator", "odict_iterator", "itertools.zip_longest", "itertools.pairwise"].contains T = false) → St 0 (s1.heap.push o) →
      (∀ (A : Around) (i : Nat) (s : Shared) (Q : Value → Shared → Prop) (E : Value → Shared → Prop), St i s.heap → Q (.ref s1.heap.objs.size) s → wpAny (model X.prog X.w) A (pyIter (.ref s1.heap.objs.size)) Q E s) →
      PIE X pins σ tg R (.ref s1.heap.objs.size) { s1 with heap := s1.heap.push o } := fun T o St W ho hT st hself => by
    have I2 : Inv X pins σ H1 { s1 with heap := s1.heap.push o } := I1.kept (t' := s1.toks) fun b u e => Heap.get?_push_of_some _ e
    refine ⟨_, [s1.heap.objs.size], _, Its z, H1, rfl, I2, turn_walk (J := Its z) W ho hT (fun _ _ h => h) (fun _ _ h => h) (fun i H u ⟨c, t', hc, hu⟩ => ⟨.str ⟨#[c]⟩, ⟨t', hu⟩, rfl, c, hc, rfl⟩) hself, ⟨st, Nat.zero_le _⟩, fun b hb => ?_, q⟩
    have e : b = s1.heap.objs.size := by simpa using hb
    subst e
    exact I1.fpOk (Nat.le_refl _) (I1.hok.fresh (Nat.le_refl _))
  cases ha : z.cps.all (· < 128)
  · exact wpAny_pyIter_wide ha (go _ _ _ (fun A' hA => Walks.strWide hA _ z t) (fun i h ⟨o, e, c, d⟩ => ⟨o, _, e, c, d⟩) (by decide) ⟨_, Heap.get?_push_size _ rfl, rfl, rfl⟩ fun A i s Q E st q => wpAny_pyIter_striter_wide st q)
  · exact wpAny_pyIter_ascii ha (go _ _ _ (fun A' hA => Walks.strAscii hA _ z t) (fun i h ⟨o, e, c, d⟩ => ⟨o, _, e, c, d⟩) (by decide) ⟨_, Heap.get?_push_size _ rfl, rfl, rfl⟩ fun A i s Q E st q => wpAny_pyIter_striter_ascii st q)
end
/-! ### a slice of a text -/
def rSlS : V → Option Int → Option Int → Hp → VK → Prop := fun x lo hi H Q => ∃ z, x = .str z ∧ z.length ≤ sizeLine ∧ Q (.str (Txt.slice z lo hi)) H
/-! ### sums, greatest, all -/
section
variable {X : Cx}
theorem part_of {v : Value} {o : Option Int} (p : IsPart v o) : ∃ l : Option (Int × Tok), v = partValue l ∧ o = l.map (·.1) := by
  cases p with
  | none => exact ⟨none, rfl, rfl⟩
  | int i t => exact ⟨some (i, t), rfl, rfl⟩
open PySem.Builtin PySem.Builtin.Str in
theorem sl_str : SlR X rSlS := by
  intro pins s σ H x v vl vu lo hi sl Q I rx hs pl pu h
  obtain ⟨z, rfl, hz, q⟩ := h
  obtain ⟨t, rfl⟩ := rx
  obtain ⟨l, rfl, rfl⟩ := part_of pl
  obtain ⟨u, rfl, rfl⟩ := part_of pu
  have key : (sliceMade z t l u none).post (EP X pins σ Q) s := by
    have e : Txt.slice z (l.map (·.1)) (u.map (·.1)) = if ((1 : Int) == 1 && (strSliceIndices (l.map (·.1)) (u.map (·.1)) 1 z.length).length == z.length) = true then z else ⟨((strSliceIndices (l.map (·.1)) (u.map (·.1)) 1 z.length).filterMap (z.cps[·]?)).toArray⟩ := rfl
    have h1 := Nat.le_trans (Txt.slice_le z (l.map (·.1)) (u.map (·.1))) hz
    rw [e] at h1 q
    show (if ((1 : Int) == 1 && (strSliceIndices (l.map (·.1)) (u.map (·.1)) 1 z.length).length == z.length) = true then Made.val (.str z t) else Made.str ⟨((strSliceIndices (l.map (·.1)) (u.map (·.1)) 1 z.length).filterMap (z.cps[·]?)).toArray⟩).post _ _
    exact post_val_or_str ⟨h1, fun t' k => ⟨.str (if ((1 : Int) == 1 && (strSliceIndices (l.map (·.1)) (u.map (·.1)) 1 z.length).length == z.length) = true then z else ⟨((strSliceIndices (l.map (·.1)) (u.map (·.1)) 1 z.length).filterMap (z.cps[·]?)).toArray⟩), H, I.tok k, ⟨t', rfl⟩, q⟩⟩
  exact ⟨"str", _, F.slot_str_getitem.lookup, typeIs_str _ _ _, wpAny_getItem_str_slice (l := l) (u := u) (st := none) hs rfl key⟩
def boolsOf (bs : List Bool) : List V := bs.map V.bl
theorem call_all : CallR X (.builtin "all") (fun xs H Q => X.calm = true ∧ ∃ (p : Addr) (bs : List Bool), xs = [.ref p] ∧ SqL X.K H p (bs.map V.bl) ∧ Q (.bl (bs.all id)) H) := by
  intro pins s σ H xs us Q I r h
  obtain ⟨hc, p, bs, rfl, hp, q⟩ := h
  obtain ⟨u, rfl, ru⟩ := vals1 r
  cases ru
  obtain ⟨its, rv, hl, hz⟩ := I.list hp
  have hlt : p < s.heap.objs.size := by obtain ⟨_, e, _⟩ := hl.isList; exact Heap.lt_size e
  have hlen := rv.length
  rw [List.length_map] at hlen
  refine call_all_walk (wpAny_pyIter_list hl.isList ?_)
  refine ⟨_, _, _, _, _, _, fun i => bs.getD i false, rfl, Walks.list (A := X.A.in1) (I.ok.hd hc) s.heap.objs.size p (Nat.ne_of_lt hlt) its.toArray, ⟨⟨_, Heap.get?_push_size _ rfl, rfl, rfl⟩, hl.isList.push _⟩, fun i v s' Q' E' hv q' => ?_, fun h' tk k => ?_⟩
  · have hv : its[i]? = some v := by simpa using hv
    have hi : i < bs.length := by
      have := (List.getElem?_eq_some_iff.mp hv).1
      omega
    obtain ⟨u', hu', ru'⟩ := rv.get (i := i) (x := .bl bs[i]) (by rw [List.getElem?_map, List.getElem?_eq_getElem hi]; rfl)
    rw [hv] at hu'
    cases hu'
    have e : v = Value.bool bs[i] := ru'
    subst e
    refine wpAny_truthy_bool ?_
    have e2 : bs.getD i false = bs[i] := by rw [List.getD_eq_getElem?_getD, List.getElem?_eq_getElem hi]; rfl
    rw [← e2]
    exact q'
  · refine ⟨.bl (bs.all id), H, ?_, ?_, q⟩
    · exact I.kept (h' := h') (t' := tk) fun b o e => k b o (by intro hm; have := List.mem_singleton.mp hm; exact absurd (this ▸ Heap.lt_size e) (Nat.lt_irrefl _)) (Heap.get?_push_of_some _ e)
    · have e : (List.range its.toArray.size).all (fun i => bs.getD i false) = bs.all id := by
        rw [List.size_toArray, ← hlen]
        rw [Bool.eq_iff_iff, List.all_eq_true, List.all_eq_true]
        constructor
        · intro a b hb
          obtain ⟨i, hi, rfl⟩ := List.getElem_of_mem hb
          have := a i (List.mem_range.mpr hi)
          rw [List.getD_eq_getElem?_getD, List.getElem?_eq_getElem hi] at this
          exact this
        · intro a i hi
          have hi := List.mem_range.mp hi
          rw [List.getD_eq_getElem?_getD, List.getElem?_eq_getElem hi]
          exact a _ (List.getElem_mem hi)
      show Value.bool _ = _
      rw [e]
theorem ints_pair : ∀ {ns : List Int} {its : List Value}, Vals (ns.map V.int) its → ∃ xs : Array (Int × Tok), its.toArray = intItems xs ∧ xs.toList.map (·.1) = ns
  | [], its, r => by
    rw [List.map_nil] at r
    cases r
    exact ⟨#[], by simp [intItems], rfl⟩
  | n :: ns, its, r => by
    rw [List.map_cons] at r
    cases r with
    | @cons a b as bs h t =>
      obtain ⟨xs, e, q⟩ := ints_pair t
      obtain ⟨tk, hb⟩ := (show ∃ tk, b = Value.int n tk from h)
      refine ⟨((n, tk) :: xs.toList).toArray, ?_, by simp [q]⟩
      have e2 : bs = (intItems xs).toList := by rw [← e]
      rw [hb, e2]
      simp [intItems]
theorem preSum_list (xs : Array (Int × Tok)) : ∀ k, k ≤ xs.size → preSum (numAt xs) k = ((xs.toList.map (·.1)).take k).sum
  | 0, _ => by simp [preSum]
  | k + 1, h => by
    have hk : k < (xs.toList.map (·.1)).length := by simp; omega
    rw [preSum, preSum_list xs k (by omega), List.take_succ_eq_append_getElem hk, List.sum_append]
    simp [numAt, show k < xs.size by omega]
/-- sum(list of ints) -/
theorem call_sumI : CallR X (.builtin "sum") (fun xs H Q => X.calm = true ∧ ∃ (p : Addr) (ns : List Int), xs = [.ref p] ∧ SqL X.K H p (ns.map V.int) ∧ (∀ k, k ≤ ns.length → -(2 ^ 62) ≤ (ns.take k).sum ∧ (ns.take k).sum < 2 ^ 62) ∧ (∀ n ∈ ns, -(2 ^ 62) ≤ n ∧ n < 2 ^ 62) ∧ Q (.int ns.sum) H) := by
  intro pins s σ H xs us Q I r h
  obtain ⟨hc, p, ns, rfl, hp, hb, hb2, q⟩ := h
  obtain ⟨u, rfl, ru⟩ := vals1 r
  cases ru
  obtain ⟨its, rv, hl, hz⟩ := I.list hp
  obtain ⟨xs, e1, e2⟩ := ints_pair rv
  have hn : xs.size = ns.length := by rw [← e2]; simp
  rw [e1] at hl
  refine sum_intList (I.ok.hd hc) hl.isList (fun j hj => ?_) fun h' tk t' k => ?_
  · have h1 := hb (j + 1) (by omega)
    have h2 : numAt xs j ∈ ns := by
      rw [← e2]
      simp only [numAt, Array.getElem?_eq_getElem hj, Option.map_some, Option.getD_some, List.mem_map]
      exact ⟨xs[j], by simp, rfl⟩
    have h3 := hb2 _ h2
    rw [preSum_list xs (j + 1) (by omega), e2]
    unfold InLong
    omega
  · refine ⟨.int ns.sum, H, I.kept k, ⟨t', ?_⟩, q⟩
    rw [preSum_list xs xs.size (Nat.le_refl _), e2, hn, List.take_length]
theorem best_max (f : Nat → Int) : ∀ k, (∀ i, i ≤ k → f i ≤ f (argBest (fun i j => decide (f i > f j)) k)) ∧ argBest (fun i j => decide (f i > f j)) k ≤ k
  | 0 => ⟨fun i hi => by have : i = 0 := by omega
                         subst this; exact Int.le_refl _, Nat.le_refl _⟩
  | k + 1 => by
    obtain ⟨h1, h2⟩ := best_max f k
    unfold argBest
    by_cases hc : f (k + 1) > f (argBest (fun i j => decide (f i > f j)) k)
    · rw [if_pos (decide_eq_true hc)]
      refine ⟨fun i hi => ?_, Nat.le_refl _⟩
      by_cases e : i = k + 1
      · subst e; exact Int.le_refl _
      · have := h1 i (by omega); omega
    · rw [if_neg (by simpa using hc)]
      refine ⟨fun i hi => ?_, by omega⟩
      by_cases e : i = k + 1
      · subst e; omega
      · exact h1 i (by omega)
def maxI : List Int → Int
  | [] => 0
  | [n] => n
  | n :: m :: r => max n (maxI (m :: r))
theorem maxI_ge : ∀ {ns : List Int} {n : Int}, n ∈ ns → n ≤ maxI ns
  | [a], n, h => by simp at h; subst h; exact Int.le_refl _
  | a :: b :: r, n, h => by
    rw [maxI]
    rcases List.mem_cons.mp h with h | h
    · subst h; omega
    · have := maxI_ge h; omega
theorem maxI_mem : ∀ {ns : List Int}, ns ≠ [] → maxI ns ∈ ns
  | [a], _ => by simp [maxI]
  | a :: b :: r, _ => by
    rw [maxI]
    have := maxI_mem (ns := b :: r) (by simp)
    by_cases h : a ≤ maxI (b :: r)
    · rw [Int.max_eq_right h]; exact List.mem_cons_of_mem _ this
    · rw [Int.max_eq_left (by omega)]; exact List.mem_cons_self
theorem maxI_is {ns : List Int} {v : Int} (h1 : v ∈ ns) (h2 : ∀ n ∈ ns, n ≤ v) : v = maxI ns :=
  Int.le_antisymm (maxI_ge h1) (h2 _ (maxI_mem (List.ne_nil_of_mem h1)))
/-- max(list of ints) -/
theorem call_maxI : CallR X (.builtin "max") (fun xs H Q => X.calm = true ∧ ∃ (p : Addr) (ns : List Int), xs = [.ref p] ∧ SqL X.K H p (ns.map V.int) ∧ ns ≠ [] ∧ Q (.int (maxI ns)) H) := by
  intro pins s σ H xs us Q I r h
  obtain ⟨hc, p, ns, rfl, hp, hne, q⟩ := h
  obtain ⟨u, rfl, ru⟩ := vals1 r
  cases ru
  obtain ⟨its, rv, hl, hz⟩ := I.list hp
  obtain ⟨xs, e1, e2⟩ := ints_pair rv
  have hn : xs.size = ns.length := by rw [← e2]; simp
  have h0 : 0 < xs.size := by rw [hn]; exact List.length_pos_iff.mpr hne
  rw [e1] at hl
  refine max_intList (I.ok.hd hc) hl.isList h0 fun v h' tk hv k => ?_
  obtain ⟨tk', rfl⟩ := intItems_at hv
  refine ⟨.int (maxI ns), H, I.kept k, ⟨tk', ?_⟩, q⟩
  have b := best_max (numAt xs) (xs.size - 1)
  have at_mem : ∀ i, i < xs.size → numAt xs i ∈ ns := fun i hi => by
    rw [← e2]
    simp only [numAt, Array.getElem?_eq_getElem hi, Option.map_some, Option.getD_some, List.mem_map]
    exact ⟨xs[i], by simp, rfl⟩
  have e3 : numAt xs (argBest (fun i j => decide (numAt xs i > numAt xs j)) (xs.size - 1)) = maxI ns := by
    refine maxI_is (at_mem _ (by omega)) fun n hn' => ?_
    rw [← e2] at hn'
    obtain ⟨y, hy, rfl⟩ := List.mem_map.mp hn'
    obtain ⟨i, hi, rfl⟩ := List.getElem_of_mem hy
    have hi' : i < xs.size := by simpa using hi
    have := b.1 i (by omega)
    simpa [numAt, hi'] using this
  rw [e3]
/-- isinstance(e, T), T a built-in type -/
def tIsi (K : PySem.W.Frag) (T : String) (te : TE) : TE := fun σ H Q => te σ H fun x H1 => ∃ t b, TyOf K H1 x t ∧ PySem.W.kitOne K t (.type T) = some b ∧ Q (.bl b) H1
theorem call_isi {T : String} : CallR X (.builtin "isinstance") (fun xs H Q => ∃ x t b, xs = [x, .ty T] ∧ TyOf X.K H x t ∧ PySem.W.kitOne X.K t (.type T) = some b ∧ Q (.bl b) H) := by
  intro pins s σ H xs us Q I r h
  obtain ⟨x, t, b, rfl, ty, e, q⟩ := h
  obtain ⟨u, w', rfl, ru, rw'⟩ := vals2 r
  cases rw'
  exact isinst_ok I ru ty e fun tk => ⟨.bl b, H, I.tok tk, rfl, q⟩
/-- sep.join(list of texts) -/
theorem strsAre_of : ∀ {ys : List Str} {us : List Value}, Vals (ys.map V.str) us → StrsAre us ys
  | [], us, r => by
    rw [List.map_nil] at r
    cases r
    exact .nil
  | y :: ys, us, r => by
    rw [List.map_cons] at r
    cases r with
    | @cons a b as bs h t =>
      obtain ⟨tk, hb⟩ := (show ∃ tk, b = Value.str y tk from h)
      subst hb
      exact .cons y tk (strsAre_of t)
theorem mt_join : MtR X "str.join" (fun x xs H Q => ∃ (z : Str) (p : Addr) (ys : List Str), x = .str z ∧ xs = [.ref p] ∧ SqL X.K H p (ys.map V.str) ∧ (ys.map (·.length)).sum + ys.length * z.length ≤ 16777216 ∧ Q (.str (Txt.join z ys)) H) := by
  intro pins s σ H x xs v us Q I rx rs h
  obtain ⟨z, p, ys, rfl, rfl, hp, hb, q⟩ := h
  obtain ⟨tz, rfl⟩ := rx
  obtain ⟨u, rfl, ru⟩ := vals1 rs
  cases ru
  obtain ⟨its, rv, hl, hz⟩ := I.list hp
  exact join_list hl.isList (strsAre_of rv) hb fun t' k => ⟨.str (Txt.join z ys), H, I.tok k, ⟨t', rfl⟩, q⟩
end
end L2
set_option Elab.async false
set_option linter.all false
set_option maxRecDepth 100000
namespace L2
open PySem PySem.Spec PyProof.Rows
/-! ### a def that stands at the top and keeps a promise, in one word -/
structure Has (P : Program) (w : World) (K : PySem.W.Frag) (mg : Str → Option Value) (base : Heap) (k : Nat) (x : Str) (ps : List Str) (sp : Sp) : Prop where
  ex : ∃ f fd, FnOk P w K mg base CX0 k f fd ps sp ∧ Binds K fd ps [] ∧ PySem.W.keepIn K (.ref f) = true ∧ mg x = some (.ref f)
def Gc (mg : Str → Option Value) (x : Str) (v : V) : Prop := ∃ u, mg x = some u ∧ RelV v u
section
variable {X : Cx} {k : Nat} {x : Str} {ps : List Str} {sp : Sp} {p pos : Pos} {e : Expr} {es : List Expr} {t : TA} {v : V}
theorem Has.mono {P : Program} {w : World} {K : PySem.W.Frag} {mg : Str → Option Value} {base : Heap} {j k : Nat} (h : Has P w K mg base j x ps sp) (hk : j ≤ k) : Has P w K mg base k x ps sp := by
  obtain ⟨f, fd, F, r⟩ := h.ex
  exact ⟨f, fd, F.mono hk, r⟩
theorem Has.imp {P : Program} {w : World} {K : PySem.W.Frag} {mg : Str → Option Value} {base : Heap} {k : Nat} {sp' : Sp} (h : Has P w K mg base k x ps sp) (hs : ∀ vs H Q E, sp' vs H Q E → sp vs H Q E) : Has P w K mg base k x ps sp' := by
  obtain ⟨f, fd, F, r⟩ := h.ex
  exact ⟨f, fd, F.imp hs, r⟩
theorem pe_callH (h : Has X.prog X.w X.K X.mg X.base k x ps sp) (hr : Room k X.A) (hg : Gl X x) (ha : PA X (e :: es) t) (hdb : (x == ("__debug__" : Str)) = false := by decide)
    (he : starEach (e :: es) X.env = (false, eval e X.env) :: starEach es X.env := by rfl) (hpl : (backTo pos (starEach es X.env)).any (·.1) = false := by rfl) : PE X (.Call (.Name x p) (e :: es) [] pos) (tCall sp [] E0 t) := by
  obtain ⟨f, fd, F, b, kp, m⟩ := h.ex
  exact pe_call F hr hg m kp b .nil pass0 ha hdb he hpl
theorem pe_gc (h : Gc X.mg x v) (hg : Gl X x) (hd : (x == ("__debug__" : Str)) = false := by decide) : PE X (.Name x pos) (tC v) := by
  obtain ⟨u, m, r⟩ := h
  exact pe_glob hg m r hd
/-- the type's name as a value (isinstance's second argument) -/
theorem pe_ty {T : String} (hm : X.mg x = none) (hv : bootBuiltins x = some (.type T)) (hg : Gl X x) (hn : x ≠ "__name__" := by decide) (hd : (x == ("__debug__" : Str)) = false := by decide) : PE X (.Name x pos) (tC (.ty T)) :=
  pe_bltn hg hm hv rfl hn hd
end
theorem pif_nil {X : Cx} : PIf X [] none := trivial
theorem pif_one {X : Cx} {c : Expr} {t : TT} (h : PT X c t) : PIf X [c] (some t) := h
/-- what a comprehension's scope must be, as a look -/
def lcOk (xs ys : List Str) (scope around : Scope) : Bool :=
  (scope.kind == .function) && decide (xs ++ ys).Nodup && xs.all (fun x => scope.names.lookup x == some .local) &&
  ys.all (fun y => (scope.names.lookup y == some .free) && ((around.names.lookup y == some .cell) || (around.names.lookup y == some .free))) &&
  scope.names.all (fun y => (y.2 != .cell) && ((y.2 != .local) || (scope.names.lookup y.1 == some .local)) && ((y.2 != .free) || ys.contains y.1))
theorem lcOk.scope {xs ys : List Str} {scope around : Scope} (h : lcOk xs ys scope around = true) : LcScope xs ys scope around := by
  unfold lcOk at h
  simp only [Bool.and_eq_true, beq_iff_eq, decide_eq_true_eq, List.all_eq_true, Bool.or_eq_true, bne_iff_ne, List.contains_iff_mem] at h
  obtain ⟨⟨⟨⟨h1, h2⟩, h3⟩, h4⟩, h5⟩ := h
  exact ⟨h1, h2, h3, h4, fun y hy => (h5 y hy).1.1, fun y hy hl => (h5 y hy).1.2.resolve_left (fun z => z hl), fun y hy hf => (h5 y hy).2.resolve_left (fun z => z hf)⟩
def capOk (N ys : List Str) (js : List Nat) : Bool := (js.length == ys.length) && (ys.zip js).all fun p => N[p.2]? == some p.1
theorem capOk.caps {X : Cx} {ys : List Str} {js : List Nat} (h : capOk X.N ys js = true) : Caps X ys js := by
  unfold capOk at h
  simp only [Bool.and_eq_true, beq_iff_eq, List.all_eq_true] at h
  refine ⟨h.1, fun i y j hy hj => ?_⟩
  refine h.2 (y, j) (List.mem_of_getElem? (i := i) ?_)
  rw [List.getElem?_zip_eq_some]
  exact ⟨hy, hj⟩
section
variable {X : Cx} {xs ys : List Str} {scope : Scope} {js : List Nat} {tg iter elt : Expr} {ifs : List Expr} {pos : Pos} {wi : TI} {g : TG} {tc : Option TT} {te : TE}
theorem pe_comp (xs ys : List Str) (js : List Nat) (hi : PI X tg iter wi)
    (hg : ∀ C s₀ H₀ fp, (xs ++ ys).Nodup → PG (blockCx X xs ys scope C s₀ H₀ fp) tg g) (hif : ∀ C s₀ H₀ fp, PIf (blockCx X xs ys scope C s₀ H₀ fp) ifs tc) (he : ∀ C s₀ H₀ fp, PE (blockCx X xs ys scope C s₀ H₀ fp) elt te)
    (hc : X.calm = true := by rfl) (S : lcOk xs ys scope X.env.scope = true := by rfl) (hj : capOk X.N ys js = true := by rfl)
    (hs : ∀ x, foldedSetIterable iter X.env x = pure x := by intro _; rfl) : PE X (.ListComp elt [⟨tg, iter, ifs, 0⟩] scope pos) (tLC xs js wi g tc te) :=
  pe_lc hc (lcOk.scope S) (capOk.caps hj) hi (fun C s₀ H₀ fp => hg C s₀ H₀ fp (lcOk.scope S).nd) hif he hs
theorem ps_comp {i : Nat} {x : Str} {p' p : Pos} (xs ys : List Str) (js : List Nat) (hN : X.N.Nodup) (hx : X.N[i]? = some x) (hi : PI X tg iter wi)
    (hg : ∀ C s₀ H₀ fp, (xs ++ ys).Nodup → PG (blockCx X xs ys scope C s₀ H₀ fp) tg g) (hif : ∀ C s₀ H₀ fp, PIf (blockCx X xs ys scope C s₀ H₀ fp) ifs tc) (he : ∀ C s₀ H₀ fp, PE (blockCx X xs ys scope C s₀ H₀ fp) elt te)
    (hl : X.env.scope.names.lookup x = some .local := by rfl) (hc : X.calm = true := by rfl) (S : lcOk xs ys scope X.env.scope = true := by rfl) (hj : capOk X.N ys js = true := by rfl)
    (hsw : swapsWith (.ListComp elt [⟨tg, iter, ifs, 0⟩] scope pos) (some (.Name x p')) p.line X.env = pure true := by rfl)
    (hs : ∀ x, foldedSetIterable iter X.env x = pure x := by intro _; rfl) : PS X (.Assign [.Name x p'] (.ListComp elt [⟨tg, iter, ifs, 0⟩] scope pos) p) (tAsg (tLC xs js wi g tc te) (gName i)) :=
  ps_setLC hN hx hl hc (lcOk.scope S) (capOk.caps hj) hi (fun C s₀ H₀ fp => hg C s₀ H₀ fp (lcOk.scope S).nd) hif he hsw hs
end
theorem bt_len : bootBuiltins "len" = some (.builtin "len") := by decide +kernel
theorem bt_isinstance : bootBuiltins "isinstance" = some (.builtin "isinstance") := by decide +kernel
theorem bt_max : bootBuiltins "max" = some (.builtin "max") := by decide +kernel
theorem bt_sum : bootBuiltins "sum" = some (.builtin "sum") := by decide +kernel
theorem bt_all : bootBuiltins "all" = some (.builtin "all") := by decide +kernel
theorem bt_sorted : bootBuiltins "sorted" = some (.builtin "sorted") := by decide +kernel
theorem bt_range : bootBuiltins "range" = some (.type "range") := by decide +kernel
theorem bt_tuple : bootBuiltins "tuple" = some (.type "tuple") := by decide +kernel
theorem bt_list : bootBuiltins "list" = some (.type "list") := by decide +kernel
theorem bt_set : bootBuiltins "set" = some (.type "set") := by decide +kernel
theorem bt_int : bootBuiltins "int" = some (.type "int") := by decide +kernel
theorem bt_bool : bootBuiltins "bool" = some (.type "bool") := by decide +kernel
theorem bt_str : bootBuiltins "str" = some (.type "str") := by decide +kernel
theorem bt_dict : bootBuiltins "dict" = some (.type "dict") := by decide +kernel
theorem cx_K {CX : CXT} {P : Program} {w : World} {K : PySem.W.Frag} {mg : Str → Option Value} {base : Heap} {N : List Str} {qual : Str} {scope : Scope} {f : Addr} {cd : Value} {A : Around} {outer : List Env} {s : Shared} {H : Hp} {E : XK} : (cxOf CX P w K mg base N qual scope f cd A outer s H E).K = K := rfl
theorem cx_calm {CX : CXT} {P : Program} {w : World} {K : PySem.W.Frag} {mg : Str → Option Value} {base : Heap} {N : List Str} {qual : Str} {scope : Scope} {f : Addr} {cd : Value} {A : Around} {outer : List Env} {s : Shared} {H : Hp} {E : XK} : (cxOf CX P w K mg base N qual scope f cd A outer s H E).calm = true := rfl
theorem bk_calm {X : Cx} {xs ys : List Str} {scope : Scope} {C : Addr} {s₀ : Shared} {H₀ : Hp} {fp : List Addr} : (blockCx X xs ys scope C s₀ H₀ fp).calm = X.calm := rfl
theorem lenV_str {K : PySem.W.Frag} {y : Str} {H : Hp} {n : Nat} : LenV K (.str y) H n ↔ (y.length ≤ sizeLine ∧ n = y.length) := Iff.rfl
theorem eqV_str (a b : Str) : eqV (.str a) (.str b) = decide (b = a) := by
  show (a == b) = _
  rw [Bool.eq_iff_iff, beq_iff_eq, decide_eq_true_eq, eq_comm]
theorem bk_K {X : Cx} {xs ys : List Str} {scope : Scope} {C : Addr} {s₀ : Shared} {H₀ : Hp} {fp : List Addr} : (blockCx X xs ys scope C s₀ H₀ fp).K = X.K := rfl
theorem ix_nat {ns : List Int} {k : Nat} (h : (k : Int) < ns.length) : atI (ns.map V.int) (k : Int) = some (.int (ns.getD k 0)) := by
  refine atI_nat ?_
  have h' : k < ns.length := by omega
  rw [List.getElem?_map, List.getElem?_eq_getElem h', List.getD_eq_getElem?_getD, List.getElem?_eq_getElem h']
  rfl
/-- over the signs of a text -/
theorem for_str {z : Str} {g : TG} {tb : TS} {D : Ends} {σ : St} {H : Hp} (Pv : Nat → St → Hp → Prop) (h0 : Pv 0 σ H)
    (hs : ∀ (i c : Nat) σ H, z.cps[i]? = some c → Pv i σ H → g (.str ⟨#[c]⟩) σ H fun σ2 H2 => tb { D with nx := Pv (i + 1), ct := Pv (i + 1), bk := D.nx } σ2 H2) (hd : ∀ σ H, Pv z.cps.size σ H → D.nx σ H) :
    ∃ W : Nat → Nat → St → Hp → Prop, (∃ m, W 0 m σ H) ∧ ∀ i m σ H, W i m σ H →
      ((Its z).stop i H ∧ D.nx σ H) ∨ ((Its z).go i H ∧ ∃ N : St → Hp → Prop, (∀ σ' H', N σ' H' → ∃ m', m' < m ∧ W (i + 1) m' σ' H') ∧ ∀ x H', (Its z).yld i H x H' → g x σ H' fun σ2 H2 => tb { D with nx := N, ct := N, bk := D.nx } σ2 H2) := by
  refine ⟨fun i m σ H => i + m = z.cps.size ∧ Pv i σ H, ⟨z.cps.size, by omega, h0⟩, fun i m σ H ⟨e, w⟩ => ?_⟩
  by_cases hi : i < z.cps.size
  · refine .inr ⟨hi, Pv (i + 1), fun σ' H' h => ⟨m - 1, by omega, by omega, h⟩, fun x H' ⟨e', c, hc, hx⟩ => ?_⟩
    subst e'; subst hx
    exact hs i c σ _ hc w
  · have : i = z.cps.size := by omega
    subst this
    exact .inl ⟨Nat.le_refl _, hd σ H w⟩
/-- a comprehension by turns: Pv speaks of the items made so far; hs gets the rest as C -/
theorem lc_by {J : It} {n : Nat} {ns : List Str} {js : List Nat} {g : TG} {te : TE} {σ : St} {H : Hp} {Q : VK} (Pv : Nat → List V → St → Hp → Prop) (h0 : Pv 0 [] (lcSt ns js σ) H) (hn : n ≤ sizeLine) (hl : ∀ i ys σ H, Pv i ys σ H → ys.length ≤ i)
    (hgo : ∀ i ys σ H, i < n → Pv i ys σ H → J.go i H) (hst : ∀ ys σ H, Pv n ys σ H → J.stop n H)
    (hs : ∀ i ys σ H x H' (C : V → St → Hp → Prop), i < n → Pv i ys σ H → J.yld i H x H' → (∀ y σ2 H3, Pv (i + 1) (ys ++ [y]) σ2 H3 → C y σ2 H3) → g x σ H' fun σ2 H2 => te σ2 H2 fun y H3 => C y σ2 H3)
    (hd : ∀ ys σ H, Pv n ys σ H → ∀ p, H p = none → Q (.ref p) (upd H p (.lst ys))) :
    LcW J ns js g none te σ H Q := by
  refine ⟨fun i m ys σ H => i + m = n ∧ Pv i ys σ H, ⟨n, by omega, h0⟩, fun i m ys σ H ⟨e, w⟩ => ?_⟩
  by_cases hi : i < n
  · refine .inr ⟨hgo i ys σ H hi w, Nat.lt_of_le_of_lt (hl _ _ _ _ w) (by omega), fun x H' hy => ?_⟩
    exact hs i ys σ H x H' (fun y σ2 H3 => ∃ m', m' < m ∧ i + 1 + m' = n ∧ Pv (i + 1) (ys ++ [y]) σ2 H3) hi w hy fun y σ2 H3 q => ⟨m - 1, by omega, by omega, q⟩
  · have : i = n := by omega
    subst this
    exact .inl ⟨hst ys σ H w, hd ys σ H w⟩
theorem lc_str {z : Str} {ns : List Str} {js : List Nat} {g : TG} {te : TE} {σ : St} {H : Hp} {Q : VK} (Pv : Nat → List V → St → Hp → Prop) (h0 : Pv 0 [] (lcSt ns js σ) H) (hz : z.cps.size ≤ sizeLine) (hl : ∀ i ys σ H, Pv i ys σ H → ys.length ≤ i)
    (hs : ∀ (i c : Nat) ys σ H (C : V → St → Hp → Prop), z.cps[i]? = some c → Pv i ys σ H → (∀ y σ2 H3, Pv (i + 1) (ys ++ [y]) σ2 H3 → C y σ2 H3) → g (.str ⟨#[c]⟩) σ H fun σ2 H2 => te σ2 H2 fun y H3 => C y σ2 H3)
    (hd : ∀ ys σ H, Pv z.cps.size ys σ H → ∀ p, H p = none → Q (.ref p) (upd H p (.lst ys))) :
    LcW (Its z) ns js g none te σ H Q :=
  lc_by (n := z.cps.size) Pv h0 hz hl (fun _ _ _ _ h _ => h) (fun _ _ _ _ => Nat.le_refl _) (fun i ys σ H x H' C hi w ⟨e, c, hc, hx⟩ hC => by subst e; subst hx; exact hs i c ys σ _ C hc w hC) hd
theorem lc_range {lo : Int} {n : Nat} {ns : List Str} {js : List Nat} {g : TG} {te : TE} {σ : St} {H : Hp} {Q : VK} (Pv : Nat → List V → St → Hp → Prop) (h0 : Pv 0 [] (lcSt ns js σ) H) (hz : n ≤ sizeLine) (hl : ∀ i ys σ H, Pv i ys σ H → ys.length ≤ i)
    (hs : ∀ (i : Nat) ys σ H (C : V → St → Hp → Prop), i < n → Pv i ys σ H → (∀ y σ2 H3, Pv (i + 1) (ys ++ [y]) σ2 H3 → C y σ2 H3) → g (.int (lo + i)) σ H fun σ2 H2 => te σ2 H2 fun y H3 => C y σ2 H3)
    (hd : ∀ ys σ H, Pv n ys σ H → ∀ p, H p = none → Q (.ref p) (upd H p (.lst ys))) :
    LcW (Itr lo n) ns js g none te σ H Q :=
  lc_by (n := n) Pv h0 hz hl (fun _ _ _ _ h _ => h) (fun _ _ _ _ => Nat.le_refl _) (fun i ys σ H x H' C hi w ⟨e, hx⟩ hC => by subst e; subst hx; exact hs i ys σ _ C hi w hC) hd
theorem lc_tup {K : PySem.W.Frag} {a : Addr} {xs : List V} {ns : List Str} {js : List Nat} {g : TG} {te : TE} {σ : St} {H : Hp} {Q : VK} (Pv : Nat → List V → St → Hp → Prop) (h0 : Pv 0 [] (lcSt ns js σ) H) (hz : xs.length ≤ sizeLine) (hl : ∀ i ys σ H, Pv i ys σ H → ys.length ≤ i)
    (hK : ∀ i ys σ H, Pv i ys σ H → SqT K H a xs)
    (hs : ∀ (i : Nat) x ys σ H (C : V → St → Hp → Prop), xs[i]? = some x → Pv i ys σ H → (∀ y σ2 H3, Pv (i + 1) (ys ++ [y]) σ2 H3 → C y σ2 H3) → g x σ H fun σ2 H2 => te σ2 H2 fun y H3 => C y σ2 H3)
    (hd : ∀ ys σ H, Pv xs.length ys σ H → ∀ p, H p = none → Q (.ref p) (upd H p (.lst ys))) :
    LcW (Itt K a) ns js g none te σ H Q :=
  lc_by (n := xs.length) Pv h0 hz hl (fun i ys σ H hi w => ⟨xs, xs[i], hK i ys σ H w, List.getElem?_eq_getElem hi⟩) (fun ys σ H w => ⟨xs, hK _ ys σ H w, Nat.le_refl _⟩)
    (fun i ys σ H x H' C hi w ⟨e, hx⟩ hC => by subst e; exact hs i x ys σ _ C (hx xs (hK i ys σ _ w)) w hC) hd
theorem lc_list {K : PySem.W.Frag} {a : Addr} {xs : List V} {ns : List Str} {js : List Nat} {g : TG} {te : TE} {σ : St} {H : Hp} {Q : VK} (Pv : Nat → List V → St → Hp → Prop) (h0 : Pv 0 [] (lcSt ns js σ) H) (hz : xs.length ≤ sizeLine) (hl : ∀ i ys σ H, Pv i ys σ H → ys.length ≤ i)
    (hK : ∀ i ys σ H, Pv i ys σ H → SqL K H a xs)
    (hs : ∀ (i : Nat) x ys σ H (C : V → St → Hp → Prop), xs[i]? = some x → Pv i ys σ H → (∀ y σ2 H3, Pv (i + 1) (ys ++ [y]) σ2 H3 → C y σ2 H3) → g x σ H fun σ2 H2 => te σ2 H2 fun y H3 => C y σ2 H3)
    (hd : ∀ ys σ H, Pv xs.length ys σ H → ∀ p, H p = none → Q (.ref p) (upd H p (.lst ys))) :
    LcW (Itl K a) ns js g none te σ H Q :=
  lc_by (n := xs.length) Pv h0 hz hl (fun i ys σ H hi w => ⟨xs, xs[i], hK i ys σ H w, List.getElem?_eq_getElem hi⟩) (fun ys σ H w => ⟨xs, hK _ ys σ H w, Nat.le_refl _⟩)
    (fun i ys σ H x H' C hi w ⟨e, hx⟩ hC => by subst e; exact hs i x ys σ _ C (hx xs (hK i ys σ _ w)) w hC) hd
/-- a loop over J: what holds between two turns -/
def ForW (J : It) (g : TG) (tb : TS) (D : Ends) (σ : St) (H : Hp) : Prop := ∃ W : Nat → Nat → St → Hp → Prop, (∃ m, W 0 m σ H) ∧ ∀ i m σ H, W i m σ H →
  (J.stop i H ∧ D.nx σ H) ∨ (J.go i H ∧ ∃ N : St → Hp → Prop, (∀ σ' H', N σ' H' → ∃ m', m' < m ∧ W (i + 1) m' σ' H') ∧ ∀ x H', J.yld i H x H' → g x σ H' fun σ2 H2 => tb { D with nx := N, ct := N, bk := D.nx } σ2 H2)
theorem tFor_eq {wi : TI} {g : TG} {tb : TS} {D : Ends} {σ : St} {H : Hp} : tFor wi g tb D σ H = wi σ H fun J H1 => ForW J g tb D σ H1 := rfl
theorem tLC_eq {n : List Str} {js : List Nat} {wi : TI} {g : TG} {tc : Option TT} {te : TE} {σ : St} {H : Hp} {Q : VK} : tLC n js wi g tc te σ H Q = wi σ H fun J H1 => LcW J n js g tc te σ H1 Q := rfl
theorem fw_list {K : PySem.W.Frag} {a : Addr} {xs : List V} {g : TG} {tb : TS} {D : Ends} {σ : St} {H : Hp} (Pv : Nat → St → Hp → Prop) (h0 : Pv 0 σ H) (hl : ∀ i σ H, i ≤ xs.length → Pv i σ H → SqL K H a xs)
    (hs : ∀ i x σ H, xs[i]? = some x → Pv i σ H → g x σ H fun σ2 H2 => tb { D with nx := Pv (i + 1), ct := Pv (i + 1), bk := D.nx } σ2 H2) (hd : ∀ σ H, Pv xs.length σ H → D.nx σ H) : ForW (Itl K a) g tb D σ H := for_list Pv h0 hl hs hd
theorem fw_tup {K : PySem.W.Frag} {a : Addr} {xs : List V} {g : TG} {tb : TS} {D : Ends} {σ : St} {H : Hp} (Pv : Nat → St → Hp → Prop) (h0 : Pv 0 σ H) (hl : ∀ i σ H, i ≤ xs.length → Pv i σ H → SqT K H a xs)
    (hs : ∀ i x σ H, xs[i]? = some x → Pv i σ H → g x σ H fun σ2 H2 => tb { D with nx := Pv (i + 1), ct := Pv (i + 1), bk := D.nx } σ2 H2) (hd : ∀ σ H, Pv xs.length σ H → D.nx σ H) : ForW (Itt K a) g tb D σ H := for_tup Pv h0 hl hs hd
theorem fw_range {lo : Int} {n : Nat} {g : TG} {tb : TS} {D : Ends} {σ : St} {H : Hp} (Pv : Nat → St → Hp → Prop) (h0 : Pv 0 σ H)
    (hs : ∀ i σ H, i < n → Pv i σ H → g (.int (lo + i)) σ H fun σ2 H2 => tb { D with nx := Pv (i + 1), ct := Pv (i + 1), bk := D.nx } σ2 H2) (hd : ∀ σ H, Pv n σ H → D.nx σ H) : ForW (Itr lo n) g tb D σ H := for_range Pv h0 hs hd
theorem fw_str {z : Str} {g : TG} {tb : TS} {D : Ends} {σ : St} {H : Hp} (Pv : Nat → St → Hp → Prop) (h0 : Pv 0 σ H)
    (hs : ∀ (i c : Nat) σ H, z.cps[i]? = some c → Pv i σ H → g (.str ⟨#[c]⟩) σ H fun σ2 H2 => tb { D with nx := Pv (i + 1), ct := Pv (i + 1), bk := D.nx } σ2 H2) (hd : ∀ σ H, Pv z.cps.size σ H → D.nx σ H) : ForW (Its z) g tb D σ H := for_str Pv h0 hs hd
/-- one statement of a block, the rest out of sight -/
theorem seq_abs {t u : TS} {D : Ends} {σ : St} {H : Hp} (h : ∀ N : St → Hp → Prop, (∀ σ H, u D σ H → N σ H) → t { D with nx := N } σ H) : tSeq t u D σ H := h (u D) fun _ _ z => z
/-- an if: the test alone, its two arms out of sight -/
theorem if_abs {c : TT} {t u : TS} {D : Ends} {σ : St} {H : Hp} (h : ∀ T U : Hp → Prop, (∀ H1, t D σ H1 → T H1) → (∀ H1, u D σ H1 → U H1) → c σ H fun b H1 => if b = true then T H1 else U H1) : tIfS c t u D σ H := h (t D σ) (u D σ) (fun _ z => z) fun _ z => z
/-- .. met by J on every way -/
theorem seq_join {t u : TS} {D : Ends} {σ : St} {H : Hp} (J : St → Hp → Prop) (h1 : ∀ N : St → Hp → Prop, (∀ σ H, J σ H → N σ H) → t { D with nx := N } σ H) (h2 : ∀ σ H, J σ H → u D σ H) : tSeq t u D σ H := h1 (u D) h2
/-! ### built-in names that the text leaves alone -/
structure Bi (mg : Str → Option Value) : Prop where
  len : mg "len" = none
  range : mg "range" = none
  isinstance : mg "isinstance" = none
  max : mg "max" = none
  sum : mg "sum" = none
  all : mg "all" = none
  tuple : mg "tuple" = none
  list : mg "list" = none
  sorted : mg "sorted" = none
  set : mg "set" = none
  int : mg "int" = none
  bool : mg "bool" = none
  str : mg "str" = none
  dict : mg "dict" = none
theorem has_of {P : Program} {w : World} {K : PySem.W.Frag} {mg : Str → Option Value} {base : Heap} {k : Nat} {x : Str} {ps : List Str} {sp : Sp} {st : Stmt} {f : Addr} {fd : FuncData} (F : Fun K x x st f fd) (ok : FnOk P w K mg base CX0 k f fd ps sp) (b : Binds K fd ps [])
    (m : mg x = some (.ref f)) : Has P w K mg base k x ps sp := ⟨f, fd, ok, b, F.kp, m⟩
end L2
set_option Elab.async false
set_option linter.all false
set_option maxRecDepth 100000
namespace L2
open PySem PySem.Spec PyProof.Rows
/-! ### data as the abstract heap bears it -/
inductive Dt where
  | non | bl (b : Bool) | int (i : Int) | str (x : Str) | tup (ds : List Dt) | lst (ds : List Dt)
mutual
def DAt (H : Hp) : Dt → V → Prop
  | .non, v => v = .non
  | .bl b, v => v = .bl b
  | .int i, v => v = .int i
  | .str x, v => v = .str x
  | .tup ds, v => ∃ a vs, v = .ref a ∧ H a = some (.tup vs) ∧ DAts H ds vs
  | .lst ds, v => ∃ a vs, v = .ref a ∧ H a = some (.lst vs) ∧ DAts H ds vs
def DAts (H : Hp) : List Dt → List V → Prop
  | [], vs => vs = []
  | d :: ds, vs => ∃ v r, vs = v :: r ∧ DAt H d v ∧ DAts H ds r
end
mutual
theorem DAt.same {H H' : Hp} (e : Same H H') : ∀ {d : Dt} {v : V}, DAt H d v → DAt H' d v
  | .non, _, h => h
  | .bl _, _, h => h
  | .int _, _, h => h
  | .str _, _, h => h
  | .tup ds, v, h => by
    obtain ⟨a, vs, e1, e2, e3⟩ := h
    exact ⟨a, vs, e1, e _ _ e2, DAts.same e e3⟩
  | .lst ds, v, h => by
    obtain ⟨a, vs, e1, e2, e3⟩ := h
    exact ⟨a, vs, e1, e _ _ e2, DAts.same e e3⟩
theorem DAts.same {H H' : Hp} (e : Same H H') : ∀ {ds : List Dt} {vs : List V}, DAts H ds vs → DAts H' ds vs
  | [], _, h => h
  | d :: ds, vs, h => by
    obtain ⟨v, r, e1, e2, e3⟩ := h
    exact ⟨v, r, e1, DAt.same e e2, DAts.same e e3⟩
end
theorem DAts.length {H : Hp} : ∀ {ds : List Dt} {vs : List V}, DAts H ds vs → vs.length = ds.length
  | [], vs, h => by
    have h : vs = [] := h
    rw [h]
    rfl
  | d :: ds, vs, h => by
    obtain ⟨v, r, e1, e2, e3⟩ := h
    rw [e1, List.length_cons, List.length_cons, DAts.length e3]
theorem DAts.get {H : Hp} : ∀ {ds : List Dt} {vs : List V} {i : Nat} {d : Dt}, DAts H ds vs → ds[i]? = some d → ∃ v, vs[i]? = some v ∧ DAt H d v
  | [], vs, i, d, _, e => by simp at e
  | d :: ds, vs, 0, d', h, e => by
    obtain ⟨v, r, e1, e2, e3⟩ := h
    simp at e
    subst e; subst e1
    exact ⟨v, rfl, e2⟩
  | d :: ds, vs, i + 1, d', h, e => by
    obtain ⟨v, r, e1, e2, e3⟩ := h
    subst e1
    simp at e
    obtain ⟨u, h1, h2⟩ := DAts.get e3 e
    exact ⟨u, by simpa using h1, h2⟩
theorem DAts.append {H : Hp} : ∀ {ds es : List Dt} {vs us : List V}, DAts H ds vs → DAts H es us → DAts H (ds ++ es) (vs ++ us)
  | [], es, vs, us, h, h' => by
    have h : vs = [] := h
    subst h
    exact h'
  | d :: ds, es, vs, us, h, h' => by
    obtain ⟨v, r, e1, e2, e3⟩ := h
    subst e1
    exact ⟨v, r ++ us, rfl, e2, DAts.append e3 h'⟩
theorem DAts.take {H : Hp} : ∀ {ds : List Dt} {vs : List V} (n : Nat), DAts H ds vs → DAts H (ds.take n) (vs.take n)
  | ds, vs, 0, _ => rfl
  | [], vs, n + 1, h => by
    have h : vs = [] := h
    subst h
    rfl
  | d :: ds, vs, n + 1, h => by
    obtain ⟨v, r, e1, e2, e3⟩ := h
    subst e1
    exact ⟨v, r.take n, rfl, e2, DAts.take n e3⟩
theorem DAts.drop {H : Hp} : ∀ {ds : List Dt} {vs : List V} (n : Nat), DAts H ds vs → DAts H (ds.drop n) (vs.drop n)
  | ds, vs, 0, h => by simpa using h
  | [], vs, n + 1, h => by
    have h : vs = [] := h
    subst h
    rfl
  | d :: ds, vs, n + 1, h => by
    obtain ⟨v, r, e1, e2, e3⟩ := h
    subst e1
    simpa using DAts.drop n e3
theorem DAts.one {H : Hp} {d : Dt} {v : V} (h : DAt H d v) : DAts H [d] [v] := ⟨v, [], rfl, h, rfl⟩
/-- how deep: every sequence short -/
def DFit : Nat → Dt → Prop
  | n + 1, .tup ds => ds.length ≤ 1000 ∧ ∀ d ∈ ds, DFit n d
  | n + 1, .lst ds => ds.length ≤ 1000 ∧ ∀ d ∈ ds, DFit n d
  | 0, .tup _ => False
  | 0, .lst _ => False
  | _, _ => True
/-! ### terms -/
inductive Tm where
  | name (x : Str)
  | node (w : Str) (ts : List Tm)
mutual
def toD : Tm → Dt
  | .name x => .tup [.str "name", .str x]
  | .node w ts => .tup (.str w :: toDs ts)
def toDs : List Tm → List Dt
  | [] => []
  | t :: ts => toD t :: toDs ts
end
theorem toDs_map : ∀ ts : List Tm, toDs ts = ts.map toD
  | [] => rfl
  | t :: ts => by rw [toDs, toDs_map ts, List.map_cons]
theorem toD_node (w : Str) (ts : List Tm) : toD (.node w ts) = .tup (.str w :: ts.map toD) := by rw [toD, toDs_map]
abbrev TAt (H : Hp) (t : Tm) (v : V) : Prop := DAt H (toD t) v
abbrev TAts (H : Hp) (ts : List Tm) (vs : List V) : Prop := DAts H (ts.map toD) vs
theorem TAt.name {H : Hp} {x : Str} {v : V} (h : TAt H (.name x) v) : ∃ a, v = .ref a ∧ H a = some (.tup [.str "name", .str x]) := by
  obtain ⟨a, vs, e1, e2, u, r, e3, e4, e5⟩ := h
  obtain ⟨u2, r2, e6, e7, e8⟩ := e5
  have e4 : u = .str "name" := e4
  have e7 : u2 = .str x := e7
  have e8 : r2 = [] := e8
  subst e3; subst e4; subst e6; subst e7; subst e8
  exact ⟨a, e1, e2⟩
theorem TAt.mkName {H : Hp} {x : Str} {a : Addr} (h : H a = some (.tup [.str "name", .str x])) : TAt H (.name x) (.ref a) :=
  ⟨a, _, rfl, h, _, _, rfl, rfl, _, _, rfl, rfl, rfl⟩
theorem TAt.node {H : Hp} {w : Str} {ts : List Tm} {v : V} (h : TAt H (.node w ts) v) : ∃ a vs, v = .ref a ∧ H a = some (.tup (.str w :: vs)) ∧ TAts H ts vs := by
  unfold TAt at h
  rw [toD_node] at h
  obtain ⟨a, vs, e1, e2, u, r, e3, e4, e5⟩ := h
  have e4 : u = .str w := e4
  subst e3; subst e4
  exact ⟨a, r, e1, e2, e5⟩
theorem TAt.mkNode {H : Hp} {w : Str} {ts : List Tm} {a : Addr} {vs : List V} (h : H a = some (.tup (.str w :: vs))) (hs : TAts H ts vs) : TAt H (.node w ts) (.ref a) := by
  unfold TAt
  rw [toD_node]
  exact ⟨a, _, rfl, h, _, _, rfl, rfl, hs⟩
/-- the five words of terms that are no names -/
def Wrd (w : Str) : Prop := w = "none" ∨ w = "all" ∨ w = "not" ∨ w = "both" ∨ w = "either"
theorem Wrd.ne {w : Str} (h : Wrd w) : w ≠ "name" := by
  rcases h with rfl | rfl | rfl | rfl | rfl <;> decide +kernel
/-- a word with so many parts -/
def Sh (w : Str) (n : Nat) : Prop := (w = "none" ∧ n = 0) ∨ (w = "all" ∧ n = 0) ∨ (w = "not" ∧ n = 1) ∨ (w = "both" ∧ 2 ≤ n) ∨ (w = "either" ∧ 2 ≤ n)
theorem Sh.wrd {w : Str} {n : Nat} (h : Sh w n) : Wrd w := by
  rcases h with h | h | h | h | h
  · exact .inl h.1
  · exact .inr (.inl h.1)
  · exact .inr (.inr (.inl h.1))
  · exact .inr (.inr (.inr (.inl h.1)))
  · exact .inr (.inr (.inr (.inr h.1)))
/-- a name, as the document has it -/
structure Nm (x : Str) : Prop where
  pos : 1 ≤ x.length
  most : x.length ≤ 8
  low : ∀ c ∈ x.cps.toList, 97 ≤ c ∧ c ≤ 122
  nn : x ≠ "none"
  na : x ≠ "all"
/-- how deep at most, with good words and names -/
def Fit : Nat → Tm → Prop
  | _, .name x => Nm x
  | 0, .node w ts => Sh w ts.length ∧ ts = []
  | n + 1, .node w ts => Sh w ts.length ∧ ∀ t ∈ ts, Fit n t
theorem Fit.up : ∀ {n : Nat} {t : Tm}, Fit n t → Fit (n + 1) t
  | n, .name _, h => by unfold Fit at h ⊢; exact h
  | 0, .node w ts, h => by
    unfold Fit at h
    obtain ⟨h1, h2⟩ := h
    subst h2
    exact ⟨h1, fun _ z => nomatch z⟩
  | n + 1, .node w ts, h => by
    unfold Fit at h ⊢
    exact ⟨h.1, fun t ht => Fit.up (h.2 t ht)⟩
theorem Fit.mono {n m : Nat} {t : Tm} (h : Fit n t) (hm : n ≤ m) : Fit m t := by
  obtain ⟨k, rfl⟩ := Nat.le.dest hm
  induction k with
  | zero => exact h
  | succ k ih => exact Fit.up (ih (by omega))
theorem Fit.sh {n : Nat} {w : Str} {ts : List Tm} (h : Fit n (.node w ts)) : Sh w ts.length := by
  cases n with
  | zero => exact h.1
  | succ n => exact h.1
theorem Fit.wrd {n : Nat} {w : Str} {ts : List Tm} (h : Fit n (.node w ts)) : Wrd w := h.sh.wrd
theorem Fit.part {n : Nat} {w : Str} {ts : List Tm} {t : Tm} (h : Fit (n + 1) (.node w ts)) (ht : t ∈ ts) : Fit n t := h.2 t ht
/-! how many nodes -/
mutual
def wt : Tm → Nat
  | .name _ => 1
  | .node _ ts => 1 + wts ts
def wts : List Tm → Nat
  | [] => 0
  | t :: ts => wt t + wts ts
end
theorem wt_pos : ∀ t : Tm, 1 ≤ wt t
  | .name _ => by rw [wt]; omega
  | .node _ _ => by rw [wt]; omega
theorem wts_len : ∀ ts : List Tm, ts.length ≤ wts ts
  | [] => by simp
  | t :: ts => by
    have := wts_len ts
    have := wt_pos t
    rw [wts, List.length_cons]
    omega
theorem wts_mem : ∀ {ts : List Tm} {t : Tm}, t ∈ ts → wt t ≤ wts ts
  | u :: ts, t, h => by
    rw [wts]
    rcases List.mem_cons.mp h with h | h
    · subst h; omega
    · have := wts_mem h; omega
theorem wts_append : ∀ ts us : List Tm, wts (ts ++ us) = wts ts + wts us
  | [], us => by simp [wts]
  | t :: ts, us => by rw [List.cons_append, wts, wts, wts_append ts us]; omega
theorem Fit.dfit : ∀ {n : Nat} {t : Tm}, Fit n t → wt t ≤ 900 → DFit (n + 1) (toD t)
  | n, .name x, _, _ => by
    rw [toD]
    unfold DFit
    refine ⟨by simp, fun d hd => ?_⟩
    rcases List.mem_cons.mp hd with rfl | hd
    · cases n <;> trivial
    · rw [List.mem_singleton.mp hd]
      cases n <;> trivial
  | n, .node w ts, h, hw => by
    rw [toD_node]
    rw [wt] at hw
    have hl := wts_len ts
    unfold DFit
    refine ⟨by rw [List.length_cons, List.length_map]; omega, fun d hd => ?_⟩
    rcases List.mem_cons.mp hd with rfl | hd
    · cases n <;> trivial
    · obtain ⟨t, ht, rfl⟩ := List.mem_map.mp hd
      have hm := wts_mem ht
      cases n with
      | zero => rw [h.2] at ht; cases ht
      | succ n => exact Fit.dfit (h.2 t ht) (by omega)
/-- a new object leaves all else -/
theorem same_new {H : Hp} {p : Addr} (h : H p = none) (o : HO) : Same H (upd H p o) := fun b u q => by rw [upd_ne (ne_of_none q h)]; exact q
theorem str_ext {x y : Str} (h : x.cps = y.cps) : x = y := by
  cases x; cases y; cases h; rfl
theorem len_app (p q : Str) : (p ++ q).length = p.length + q.length := by
  show (p.cps ++ q.cps).size = p.cps.size + q.cps.size
  rw [Array.size_append]
theorem cps_app (p q : Str) : (p ++ q).cps.toList = p.cps.toList ++ q.cps.toList := by
  show (p.cps ++ q.cps).toList = _
  rw [Array.toList_append]
theorem small {n : Nat} (h : n ≤ 1000) : n ≤ sizeLine := Nat.le_of_lt (small1000 h)
theorem TAts.one {H : Hp} {t : Tm} {v : V} (h : TAt H t v) : TAts H [t] [v] := DAts.one h
theorem TAts.append {H : Hp} {ts us : List Tm} {vs ws : List V} (h : TAts H ts vs) (h' : TAts H us ws) : TAts H (ts ++ us) (vs ++ ws) := by
  unfold TAts
  rw [List.map_append]
  exact DAts.append h h'
theorem TAts.take {H : Hp} {ts : List Tm} {vs : List V} (n : Nat) (h : TAts H ts vs) : TAts H (ts.take n) (vs.take n) := by
  unfold TAts
  rw [List.map_take]
  exact DAts.take n h
theorem TAts.drop {H : Hp} {ts : List Tm} {vs : List V} (n : Nat) (h : TAts H ts vs) : TAts H (ts.drop n) (vs.drop n) := by
  unfold TAts
  rw [List.map_drop]
  exact DAts.drop n h
theorem TAts.length {H : Hp} {ts : List Tm} {vs : List V} (h : TAts H ts vs) : vs.length = ts.length := by
  have := DAts.length h
  rw [List.length_map] at this
  exact this
theorem TAts.get {H : Hp} {ts : List Tm} {vs : List V} {i : Nat} {t : Tm} (h : TAts H ts vs) (ht : ts[i]? = some t) : ∃ v, vs[i]? = some v ∧ TAt H t v :=
  DAts.get (d := toD t) h (by rw [List.getElem?_map, ht]; rfl)
theorem TAts.getV {H : Hp} {ts : List Tm} {vs : List V} {i : Nat} {v : V} (h : TAts H ts vs) (hv : vs[i]? = some v) : ∃ t, ts[i]? = some t ∧ TAt H t v := by
  have hi : i < ts.length := by rw [← h.length]; exact (List.getElem?_eq_some_iff.mp hv).1
  obtain ⟨u, h1, h2⟩ := h.get (List.getElem?_eq_getElem hi)
  rw [hv] at h1
  cases h1
  exact ⟨_, List.getElem?_eq_getElem hi, h2⟩
/-! ### tuples stay, whatever else is written -/
def TupSame (H H' : Hp) : Prop := ∀ b xs, H b = some (.tup xs) → H' b = some (.tup xs)
theorem TupSame.refl (H : Hp) : TupSame H H := fun _ _ h => h
theorem TupSame.trans {H H1 H2 : Hp} (a : TupSame H H1) (b : TupSame H1 H2) : TupSame H H2 := fun c o h => b c o (a c o h)
theorem Same.tups {H H' : Hp} (e : Same H H') : TupSame H H' := fun b xs h => e b _ h
theorem TupSame.upd_lst {H H' : Hp} {a : Addr} {o : HO} {xs : List V} (e : TupSame H H') (h : H' a = some (.lst xs)) : TupSame H (upd H' a o) := fun b ys hb => by
  rw [upd_ne (ne_of (e _ _ hb) h (by intro z; cases z))]
  exact e _ _ hb
theorem TupSame.upd_new {H H' : Hp} {a : Addr} {o : HO} (e : TupSame H H') (h : H' a = none) : TupSame H (upd H' a o) := fun b ys hb => by
  rw [upd_ne (ne_of_none (e _ _ hb) h)]
  exact e _ _ hb
theorem Same.upd {H H1 : Hp} {a : Addr} {o : HO} (e : Same H H1) (h : H a = none) : Same H (upd H1 a o) := fun b u hb => by
  rw [upd_ne (ne_of_none hb h)]
  exact e _ _ hb
mutual
theorem TAt.tups {H H' : Hp} (e : TupSame H H') : ∀ {t : Tm} {v : V}, TAt H t v → TAt H' t v
  | .name x, v, h => by
    obtain ⟨a, e1, h2⟩ := TAt.name h
    subst e1
    exact TAt.mkName (e _ _ h2)
  | .node w ts, v, h => by
    obtain ⟨a, vs, e1, h2, hs⟩ := TAt.node h
    subst e1
    exact TAt.mkNode (e _ _ h2) (TAts.tups e hs)
theorem TAts.tups {H H' : Hp} (e : TupSame H H') : ∀ {ts : List Tm} {vs : List V}, TAts H ts vs → TAts H' ts vs
  | [], vs, h => h
  | t :: ts, vs, h => by
    obtain ⟨v, r, e1, e2, e3⟩ := h
    exact ⟨v, r, e1, TAt.tups e e2, TAts.tups e e3⟩
end
end L2
set_option Elab.async false
set_option linter.all false
set_option maxRecDepth 100000
namespace L2
open PySem PySem.Spec PyProof.Rows
/-! ### a dict of the module: read, never changed -/
structure KD (w : World) (K : PySem.W.Frag) (a : Addr) (kvs : List (Key × V)) : Prop where
  dict : ∀ (P : Program) (h : Heap), K.In h → ∃ vs, KV kvs vs ∧ h.DictOf (mixKind P w) a vs
def tKGet (w : World) (K : PySem.W.Frag) (td ty : TE) : TE := fun σ H Q => td σ H fun x H1 => ty σ H1 fun y H2 => ∃ a kvs k v, x = .ref a ∧ y = kV k ∧ KD w K a kvs ∧ valV kvs k = some v ∧ Q v H2
theorem pe_kdget {X : Cx} {o i : Expr} {pos : Pos} {td ty : TE} (ho : PE X o td) (hi : PE X i ty) (hs : NoSl i) : PE X (.Subscript o i pos) (tKGet X.w X.K td ty) := by
  intro pins s σ H Q I h
  refine subD_of PySem.F.slot_dict_getitem.lookup hs (thn (ho pins s σ H _ I h) fun u s1 ⟨x, H1, I1, rx, q1⟩ => thn (hi pins s1 σ H1 _ I1 q1) fun iv s2 ⟨y, H2, I2, ry, a, kvs, k, v, ex, ey, kd, l, q2⟩ => ?_)
  subst ex; subst ey
  obtain rfl : u = Value.ref a := rx
  obtain ⟨vs, rel, dd⟩ := kd.dict X.prog _ I2.kIn
  obtain ⟨w', hw, rw'⟩ := RelO.some_of (v := v) (o := valueAt vs k) (by rw [← l]; exact rel.val k)
  exact ⟨dd.typeIs, wpAny_getItem_of (kV_is ry) dd.mapOf hw ⟨v, H2, I2.tok _, rw', q2⟩⟩
/-- its entries, texts for texts -/
def entOk (w : World) : List DictEntry → List (Str × Str) → Prop
  | [], r => r = []
  | e :: es, r => ∃ x y t u r', r = (x, y) :: r' ∧ e.hash = hashStr w x ∧ e.key = .str x t ∧ e.val = .str y u ∧ entOk w es r'
theorem entOk.keys {w : World} {P : Program} : ∀ {es : List DictEntry} {r : List (Str × Str)}, entOk w es r → ∀ e ∈ es, ∃ k, (mixKind P w).is k e.key = true ∧ e.hash = (mixKind P w).hash k
  | [], _, _, e, he => nomatch he
  | e :: es, r, h, e', he => by
    obtain ⟨x, y, t, u, r', _, h1, h2, _, h4⟩ := h
    rcases List.mem_cons.mp he with rfl | he
    · exact ⟨.inr x, by rw [h2]; exact mixKind_str P w x t, h1⟩
    · exact entOk.keys h4 e' he
theorem entOk.pairs {w : World} {P : Program} : ∀ {es : List DictEntry} {r : List (Str × Str)}, entOk w es r → ∃ vs : List (Key × Value), KV (r.map fun p => ((.inr p.1 : Key), V.str p.2)) vs ∧ Pairs (mixKind P w) es vs ∧ vs.map (·.1) = r.map fun p => (.inr p.1 : Key)
  | [], r, h => by
    have h : r = [] := h
    subst h
    exact ⟨[], .nil, .nil, rfl⟩
  | e :: es, r, h => by
    obtain ⟨x, y, t, u, r', rfl, h1, h2, h3, h4⟩ := h
    obtain ⟨vs, a, b, c⟩ := entOk.pairs (P := P) h4
    refine ⟨(.inr x, .str y u) :: vs, .cons ⟨rfl, u, rfl⟩ a, .cons (by rw [h2]; exact mixKind_str P w x t) h3 b, ?_⟩
    rw [List.map_cons, List.map_cons, c]
theorem KD.of {w : World} {K : PySem.W.Frag} {a : Addr} {es : Array DictEntry} {ep : Nat} {r : List (Str × Str)} (o : K.lookup a = some ⟨.type "dict", none, .dict es ep, #[]⟩) (e : entOk w es.toList r) (n : (r.map fun p => (.inr p.1 : Key)).Nodup) :
    KD w K a (r.map fun p => ((.inr p.1 : Key), V.str p.2)) := ⟨fun P h X => by
  obtain ⟨vs, h1, h2, h3⟩ := entOk.pairs (P := P) e
  exact ⟨vs, h1, _, es, ep, X _ _ o, ⟨rfl, rfl, rfl⟩, rfl, fun x hx => entOk.keys e x (by simpa using hx), h2, by rw [h3]; exact n⟩⟩
theorem cx_w {CX : CXT} {P : Program} {w : World} {K : PySem.W.Frag} {mg : Str → Option Value} {base : Heap} {N : List Str} {qual : Str} {scope : Scope} {f : Addr} {cd : Value} {A : Around} {outer : List Env} {s : Shared} {H : Hp} {E : XK} : (cxOf CX P w K mg base N qual scope f cd A outer s H E).w = w := rfl
theorem bk_w {X : Cx} {xs ys : List Str} {scope : Scope} {C : Addr} {s₀ : Shared} {H₀ : Hp} {fp : List Addr} : (blockCx X xs ys scope C s₀ H₀ fp).w = X.w := rfl
/-! ### isinstance of built-in kinds -/
theorem kit_same {K : PySem.W.Frag} {T : String} : PySem.W.kitOne K (.type T) (.type T) = some true := by
  unfold PySem.W.kitOne
  rw [if_pos (by simp)]
def kitF (S T : String) : Bool := !(Value.type S == Value.type T) && PySem.W.kitMeta T && ((PySem.fastBuiltinMro S).map (·.contains (.type T)) == some false)
theorem kit_f {K : PySem.W.Frag} {S T : String} (h : kitF S T = true) : PySem.W.kitOne K (.type S) (.type T) = some false := by
  unfold kitF at h
  simp only [Bool.and_eq_true, Bool.not_eq_true', beq_iff_eq] at h
  unfold PySem.W.kitOne
  rw [if_neg (by rw [h.1.1]; decide)]
  show (if PySem.W.kitMeta T = true then PySem.W.subIn K (.type S) (.type T) else none) = _
  rw [if_pos h.1.2]
  exact h.2
theorem kit_sb {K : PySem.W.Frag} : PySem.W.kitOne K (.type "str") (.type "bool") = some false := kit_f (by decide +kernel)
theorem kit_si {K : PySem.W.Frag} : PySem.W.kitOne K (.type "str") (.type "int") = some false := kit_f (by decide +kernel)
theorem kit_tb {K : PySem.W.Frag} : PySem.W.kitOne K (.type "tuple") (.type "bool") = some false := kit_f (by decide +kernel)
theorem kit_ti {K : PySem.W.Frag} : PySem.W.kitOne K (.type "tuple") (.type "int") = some false := kit_f (by decide +kernel)
theorem kit_ts {K : PySem.W.Frag} : PySem.W.kitOne K (.type "tuple") (.type "str") = some false := kit_f (by decide +kernel)
theorem kit_lb {K : PySem.W.Frag} : PySem.W.kitOne K (.type "list") (.type "bool") = some false := kit_f (by decide +kernel)
theorem kit_li {K : PySem.W.Frag} : PySem.W.kitOne K (.type "list") (.type "int") = some false := kit_f (by decide +kernel)
theorem kit_ls {K : PySem.W.Frag} : PySem.W.kitOne K (.type "list") (.type "str") = some false := kit_f (by decide +kernel)
theorem kit_lt {K : PySem.W.Frag} : PySem.W.kitOne K (.type "list") (.type "tuple") = some false := kit_f (by decide +kernel)
theorem kit_ib {K : PySem.W.Frag} : PySem.W.kitOne K (.type "int") (.type "bool") = some false := kit_f (by decide +kernel)
theorem kit_nb {K : PySem.W.Frag} : PySem.W.kitOne K (.type "NoneType") (.type "bool") = some false := kit_f (by decide +kernel)
theorem kit_ni {K : PySem.W.Frag} : PySem.W.kitOne K (.type "NoneType") (.type "int") = some false := kit_f (by decide +kernel)
theorem kit_ns {K : PySem.W.Frag} : PySem.W.kitOne K (.type "NoneType") (.type "str") = some false := kit_f (by decide +kernel)
/-! ### a def that calls itself, level by level -/
theorem rec_ok {P : Program} {w : World} {K : PySem.W.Frag} {mg : Str → Option Value} {base : Heap} {x : Str} {ps : List Str} {st : Stmt} {f : Addr} {fd : FuncData} {sp : Nat → Sp} (F : Fun K x x st f fd) (b : Binds K fd ps []) (m : mg x = some (.ref f))
    (h0 : ∀ vs H Q E, ¬ sp 0 vs H Q E) (step : ∀ n, Has P w K mg base n x ps (sp n) → FnOk P w K mg base CX0 (n + 1) f fd ps (sp (n + 1))) : ∀ n, FnOk P w K mg base CX0 n f fd ps (sp n)
  | 0 => ⟨fun vs H Q E h => (h0 vs H Q E h).elim, fun A outer s H args us vs Q E _ _ _ _ h => (h0 vs H Q E h).elim⟩
  | n + 1 => step n (has_of F (rec_ok F b m h0 step n) b m)
/-! ### the mirror of a term -/
def mw (w : Str) : Str := if w = "none" then "all" else if w = "all" then "none" else if w = "both" then "either" else if w = "either" then "both" else w
mutual
def mir : Tm → Tm
  | .name x => .name x
  | .node w ts => .node (mw w) (mirs ts)
def mirs : List Tm → List Tm
  | [] => []
  | t :: ts => mir t :: mirs ts
end
theorem mirs_map : ∀ ts : List Tm, mirs ts = ts.map mir
  | [] => rfl
  | t :: ts => by rw [mirs, mirs_map ts, List.map_cons]
theorem mir_node (w : Str) (ts : List Tm) : mir (.node w ts) = .node (mw w) (ts.map mir) := by rw [mir, mirs_map]
theorem Sh.mw {w : Str} {n : Nat} (h : Sh w n) : Sh (mw w) n ∧ L2.mw (L2.mw w) = w := by
  rcases h with ⟨rfl, h⟩ | ⟨rfl, h⟩ | ⟨rfl, h⟩ | ⟨rfl, h⟩ | ⟨rfl, h⟩
  · exact ⟨.inr (.inl ⟨by decide +kernel, h⟩), by decide +kernel⟩
  · exact ⟨.inl ⟨by decide +kernel, h⟩, by decide +kernel⟩
  · exact ⟨.inr (.inr (.inl ⟨by decide +kernel, h⟩)), by decide +kernel⟩
  · exact ⟨.inr (.inr (.inr (.inr ⟨by decide +kernel, h⟩))), by decide +kernel⟩
  · exact ⟨.inr (.inr (.inr (.inl ⟨by decide +kernel, h⟩))), by decide +kernel⟩
mutual
theorem wt_mir : ∀ t : Tm, wt (mir t) = wt t
  | .name x => by rw [mir]
  | .node w ts => by rw [mir, wt, wt, wts_mirs ts]
theorem wts_mirs : ∀ ts : List Tm, wts (mirs ts) = wts ts
  | [] => by rw [mirs]
  | t :: ts => by rw [mirs, wts, wts, wt_mir t, wts_mirs ts]
end
theorem Fit.mir : ∀ {n : Nat} {t : Tm}, Fit n t → Fit n (mir t) ∧ L2.mir (L2.mir t) = t
  | n, .name x, h => by rw [L2.mir, L2.mir]; exact ⟨h, rfl⟩
  | 0, .node w ts, h => by
    have h2 : ts = [] := h.2
    subst h2
    rw [mir_node, mir_node]
    exact ⟨⟨h.1.mw.1, rfl⟩, by rw [h.1.mw.2]; rfl⟩
  | n + 1, .node w ts, h => by
    have a : ∀ t ∈ ts, Fit n (L2.mir t) ∧ L2.mir (L2.mir t) = t := fun t ht => Fit.mir (h.2 t ht)
    rw [mir_node, mir_node]
    refine ⟨⟨by rw [List.length_map]; exact h.1.mw.1, fun t ht => ?_⟩, ?_⟩
    · obtain ⟨u, hu, rfl⟩ := List.mem_map.mp ht
      exact (a u hu).1
    · rw [h.1.mw.2]
      have e : (ts.map L2.mir).map L2.mir = ts := by
        have go : ∀ us : List Tm, (∀ t ∈ us, L2.mir (L2.mir t) = t) → (us.map L2.mir).map L2.mir = us := by
          intro us
          induction us with
          | nil => intro _; rfl
          | cons u r ih =>
            intro hu
            rw [List.map_cons, List.map_cons, hu u (by simp), ih fun t ht => hu t (by simp [ht])]
        exact go ts fun t ht => (a t ht).2
      rw [e]
/-! ### pieces -/
theorem cut_tail (x : V) (xs : List V) : cutV (x :: xs) (some 1) none = xs := by
  unfold cutV
  have e : HT.sIx (x :: xs).length 0 (some ((1 : Nat) : Int)) = 1 := by rw [HT.sIx_nat, List.length_cons]; omega
  have e : HT.sIx (x :: xs).length 0 (some 1) = 1 := e
  rw [e, HT.sIx_none, List.drop_one, List.tail_cons, List.take_of_length_le (by rw [List.length_cons]; omega)]
theorem tail_not_whole (x : V) (xs : List V) : ¬ (HT.sIx (x :: xs).length 0 (some 1) = 0 ∧ HT.sIx (x :: xs).length (x :: xs).length none = (x :: xs).length) := by
  have e : HT.sIx (x :: xs).length 0 (some ((1 : Nat) : Int)) = 1 := by rw [HT.sIx_nat, List.length_cons]; omega
  have e : HT.sIx (x :: xs).length 0 (some 1) = 1 := e
  rw [e]
  omega
theorem TAts.snoc {H : Hp} {ts : List Tm} {vs : List V} {i : Nat} {t : Tm} {v : V} (ht : ts[i]? = some t) (h : TAts H (ts.take i) vs) (h1 : TAt H t v) : TAts H (ts.take (i + 1)) (vs ++ [v]) := by
  obtain ⟨hi, e⟩ := List.getElem?_eq_some_iff.mp ht
  rw [List.take_succ_eq_append_getElem hi, e]
  exact TAts.append h (TAts.one h1)
theorem Same.tup {K : PySem.W.Frag} {H H' : Hp} {a : Addr} {xs : List V} (e : Same H H') (h : SqT K H a xs) : SqT K H' a xs := by
  rcases h with (h | ⟨o, h⟩) | h
  · exact .inl (.inl (e _ _ h))
  · exact .inl (.inr ⟨o, e _ _ h⟩)
  · exact .inr h
theorem at0 {α : Type} {x : α} {xs : List α} : atI (x :: xs) 0 = some x := atI_nat (j := 0) (xs := x :: xs) rfl
theorem at1 {α : Type} {x y : α} {xs : List α} : atI (x :: y :: xs) 1 = some y := atI_nat (j := 1) (xs := x :: y :: xs) rfl
/-! ### sayings and rules -/
def dSay (p : Tm × Tm) : Dt := .tup [toD p.1, toD p.2]
def dRule (r : List (Tm × Tm) × (Tm × Tm)) : Dt := .tup [.lst (r.1.map dSay), dSay r.2]
abbrev SAt (H : Hp) (p : Tm × Tm) (v : V) : Prop := DAt H (dSay p) v
abbrev SAts (H : Hp) (ps : List (Tm × Tm)) (vs : List V) : Prop := DAts H (ps.map dSay) vs
abbrev RAt (H : Hp) (r : List (Tm × Tm) × (Tm × Tm)) (v : V) : Prop := DAt H (dRule r) v
theorem SAt.out {H : Hp} {p : Tm × Tm} {v : V} (h : SAt H p v) : ∃ a v1 v2, v = .ref a ∧ H a = some (.tup [v1, v2]) ∧ TAt H p.1 v1 ∧ TAt H p.2 v2 := by
  obtain ⟨a, vs, e1, e2, u, r, e3, h1, u2, r2, e4, h2, e5⟩ := h
  have e5 : r2 = [] := e5
  subst e5; subst e4; subst e3
  exact ⟨a, u, u2, e1, e2, h1, h2⟩
theorem SAt.mk {H : Hp} {p : Tm × Tm} {a : Addr} {v1 v2 : V} (h : H a = some (.tup [v1, v2])) (h1 : TAt H p.1 v1) (h2 : TAt H p.2 v2) : SAt H p (.ref a) :=
  ⟨a, _, rfl, h, v1, _, rfl, h1, v2, _, rfl, h2, rfl⟩
theorem RAt.out {H : Hp} {r : List (Tm × Tm) × (Tm × Tm)} {v : V} (h : RAt H r v) : ∃ a l s vs, v = .ref a ∧ H a = some (.tup [.ref l, s]) ∧ H l = some (.lst vs) ∧ SAts H r.1 vs ∧ SAt H r.2 s := by
  obtain ⟨a, vs, e1, e2, u, q, e3, ⟨l, ws, e6, e7, h1⟩, u2, r2, e4, h2, e5⟩ := h
  have e5 : r2 = [] := e5
  subst e5; subst e4; subst e3; subst e6
  exact ⟨a, l, u2, ws, e1, e2, e7, h1, h2⟩
theorem RAt.mk {H : Hp} {r : List (Tm × Tm) × (Tm × Tm)} {a l : Addr} {s : V} {vs : List V} (h : H a = some (.tup [.ref l, s])) (hl : H l = some (.lst vs)) (h1 : SAts H r.1 vs) (h2 : SAt H r.2 s) : RAt H r (.ref a) :=
  ⟨a, _, rfl, h, _, _, rfl, ⟨l, vs, rfl, hl, h1⟩, s, _, rfl, h2, rfl⟩
theorem SAts.length {H : Hp} {ps : List (Tm × Tm)} {vs : List V} (h : SAts H ps vs) : vs.length = ps.length := by
  have := DAts.length h
  rw [List.length_map] at this
  exact this
theorem SAts.snoc {H : Hp} {ps : List (Tm × Tm)} {vs : List V} {i : Nat} {p : Tm × Tm} {v : V} (ht : ps[i]? = some p) (h : SAts H (ps.take i) vs) (h1 : SAt H p v) : SAts H (ps.take (i + 1)) (vs ++ [v]) := by
  obtain ⟨hi, e⟩ := List.getElem?_eq_some_iff.mp ht
  unfold SAts
  rw [List.take_succ_eq_append_getElem hi, e, List.map_append]
  exact DAts.append h (DAts.one h1)
theorem SAts.getV {H : Hp} {ps : List (Tm × Tm)} {vs : List V} {i : Nat} {v : V} (h : SAts H ps vs) (hv : vs[i]? = some v) : ∃ p, ps[i]? = some p ∧ SAt H p v := by
  have hi : i < ps.length := by rw [← h.length]; exact (List.getElem?_eq_some_iff.mp hv).1
  obtain ⟨u, h1, h2⟩ := DAts.get (d := dSay ps[i]) h (by rw [List.getElem?_map, List.getElem?_eq_getElem hi]; rfl)
  rw [hv] at h1
  cases h1
  exact ⟨_, List.getElem?_eq_getElem hi, h2⟩
/-- all of it small enough -/
def FitS (n m : Nat) (p : Tm × Tm) : Prop := (Fit n p.1 ∧ wt p.1 ≤ m) ∧ Fit n p.2 ∧ wt p.2 ≤ m
theorem FitS.dfit {n m : Nat} {p : Tm × Tm} (h : FitS n m p) (hm : m ≤ 900) : DFit (n + 2) (dSay p) := by
  refine ⟨by simp, fun d hd => ?_⟩
  rcases List.mem_cons.mp hd with rfl | hd
  · exact h.1.1.dfit (Nat.le_trans h.1.2 hm)
  · rw [List.mem_singleton.mp hd]
    exact h.2.1.dfit (Nat.le_trans h.2.2 hm)
theorem DFit.up : ∀ {n : Nat} {d : Dt}, DFit n d → DFit (n + 1) d
  | n, .non, _ => by cases n <;> trivial
  | n, .bl _, _ => by cases n <;> trivial
  | n, .int _, _ => by cases n <;> trivial
  | n, .str _, _ => by cases n <;> trivial
  | 0, .tup _, h => h.elim
  | 0, .lst _, h => h.elim
  | n + 1, .tup ds, h => ⟨h.1, fun d hd => DFit.up (h.2 d hd)⟩
  | n + 1, .lst ds, h => ⟨h.1, fun d hd => DFit.up (h.2 d hd)⟩
theorem rule_dfit {n m : Nat} {r : List (Tm × Tm) × (Tm × Tm)} (h : ∀ p ∈ r.1, FitS n m p) (h2 : FitS n m r.2) (hm : m ≤ 900) (hl : r.1.length ≤ 900) : DFit (n + 4) (dRule r) := by
  refine ⟨by simp, fun d hd => ?_⟩
  rcases List.mem_cons.mp hd with rfl | hd
  · refine ⟨by rw [List.length_map]; omega, fun d hd => ?_⟩
    obtain ⟨p, hp, rfl⟩ := List.mem_map.mp hd
    exact (h p hp).dfit hm
  · rw [List.mem_singleton.mp hd]
    exact (h2.dfit hm).up
def mirP (p : Tm × Tm) : Tm × Tm := (mir p.2, mir p.1)
theorem FitS.mir {n m : Nat} {p : Tm × Tm} (h : FitS n m p) : FitS n m (mirP p) := by
  refine ⟨⟨h.2.1.mir.1, ?_⟩, h.1.1.mir.1, ?_⟩
  · show wt (L2.mir p.2) ≤ m
    rw [wt_mir]
    exact h.2.2
  · show wt (L2.mir p.1) ≤ m
    rw [wt_mir]
    exact h.1.2
/-! ### a slice of ints -/
def cutI (ns : List Int) (lo hi : Option Int) : List Int := (ns.drop (HT.sIx ns.length 0 lo)).take (HT.sIx ns.length ns.length hi - HT.sIx ns.length 0 lo)
theorem cut_ints (ns : List Int) (lo hi : Option Int) : cutV (ns.map V.int) lo hi = (cutI ns lo hi).map V.int := by
  unfold cutV cutI
  rw [List.length_map, List.map_take, List.map_drop]
theorem cutI_len (ns : List Int) (lo hi : Option Int) : (cutI ns lo hi).length ≤ ns.length := by
  unfold cutI
  rw [List.length_take, List.length_drop]
  omega
theorem cutI_len2 (ns : List Int) (i j : Nat) : (cutI ns (some (i : Int)) (some (j : Int))).length ≤ j - i := by
  unfold cutI
  rw [List.length_take, List.length_drop, HT.sIx_nat, HT.sIx_nat]
  omega
theorem DFit.mono {n m : Nat} {d : Dt} (h : DFit n d) (hm : n ≤ m) : DFit m d := by
  obtain ⟨k, rfl⟩ := Nat.le.dest hm
  induction k with
  | zero => exact h
  | succ k ih => exact DFit.up (ih (by omega))
theorem FitS.mono {n m n' m' : Nat} {p : Tm × Tm} (h : FitS n m p) (h1 : n ≤ n') (h2 : m ≤ m') : FitS n' m' p := ⟨⟨h.1.1.mono h1, Nat.le_trans h.1.2 h2⟩, h.2.1.mono h1, Nat.le_trans h.2.2 h2⟩
end L2
set_option Elab.async false
set_option linter.all false
set_option maxRecDepth 100000
namespace L2
open PySem PySem.Spec PyProof.Rows
/-! ### the rules with the written part named: for a comprehension's block, whose reading may not speak of the block's own context -/
section
variable {X : Cx} (K : PySem.W.Frag)
theorem ix_listK (h : X.K = K := by rfl) : IxR X (rIxL K) := by subst h; exact ix_list
theorem ix_tupK (h : X.K = K := by rfl) : IxR X (rIxT K) := by subst h; exact ix_tup
theorem ix_seqK (h : X.K = K := by rfl) : IxR X (rIx K) := by subst h; exact ix_seq
theorem sl_listK (h : X.K = K := by rfl) : SlR X (rSlL K) := by subst h; exact sl_list
theorem sl_tupK (h : X.K = K := by rfl) : SlR X (rSlT K) := by subst h; exact sl_tup
theorem op_catTK (h : X.K = K := by rfl) : OpR X (binaryOp .Add) (rCatT K) := by subst h; exact op_catT
theorem op_in_seqK (h : X.K = K := by rfl) : OpR X (compareOp .In) (rIn K false) := by subst h; exact op_in_seq
theorem op_notIn_seqK (h : X.K = K := by rfl) : OpR X (compareOp .NotIn) (rIn K true) := by subst h; exact op_notIn_seq
theorem call_lenK (h : X.K = K := by rfl) : CallR X (.builtin "len") (fun xs H Q => ∃ x n, xs = [x] ∧ LenV K x H n ∧ Q (.int n) H) := by subst h; exact call_len
theorem call_list_ofK (h : X.K = K := by rfl) : CallR X (.type "list") (fun xs H Q => ∃ p ys, xs = [.ref p] ∧ (SqL K H p ys ∨ SqT K H p ys) ∧ ∀ l, H l = none → Q (.ref l) (upd H l (.lst ys))) := by subst h; exact call_list_of
theorem call_tuple_ofK (h : X.K = K := by rfl) : CallR X (.type "tuple") (fun xs H Q => ∃ p ys, xs = [.ref p] ∧ ((SqL K H p ys ∧ ∀ l, H l = none → Q (.ref l) (upd H l (.tup ys))) ∨ (SqT K H p ys ∧ Q (.ref p) H))) := by subst h; exact call_tuple_of
end
end L2
set_option maxRecDepth 100000
namespace L2
open PySem
/-! ### texts of terms, as codes -/
abbrev Cs := List Nat
def glue (j : Cs) : List Cs → Cs
  | [] => []
  | [s] => s
  | s :: r :: q => s ++ j ++ glue j (r :: q)
def jAnd : Cs := [32, 38, 32]
def jOr : Cs := [32, 124, 32]
def jOf (w : Str) : Cs := if w = "both" then jAnd else jOr
def wrN (w : Str) (ss : List Cs) : Cs := if w = "not" then 33 :: ss.headD [] else if ss = [] then w.cps.toList else 40 :: (glue (jOf w) ss ++ [41])
mutual
def wr : Tm → Cs
  | .name x => x.cps.toList
  | .node w ts => wrN w (wrs ts)
def wrs : List Tm → List Cs
  | [] => []
  | t :: ts => wr t :: wrs ts
end
theorem wrs_map : ∀ ts : List Tm, wrs ts = ts.map wr
  | [] => rfl
  | t :: ts => by rw [wrs, wrs_map ts, List.map_cons]
theorem wr_node (w : Str) (ts : List Tm) : wr (.node w ts) = wrN w (ts.map wr) := by rw [wr, wrs_map]
def cNone : Cs := [110, 111, 110, 101]
def cAll : Cs := [97, 108, 108]
theorem c_none : ("none" : Str).cps.toList = cNone := by decide +kernel
theorem c_all : ("all" : Str).cps.toList = cAll := by decide +kernel
theorem wr_none : wr (.node "none" []) = cNone := by decide +kernel
theorem wr_all : wr (.node "all" []) = cAll := by decide +kernel
theorem wr_not (t : Tm) : wr (.node "not" [t]) = 33 :: wr t := by
  rw [wr_node]
  unfold wrN
  rw [if_pos rfl]
  rfl
theorem wr_many {w : Str} {ts : List Tm} (hw : w = "both" ∨ w = "either") (h : ts ≠ []) : wr (.node w ts) = 40 :: (glue (jOf w) (ts.map wr) ++ [41]) := by
  rw [wr_node]
  unfold wrN
  rw [if_neg (by rcases hw with rfl | rfl <;> decide +kernel), if_neg (by simpa using h)]
/-! ### the reading -/
def isL (c : Nat) : Bool := decide (97 ≤ c) && decide (c ≤ 122)
def nmOk (s : Cs) : Bool := decide (1 ≤ s.length) && decide (s.length ≤ 8)
def pLeaf (s : Cs) : Option (Tm × Cs) :=
  let wd := s.takeWhile isL
  if wd = cNone then some (.node "none" [], s.dropWhile isL) else if wd = cAll then some (.node "all" [], s.dropWhile isL) else if nmOk wd then some (.name ⟨wd.toArray⟩, s.dropWhile isL) else none
def pMore (p : Cs → Option (Tm × Cs)) (j : Cs) : Nat → Cs → Option (List Tm × Cs)
  | 0, s => some ([], s)
  | f + 1, s => if j.isPrefixOf s = true then (match p (s.drop 3) with
      | none => none
      | some (t, r) => match pMore p j f r with
        | none => none
        | some (ts, r') => some (t :: ts, r')) else some ([], s)
def kindAt (r : Cs) : Str := if jAnd.isPrefixOf r = true then "both" else "either"
def pTerm : Nat → Cs → Option (Tm × Cs)
  | 0, _ => none
  | n + 1, s => match s with
    | 33 :: r => (match pTerm n r with
      | none => none
      | some (t, r') => some (.node "not" [t], r'))
    | 40 :: r => (match pTerm n r with
      | none => none
      | some (t, r1) => match pMore (pTerm n) (jOf (kindAt r1)) (r1.length + 1) r1 with
        | none => none
        | some (ts, r2) => match ts, r2 with
          | [], _ => none
          | u :: us, 41 :: r3 => some (.node (kindAt r1) (t :: u :: us), r3)
          | _, _ => none)
    | s => pLeaf s
/-! ### what is read is what is written -/
theorem all_isL {s : Cs} (h : ∀ c ∈ s, 97 ≤ c ∧ c ≤ 122) : ∀ c ∈ s, isL c = true := fun c hc => by
  have := h c hc
  unfold isL
  simp [this.1, this.2]
theorem isL_iff {c : Nat} : isL c = true ↔ 97 ≤ c ∧ c ≤ 122 := by
  unfold isL
  simp
/-- nothing behind that goes on a word -/
def Stops (r : Cs) : Prop := ∀ c q, r = c :: q → isL c = false
theorem take_word {s r : Cs} (h : ∀ c ∈ s, isL c = true) (hr : Stops r) : (s ++ r).takeWhile isL = s ∧ (s ++ r).dropWhile isL = r := by
  induction s with
  | nil =>
    cases r with
    | nil => exact ⟨rfl, rfl⟩
    | cons c q =>
      have := hr c q rfl
      simp [List.takeWhile_cons, List.dropWhile_cons, this]
  | cons c q ih =>
    have h1 := h c (by simp)
    obtain ⟨a, b⟩ := ih fun d hd => h d (by simp [hd])
    constructor
    · rw [List.cons_append, List.takeWhile_cons, if_pos h1, a]
    · rw [List.cons_append, List.dropWhile_cons, if_pos h1, b]
theorem c_none_l : ∀ c ∈ cNone, isL c = true := by decide
theorem c_all_l : ∀ c ∈ cAll, isL c = true := by decide
theorem pLeaf_none {r : Cs} (hr : Stops r) : pLeaf (cNone ++ r) = some (.node "none" [], r) := by
  obtain ⟨a, b⟩ := take_word c_none_l hr
  unfold pLeaf
  rw [a, b]
  rfl
theorem pLeaf_all {r : Cs} (hr : Stops r) : pLeaf (cAll ++ r) = some (.node "all" [], r) := by
  obtain ⟨a, b⟩ := take_word c_all_l hr
  unfold pLeaf
  rw [a, b]
  rfl
theorem cs_ne {x y : Str} (h : x ≠ y) : x.cps.toList ≠ y.cps.toList := fun e => h (str_ext (Array.toList_inj.mp e))
theorem pLeaf_name {x : Str} {r : Cs} (h : Nm x) (hr : Stops r) : pLeaf (x.cps.toList ++ r) = some (.name x, r) := by
  obtain ⟨a, b⟩ := take_word (all_isL h.low) hr
  unfold pLeaf
  rw [a, b]
  have h1 := h.pos
  have h2 := h.most
  have hl : x.cps.toList.length = x.length := rfl
  have h3 : nmOk x.cps.toList = true := by unfold nmOk; rw [hl]; simp [h1, h2]
  simp only
  rw [if_neg (by rw [← c_none]; exact cs_ne h.nn), if_neg (by rw [← c_all]; exact cs_ne h.na), if_pos h3]
theorem head_l {s : Cs} (h : ∀ c ∈ s, isL c = true) (h1 : 1 ≤ s.length) (r : Cs) : ∃ c q, s ++ r = c :: q ∧ isL c = true := by
  cases s with
  | nil => simp at h1
  | cons c q => exact ⟨c, q ++ r, rfl, h c (by simp)⟩
/-- a text that begins with a letter is a leaf -/
theorem pTerm_leaf {n : Nat} {c : Nat} {q : Cs} (h : isL c = true) : pTerm (n + 1) (c :: q) = pLeaf (c :: q) := by
  have h := isL_iff.mp h
  have a : c ≠ 33 := by omega
  have b : c ≠ 40 := by omega
  unfold pTerm
  split
  · rename_i e; simp at e; omega
  · rename_i e; simp at e; omega
  · rfl
theorem pTerm_none {n : Nat} {r : Cs} (hr : Stops r) : pTerm (n + 1) (cNone ++ r) = some (.node "none" [], r) := by
  have e : cNone ++ r = 110 :: ([111, 110, 101] ++ r) := rfl
  rw [e, pTerm_leaf (by decide), ← e]
  exact pLeaf_none hr
theorem pTerm_all {n : Nat} {r : Cs} (hr : Stops r) : pTerm (n + 1) (cAll ++ r) = some (.node "all" [], r) := by
  have e : cAll ++ r = 97 :: ([108, 108] ++ r) := rfl
  rw [e, pTerm_leaf (by decide), ← e]
  exact pLeaf_all hr
theorem stop_j {w : Str} (q : Cs) : Stops (jOf w ++ q) := by
  unfold jOf
  split
  · intro c r e
    simp [jAnd] at e
    rw [← e.1]
    decide
  · intro c r e
    simp [jOr] at e
    rw [← e.1]
    decide
theorem stop_b (q : Cs) : Stops (41 :: q) := by
  intro c r e
  simp at e
  rw [← e.1]
  decide
/-- the parts behind the first, each with its joint ahead -/
def tailOf (j : Cs) : List Cs → Cs
  | [] => []
  | s :: r => j ++ s ++ tailOf j r
theorem glue_tail (j : Cs) : ∀ (s : Cs) (r : List Cs), glue j (s :: r) = s ++ tailOf j r
  | s, [] => by simp [glue, tailOf]
  | s, a :: r => by
    rw [glue, glue_tail j a r, tailOf]
    simp
theorem pre_j (j q : Cs) : j.isPrefixOf (j ++ q) = true := by simp
theorem j_len (w : Str) : (jOf w).length = 3 := by unfold jOf; split <;> rfl
theorem no_pre_b (w : Str) (q : Cs) : (jOf w).isPrefixOf (41 :: q) = false := by unfold jOf; split <;> rfl
theorem stop_tail {w : Str} {ss : List Cs} {q : Cs} : Stops (tailOf (jOf w) ss ++ 41 :: q) := by
  cases ss with
  | nil => exact stop_b q
  | cons s r =>
    rw [tailOf, List.append_assoc, List.append_assoc]
    exact stop_j _
theorem pMore_wr {n : Nat} {w : Str} (ih : ∀ t r, Fit n t → Stops r → pTerm (n + 1) (wr t ++ r) = some (t, r)) : ∀ (ts : List Tm) (f : Nat) (q : Cs), (∀ t ∈ ts, Fit n t) → ts.length < f →
    pMore (pTerm (n + 1)) (jOf w) f (tailOf (jOf w) (ts.map wr) ++ 41 :: q) = some (ts, 41 :: q)
  | [], f, q, _, hf => by
    cases f with
    | zero => simp at hf
    | succ f =>
      show pMore _ _ (f + 1) (41 :: q) = _
      rw [pMore, if_neg (by rw [no_pre_b]; decide)]
  | t :: ts, f, q, h, hf => by
    cases f with
    | zero => simp at hf
    | succ f =>
      have e : tailOf (jOf w) ((t :: ts).map wr) ++ 41 :: q = jOf w ++ (wr t ++ (tailOf (jOf w) (ts.map wr) ++ 41 :: q)) := by
        rw [List.map_cons, tailOf]
        simp
      rw [e, pMore, if_pos (pre_j _ _)]
      have e2 : (jOf w ++ (wr t ++ (tailOf (jOf w) (ts.map wr) ++ 41 :: q))).drop 3 = wr t ++ (tailOf (jOf w) (ts.map wr) ++ 41 :: q) := by
        rw [← j_len w, List.drop_left]
      rw [e2, ih t _ (h t (by simp)) stop_tail]
      simp only
      rw [pMore_wr ih ts f q (fun u hu => h u (by simp [hu])) (by simp at hf; omega)]
theorem tail_len (j : Cs) (hj : 1 ≤ j.length) : ∀ ss : List Cs, ss.length ≤ (tailOf j ss).length
  | [] => by simp [tailOf]
  | s :: r => by
    have := tail_len j hj r
    rw [tailOf, List.length_append, List.length_append, List.length_cons]
    omega
theorem kind_and (q : Cs) : kindAt (jAnd ++ q) = "both" := by
  unfold kindAt
  rw [if_pos (by simp)]
theorem kind_or (q : Cs) : kindAt (jOr ++ q) = "either" := by
  unfold kindAt
  rw [if_neg (by simp [jAnd, jOr])]
theorem kind_of {w : Str} (hw : w = "both" ∨ w = "either") (q : Cs) : kindAt (jOf w ++ q) = w := by
  rcases hw with rfl | rfl
  · have e : jOf "both" = jAnd := by decide +kernel
    rw [e]; exact kind_and q
  · have e : jOf "either" = jOr := by decide +kernel
    rw [e]; exact kind_or q
theorem pTerm_wr : ∀ (n : Nat) (t : Tm) (r : Cs), Fit n t → Stops r → pTerm (n + 1) (wr t ++ r) = some (t, r)
  | n, .name x, r, h, hr => by
    have h : Nm x := by cases n <;> exact h
    rw [wr]
    obtain ⟨c, q, e, hc⟩ := head_l (all_isL h.low) h.pos r
    rw [e, pTerm_leaf hc, ← e]
    exact pLeaf_name h hr
  | 0, .node w ts, r, h, hr => by
    obtain ⟨h1, h2⟩ := h
    subst h2
    rcases h1 with ⟨rfl, _⟩ | ⟨rfl, _⟩ | ⟨_, h1⟩ | ⟨_, h1⟩ | ⟨_, h1⟩
    · rw [wr_none]
      exact pTerm_none hr
    · rw [wr_all]
      exact pTerm_all hr
    · simp at h1
    · simp at h1
    · simp at h1
  | n + 1, .node w ts, r, h, hr => by
    obtain ⟨h1, h2⟩ := h
    have ih : ∀ t r, Fit n t → Stops r → pTerm (n + 1) (wr t ++ r) = some (t, r) := fun t r => pTerm_wr n t r
    have many : (w = "both" ∨ w = "either") → 2 ≤ ts.length → pTerm (n + 1 + 1) (wr (.node w ts) ++ r) = some (.node w ts, r) := fun hw hl => by
      match ts, hl with
      | t :: u :: us, _ =>
        rw [wr_many hw (by simp), List.map_cons, glue_tail]
        have e : 40 :: (wr t ++ tailOf (jOf w) ((u :: us).map wr) ++ [41]) ++ r = 40 :: (wr t ++ (tailOf (jOf w) ((u :: us).map wr) ++ 41 :: r)) := by simp
        rw [e]
        show (match pTerm (n + 1) (wr t ++ (tailOf (jOf w) ((u :: us).map wr) ++ 41 :: r)) with
          | none => none
          | some (t, r1) => match pMore (pTerm (n + 1)) (jOf (kindAt r1)) (r1.length + 1) r1 with
            | none => none
            | some (ts, r2) => match ts, r2 with
              | [], _ => none
              | u :: us, 41 :: r3 => some (Tm.node (kindAt r1) (t :: u :: us), r3)
              | _, _ => none) = _
        rw [ih t _ (h2 t (by simp)) stop_tail]
        simp only
        have ek : kindAt (tailOf (jOf w) ((u :: us).map wr) ++ 41 :: r) = w := by
          rw [List.map_cons, tailOf, List.append_assoc, List.append_assoc]
          exact kind_of hw _
        rw [ek, pMore_wr ih (u :: us) _ r (fun x hx => h2 x (List.mem_cons_of_mem _ hx)) (by
          have := tail_len (jOf w) (by rw [j_len]; omega) ((u :: us).map wr)
          rw [List.length_append]
          rw [List.length_map] at this
          omega)]
        rfl
    rcases h1 with ⟨rfl, h1⟩ | ⟨rfl, h1⟩ | ⟨rfl, h1⟩ | ⟨rfl, h1⟩ | ⟨rfl, h1⟩
    · have : ts = [] := List.eq_nil_of_length_eq_zero h1
      subst this
      rw [wr_none]
      exact pTerm_none hr
    · have : ts = [] := List.eq_nil_of_length_eq_zero h1
      subst this
      rw [wr_all]
      exact pTerm_all hr
    · match ts, h1 with
      | [t], _ =>
        rw [wr_not]
        show (match pTerm (n + 1) (wr t ++ r) with | none => none | some (t, r') => some (Tm.node "not" [t], r')) = _
        rw [ih t r (h2 t (by simp)) hr]
    · exact many (.inl rfl) h1
    · exact many (.inr rfl) h1
/-! ### and nothing else is read -/
theorem pLeaf_sound {s r : Cs} {t : Tm} (h : pLeaf s = some (t, r)) : s = wr t ++ r ∧ ∀ n, Fit n t := by
  unfold pLeaf at h
  have e := List.takeWhile_append_dropWhile (p := isL) (l := s)
  simp only at h
  split at h
  · rename_i h1
    cases h
    rw [h1] at e
    refine ⟨by rw [wr_none]; exact e.symm, fun n => ?_⟩
    cases n with
    | zero => exact ⟨.inl ⟨rfl, rfl⟩, rfl⟩
    | succ n => exact ⟨.inl ⟨rfl, rfl⟩, fun _ z => nomatch z⟩
  · rename_i h1
    split at h
    · rename_i h2
      cases h
      rw [h2] at e
      refine ⟨by rw [wr_all]; exact e.symm, fun n => ?_⟩
      cases n with
      | zero => exact ⟨.inr (.inl ⟨rfl, rfl⟩), rfl⟩
      | succ n => exact ⟨.inr (.inl ⟨rfl, rfl⟩), fun _ z => nomatch z⟩
    · rename_i h2
      split at h
      · rename_i h3
        cases h
        unfold nmOk at h3
        simp only [Bool.and_eq_true, decide_eq_true_eq] at h3
        have nm : Nm ⟨(s.takeWhile isL).toArray⟩ := ⟨by simpa [Str.length] using h3.1, by simpa [Str.length] using h3.2, fun c hc => isL_iff.mp (by
            have hc : c ∈ s.takeWhile isL := by simpa using hc
            have := List.all_takeWhile (p := isL) (l := s)
            exact List.all_eq_true.mp this c hc), fun z => h1 (by
            have := congrArg (fun x : Str => x.cps.toList) z
            rw [c_none] at this
            simpa using this), fun z => h2 (by
            have := congrArg (fun x : Str => x.cps.toList) z
            rw [c_all] at this
            simpa using this)⟩
        refine ⟨by rw [wr]; simpa using e.symm, fun n => ?_⟩
        cases n <;> exact nm
      · cases h
theorem pre_split {j s : Cs} (h : j.isPrefixOf s = true) : s = j ++ s.drop j.length := by
  obtain ⟨q, rfl⟩ := List.isPrefixOf_iff_prefix.mp h
  rw [List.drop_left]
theorem pMore_sound {p : Cs → Option (Tm × Cs)} {w : Str} {G : Tm → Prop} (hp : ∀ s t r, p s = some (t, r) → s = wr t ++ r ∧ G t) : ∀ (f : Nat) (s : Cs) (ts : List Tm) (r : Cs), pMore p (jOf w) f s = some (ts, r) → s = tailOf (jOf w) (ts.map wr) ++ r ∧ ∀ t ∈ ts, G t
  | 0, s, ts, r, h => by
    rw [pMore] at h
    cases h
    exact ⟨rfl, fun _ z => nomatch z⟩
  | f + 1, s, ts, r, h => by
    rw [pMore] at h
    split at h
    · rename_i hj
      split at h
      · cases h
      · rename_i t r1 e1
        split at h
        · cases h
        · rename_i us r2 e2
          cases h
          obtain ⟨a, b⟩ := hp _ _ _ e1
          obtain ⟨c, d⟩ := pMore_sound hp f r1 us _ e2
          refine ⟨?_, fun x hx => ?_⟩
          · have e := pre_split hj
            rw [j_len] at e
            rw [List.map_cons, tailOf, e, a, c]
            simp
          · rcases List.mem_cons.mp hx with rfl | hx
            · exact b
            · exact d x hx
    · cases h
      exact ⟨rfl, fun _ z => nomatch z⟩
theorem kind_is (r : Cs) : kindAt r = "both" ∨ kindAt r = "either" := by
  unfold kindAt
  split
  · exact .inl rfl
  · exact .inr rfl
theorem pTerm_sound : ∀ (n : Nat) (s : Cs) (t : Tm) (r : Cs), pTerm (n + 1) s = some (t, r) → s = wr t ++ r ∧ Fit n t
  | 0, s, t, r, h => by
    unfold pTerm at h
    split at h
    · rw [pTerm] at h; cases h
    · rw [pTerm] at h; cases h
    · obtain ⟨a, b⟩ := pLeaf_sound h
      exact ⟨a, b 0⟩
  | n + 1, s, t, r, h => by
    have ih := pTerm_sound n
    unfold pTerm at h
    split at h
    · split at h
      · cases h
      · rename_i q u r' e
        cases h
        obtain ⟨a, b⟩ := ih _ _ _ e
        refine ⟨by rw [wr_not, a]; rfl, .inr (.inr (.inl ⟨rfl, rfl⟩)), fun x hx => ?_⟩
        rw [List.mem_singleton.mp hx]
        exact b
    · split at h
      · cases h
      · rename_i q u r1 e
        split at h
        · cases h
        · rename_i ts r2 e2
          split at h
          · cases h
          · rename_i x us r3
            cases h
            obtain ⟨a, b⟩ := ih _ _ _ e
            obtain ⟨c, d⟩ := pMore_sound (G := Fit n) (w := kindAt r1) ih _ _ _ _ e2
            refine ⟨?_, ?_, fun y hy => ?_⟩
            · rw [wr_many (kind_is r1) (by simp), List.map_cons, glue_tail, a]
              generalize jOf (kindAt r1) = j at c
              rw [c]
              simp
            · rcases kind_is r1 with k | k
              · exact .inr (.inr (.inr (.inl ⟨k, by simp⟩)))
              · exact .inr (.inr (.inr (.inr ⟨k, by simp⟩)))
            · rcases List.mem_cons.mp hy with rfl | hy
              · exact b
              · exact d y hy
          · cases h
    · obtain ⟨a, b⟩ := pLeaf_sound h
      exact ⟨a, b _⟩
end L2
set_option maxRecDepth 100000
namespace L2
open PySem
def toS (s : Cs) : Str := ⟨s.toArray⟩
def ofS (x : Str) : Cs := x.cps.toList
theorem toS_ofS (x : Str) : toS (ofS x) = x := by cases x; simp [toS, ofS]
theorem ofS_toS (s : Cs) : ofS (toS s) = s := by simp [toS, ofS]
theorem toS_app (a b : Cs) : toS a ++ toS b = toS (a ++ b) := by
  show (⟨a.toArray ++ b.toArray⟩ : Str) = ⟨(a ++ b).toArray⟩
  congr 1
  simp
theorem toS_len (a : Cs) : (toS a).length = a.length := by simp [toS, Str.length]
theorem toS_inj {a b : Cs} (h : toS a = toS b) : a = b := by
  have := congrArg ofS h
  rwa [ofS_toS, ofS_toS] at this
theorem glued_fold (j : Cs) : ∀ (r : List Cs) (acc : Cs), ((r.map toS).foldl (fun acc p => acc ++ (toS j).cps ++ p.cps) acc.toArray) = (acc ++ tailOf j r).toArray
  | [], acc => by simp [tailOf]
  | s :: r, acc => by
    rw [List.map_cons, List.foldl_cons]
    have e : acc.toArray ++ (toS j).cps ++ (toS s).cps = (acc ++ j ++ s).toArray := by simp [toS]
    rw [e, glued_fold j r, tailOf]
    simp
theorem glued_toS (j : Cs) (ss : List Cs) : Builtin.Str.glued (toS j) (ss.map toS) = toS (glue j ss) := by
  cases ss with
  | nil => rfl
  | cons s r =>
    show (⟨(r.map toS).foldl (fun acc p => acc ++ (toS j).cps ++ p.cps) (toS s).cps⟩ : Str) = _
    rw [glue_tail, show (toS s).cps = s.toArray from rfl, glued_fold]
    rfl
def wrS (t : Tm) : Str := toS (wr t)
/-! sayings and rules -/
def jUnder : Cs := [32, 60, 32]
def jComma : Cs := [44, 32]
def jArrow : Cs := [32, 61, 62, 32]
def wrSay (p : Tm × Tm) : Cs := wr p.1 ++ jUnder ++ wr p.2
def wrRule (r : List (Tm × Tm) × (Tm × Tm)) : Cs := if r.1 = [] then wrSay r.2 else glue jComma (r.1.map wrSay) ++ jArrow ++ wrSay r.2
/-! how long -/
theorem tail_bound {j : Cs} (hj : j.length ≤ 3) : ∀ ts : List Tm, (∀ t ∈ ts, (wr t).length + 3 ≤ 13 * wt t) → (tailOf j (ts.map wr)).length ≤ 13 * wts ts
  | [], _ => by simp [tailOf]
  | t :: ts, h => by
    have a := h t (by simp)
    have b := tail_bound hj ts fun u hu => h u (by simp [hu])
    rw [List.map_cons, tailOf, List.length_append, List.length_append, wts]
    omega
theorem wr_len : ∀ (n : Nat) (t : Tm), Fit n t → (wr t).length + 3 ≤ 13 * wt t
  | n, .name x, h => by
    have h : Nm x := by cases n <;> exact h
    have := h.most
    rw [wr, wt]
    have : x.cps.toList.length = x.length := rfl
    omega
  | 0, .node w ts, h => by
    obtain ⟨h1, h2⟩ := h
    subst h2
    rcases h1 with ⟨rfl, _⟩ | ⟨rfl, _⟩ | ⟨_, h1⟩ | ⟨_, h1⟩ | ⟨_, h1⟩
    · rw [wr_none, wt, wts]; decide
    · rw [wr_all, wt, wts]; decide
    · simp at h1
    · simp at h1
    · simp at h1
  | n + 1, .node w ts, h => by
    obtain ⟨h1, h2⟩ := h
    have ih : ∀ t ∈ ts, (wr t).length + 3 ≤ 13 * wt t := fun t ht => wr_len n t (h2 t ht)
    have many : (w = "both" ∨ w = "either") → 2 ≤ ts.length → (wr (.node w ts)).length + 3 ≤ 13 * wt (.node w ts) := fun hw hl => by
      match ts, hl with
      | t :: us, hl =>
        rw [wr_many hw (by simp), List.map_cons, glue_tail]
        have a := ih t (by simp)
        have b := tail_bound (j := jOf w) (by rw [j_len]; omega) us fun u hu => ih u (by simp [hu])
        rw [wt, wts, List.length_cons, List.length_append, List.length_append, List.length_singleton]
        omega
    rcases h1 with ⟨rfl, h1⟩ | ⟨rfl, h1⟩ | ⟨rfl, h1⟩ | ⟨rfl, h1⟩ | ⟨rfl, h1⟩
    · have : ts = [] := List.eq_nil_of_length_eq_zero h1
      subst this
      rw [wr_none, wt, wts]; decide
    · have : ts = [] := List.eq_nil_of_length_eq_zero h1
      subst this
      rw [wr_all, wt, wts]; decide
    · match ts, h1 with
      | [t], _ =>
        have a := ih t (by simp)
        rw [wr_not, wt, wts, wts, List.length_cons]
        omega
    · exact many (.inl rfl) h1
    · exact many (.inr rfl) h1
/-! leaves, as the reading counts them -/
mutual
def lvs : Tm → Nat
  | .name _ => 1
  | .node _ ts => if ts.isEmpty then 1 else lvss ts
def lvss : List Tm → Nat
  | [] => 0
  | t :: ts => lvs t + lvss ts
end
end L2
set_option maxRecDepth 100000
namespace L2
open PySem PySem.Builtin PySem.Builtin.Str PySem.StrLaws
/-! ### split(sep) where the pieces are free of one of its signs -/
def atB (s sub : Str) (hi i : Nat) : Bool := decide (i + sub.length ≤ hi) && subAt s sub i
theorem occ_filter (s sub : Str) (hi limit : Nat) : ∀ (l : List Nat) (st : Array Nat × Nat), l.Pairwise (· < ·) → (∀ i ∈ l, atB s sub hi i = true → st.snd ≤ i) →
    (∀ i ∈ l, ∀ j ∈ l, atB s sub hi i = true → atB s sub hi j = true → i < j → i + sub.length ≤ j) → st.fst.size + l.length ≤ limit →
    (forIn l st (occBody s sub hi limit)).run.fst.toList = st.fst.toList ++ l.filter (atB s sub hi)
  | [], st, _, _, _, _ => by simp
  | a :: l, st, hp, hf, hs, hn => by
    have hp' := (List.pairwise_cons.mp hp)
    rw [List.forIn_cons]
    unfold occBody
    rw [List.length_cons] at hn
    by_cases hc : atB s sub hi a = true
    · have h1 := hf a (by simp) hc
      have h2 := hc
      unfold atB at h2
      simp only [Bool.and_eq_true, decide_eq_true_eq] at h2
      rw [if_pos ⟨⟨⟨by omega, h1⟩, h2.1⟩, h2.2⟩]
      have := occ_filter s sub hi limit l (st.fst.push a, a + sub.length) hp'.2 (fun i hi' ha => hs a (by simp) i (by simp [hi']) hc ha (hp'.1 i hi')) (fun i hi' j hj => hs i (by simp [hi']) j (by simp [hj])) (by simp; omega)
      refine Eq.trans this ?_
      rw [List.filter_cons, if_pos hc]
      simp
    · have h3 : ¬ (((st.fst.size < limit ∧ st.snd ≤ a) ∧ a + sub.length ≤ hi) ∧ subAt s sub a = true) := fun z => hc (by unfold atB; simp [z.1.2, z.2])
      rw [if_neg h3]
      have := occ_filter s sub hi limit l st hp'.2 (fun i hi' ha => hf i (by simp [hi']) ha) (fun i hi' j hj => hs i (by simp [hi']) j (by simp [hj])) (by omega)
      refine Eq.trans this ?_
      rw [List.filter_cons, if_neg hc]
/-- where the joints stand -/
def cuts (w : Nat) : Nat → List Cs → List Nat
  | _, [] => []
  | _, [_] => []
  | a, p :: q :: r => (a + p.length) :: cuts w (a + p.length + w) (q :: r)
theorem cuts_ge (w : Nat) : ∀ (a : Nat) (ps : List Cs), ∀ i ∈ cuts w a ps, a ≤ i
  | a, [], i, h => nomatch h
  | a, [_], i, h => nomatch h
  | a, p :: q :: r, i, h => by
    rw [cuts] at h
    rcases List.mem_cons.mp h with rfl | h
    · omega
    · have := cuts_ge w _ (q :: r) i h
      omega
theorem cuts_sorted (w : Nat) (hw : 1 ≤ w) : ∀ (a : Nat) (ps : List Cs), (cuts w a ps).Pairwise fun i j => i + w ≤ j
  | a, [] => .nil
  | a, [_] => .nil
  | a, p :: q :: r => by
    rw [cuts]
    exact List.pairwise_cons.mpr ⟨fun j hj => cuts_ge w _ (q :: r) j hj, cuts_sorted w hw _ (q :: r)⟩
/-- one sign of the joint, that stands in no piece -/
structure Mark (y : Cs) (k m : Nat) : Prop where
  at_ : y[k]? = some m
  once : ∀ j, y[j]? = some m → j = k
theorem marks {y : Cs} {k m : Nat} (M : Mark y k m) : ∀ (ps : List Cs) (a i : Nat), (∀ p ∈ ps, m ∉ p) → (glue y ps)[i]? = some m → ∃ c ∈ cuts y.length a ps, i + a = c + k
  | [], a, i, _, h => by simp [glue] at h
  | [p], a, i, hm, h => by
    rw [glue] at h
    exact absurd (List.mem_of_getElem? h) (hm p (by simp))
  | p :: q :: r, a, i, hm, h => by
    rw [glue, List.append_assoc] at h
    by_cases h1 : i < p.length
    · rw [List.getElem?_append_left h1] at h
      exact absurd (List.mem_of_getElem? h) (hm p (by simp))
    · rw [List.getElem?_append_right (by omega)] at h
      by_cases h2 : i - p.length < y.length
      · rw [List.getElem?_append_left h2] at h
        refine ⟨_, List.mem_cons_self, ?_⟩
        have := M.once _ h
        omega
      · rw [List.getElem?_append_right (by omega)] at h
        obtain ⟨c, hc, e⟩ := marks M (q :: r) (a + p.length + y.length) _ (fun x hx => hm x (by simp [hx])) h
        exact ⟨c, List.mem_cons_of_mem _ hc, by omega⟩
theorem at_cut (y : Cs) : ∀ (ps : List Cs) (a c : Nat) (ahead : Cs), ahead.length = a → c ∈ cuts y.length a ps → ∃ b, ahead ++ glue y ps = b ++ y ++ (ahead ++ glue y ps).drop (c + y.length) ∧ b.length = c
  | [], _, _, _, _, h => nomatch h
  | [_], _, _, _, _, h => nomatch h
  | p :: q :: r, a, c, ahead, ha, h => by
    rw [cuts] at h
    rw [glue]
    rcases List.mem_cons.mp h with rfl | h
    · refine ⟨ahead ++ p, ?_, by simp [ha]⟩
      have e : ahead ++ (p ++ y ++ glue y (q :: r)) = (ahead ++ p ++ y) ++ glue y (q :: r) := by simp
      have l : (ahead ++ p ++ y).length = a + p.length + y.length := by simp [ha]; omega
      rw [e, ← l, List.drop_left]
    · have := at_cut y (q :: r) (a + p.length + y.length) c (ahead ++ p ++ y) (by simp [ha]; omega) h
      have e : ahead ++ (p ++ y ++ glue y (q :: r)) = (ahead ++ p ++ y) ++ glue y (q :: r) := by simp
      rw [e]
      exact this
theorem at_iff {y : Cs} {k m : Nat} (M : Mark y k m) {ps : List Cs} (hm : ∀ p ∈ ps, m ∉ p) (i : Nat) : atB (toS (glue y ps)) (toS y) (toS (glue y ps)).length i = true ↔ i ∈ cuts y.length 0 ps := by
  have hk : k < y.length := (List.getElem?_eq_some_iff.mp M.at_).1
  unfold atB
  simp only [Bool.and_eq_true, decide_eq_true_eq, toS_len]
  rw [subAt_eq]
  have e1 : (toS (glue y ps)).cps.toList = glue y ps := by simp [toS]
  have e2 : (toS y).cps.toList = y := by simp [toS]
  have e3 : (toS y).length = y.length := toS_len y
  rw [e1, e2, e3, beq_iff_eq]
  constructor
  · rintro ⟨h1, h2⟩
    have : (glue y ps)[i + k]? = some m := by
      have h3 : (((glue y ps).drop i).take y.length)[k]? = some m := by rw [h2]; exact M.at_
      rw [List.getElem?_take_of_lt hk, List.getElem?_drop] at h3
      exact h3
    obtain ⟨c, hc, e⟩ := marks M ps 0 _ hm this
    have : i = c := by omega
    rw [this]
    exact hc
  · intro h
    obtain ⟨b, e, hb⟩ := at_cut y ps 0 i [] rfl h
    rw [List.nil_append] at e
    have hl := congrArg List.length e
    rw [List.length_append, List.length_append] at hl
    refine ⟨by omega, ?_⟩
    generalize (glue y ps).drop (i + y.length) = d at e
    rw [e, ← hb, List.append_assoc, List.drop_left, List.take_left]
theorem sorted_ext : ∀ {l l' : List Nat}, l.Pairwise (· < ·) → l'.Pairwise (· < ·) → (∀ i, i ∈ l ↔ i ∈ l') → l = l'
  | [], [], _, _, _ => rfl
  | [], b :: r, _, _, h => by have := (h b).mpr (by simp); cases this
  | a :: l, [], _, _, h => by have := (h a).mp (by simp); cases this
  | a :: l, b :: r, h1, h2, h => by
    have p1 := List.pairwise_cons.mp h1
    have p2 := List.pairwise_cons.mp h2
    have e : a = b := by
      have x := (h a).mp (by simp)
      have z := (h b).mpr (by simp)
      rcases List.mem_cons.mp x with x | x
      · exact x
      · rcases List.mem_cons.mp z with z | z
        · exact z.symm
        · have := p2.1 a x
          have := p1.1 b z
          omega
    subst e
    congr 1
    refine sorted_ext p1.2 p2.2 fun i => ⟨fun hi => ?_, fun hi => ?_⟩
    · rcases List.mem_cons.mp ((h i).mp (by simp [hi])) with z | z
      · have := p1.1 i hi; omega
      · exact z
    · rcases List.mem_cons.mp ((h i).mpr (by simp [hi])) with z | z
      · have := p2.1 i hi; omega
      · exact z
theorem occ_cuts {y : Cs} {k m : Nat} (M : Mark y k m) {ps : List Cs} (hm : ∀ p ∈ ps, m ∉ p) : occurrences (toS (glue y ps)) (toS y) 0 (toS (glue y ps)).length ((toS (glue y ps)).length + 1) = cuts y.length 0 ps := by
  have hk : k < y.length := (List.getElem?_eq_some_iff.mp M.at_).1
  have srt := cuts_sorted y.length (by omega) 0 ps
  have lt : (cuts y.length 0 ps).Pairwise (· < ·) := srt.imp (by intro a b h; omega)
  have far : ∀ i ∈ cuts y.length 0 ps, ∀ j ∈ cuts y.length 0 ps, i < j → i + y.length ≤ j := by
    intro i hi j hj hij
    have : ∀ {l : List Nat}, l.Pairwise (fun i j => i + y.length ≤ j) → i ∈ l → j ∈ l → i + y.length ≤ j := by
      intro l
      induction l with
      | nil => intro _ h _; cases h
      | cons a l ih =>
        intro hp hi hj
        have q := List.pairwise_cons.mp hp
        rcases List.mem_cons.mp hi with e1 | hi'
        · rcases List.mem_cons.mp hj with e2 | hj'
          · omega
          · rw [e1]; exact q.1 j hj'
        · rcases List.mem_cons.mp hj with e2 | hj'
          · have := q.1 i hi'; omega
          · exact ih q.2 hi' hj'
    exact this srt hi hj
  rw [occ_eq, occ_filter]
  · simp only [List.nil_append]
    refine sorted_ext ?_ lt fun i => ?_
    · exact (List.pairwise_lt_range' (s := 0) (step := 1) (n := _) (by decide)).filter _
    · rw [List.mem_filter, at_iff M hm]
      constructor
      · exact fun h => h.2
      · intro h
        refine ⟨?_, h⟩
        have h2 := (at_iff M hm i).mpr h
        unfold atB at h2
        simp only [Bool.and_eq_true, decide_eq_true_eq] at h2
        simp [List.mem_range']
        omega
  · exact List.pairwise_lt_range' (s := 0) (step := 1) (n := _) (by decide)
  · intro i _ _; exact Nat.zero_le _
  · intro i _ j _ hi hj hij
    rw [toS_len]
    exact far i ((at_iff M hm i).mp hi) j ((at_iff M hm j).mp hj) hij
  · simp
theorem sub_toS (x : Cs) (a c : Nat) : strSub (toS x) a c = toS ((x.drop a).take (c - a)) := by
  apply Str.ext'
  apply Array.toList_inj.mp
  rw [strSub_toList]
  simp [toS]
theorem parts_cuts (y : Cs) : ∀ (ps : List Cs) (a : Nat) (x : Cs), ps ≠ [] → x.drop a = glue y ps → a ≤ x.length → partsFrom (toS x) y.length a (cuts y.length a ps) = ps.map toS
  | [], _, _, h, _, _ => absurd rfl h
  | [p], a, x, _, e, ha => by
    show [strSub (toS x) a (toS x).length] = [toS p]
    rw [glue] at e
    rw [sub_toS, toS_len, e, List.take_of_length_le]
    have := congrArg List.length e
    rw [List.length_drop] at this
    omega
  | p :: q :: r, a, x, _, e, ha => by
    rw [cuts, partsFrom]
    rw [glue] at e
    have e1 : (x.drop a).take (a + p.length - a) = p := by
      rw [e, show a + p.length - a = p.length by omega, List.append_assoc, List.take_left]
    have e2 : x.drop (a + p.length + y.length) = glue y (q :: r) := by
      rw [show a + p.length + y.length = a + (p ++ y).length by rw [List.length_append]; omega, ← List.drop_drop, e, List.drop_left]
    have l := congrArg List.length e
    rw [List.length_drop, List.length_append, List.length_append] at l
    rw [sub_toS, e1, parts_cuts y (q :: r) _ x (by simp) e2 (by omega)]
    rfl
/-- split at the joint gives the pieces -/
theorem split_glue {y : Cs} {k m : Nat} (M : Mark y k m) {ps : List Cs} (hne : ps ≠ []) (hm : ∀ p ∈ ps, m ∉ p) (hy : ∀ c ∈ y, c < 256) : Txt.split (toS (glue y ps)) (toS y) = ps.map toS := by
  have one : cuts y.length 0 ps = [] → toS (glue y ps) = toS (glue y ps) ∧ ps.map toS = [toS (glue y ps)] := fun h => by
    match ps, hne, h with
    | [p], _, _ => exact ⟨rfl, rfl⟩
    | p :: q :: r, _, h => rw [cuts] at h; cases h
  unfold Txt.split
  rw [occ_cuts M hm]
  have hk : k < y.length := (List.getElem?_eq_some_iff.mp M.at_).1
  by_cases hc : cuts y.length 0 ps = []
  · rw [hc]
    simp only [List.isEmpty_nil, if_true, ite_self]
    exact (one hc).2.symm
  · have hlen : y.length ≤ (glue y ps).length := by
      match ps, hne, hc with
      | [p], _, hc => exact absurd rfl hc
      | p :: q :: r, _, _ => rw [glue, List.length_append, List.length_append]; omega
    have hkind : Builtin.Str.strKind (toS y) = 1 := by
      unfold Builtin.Str.strKind
      rw [if_pos]
      rw [Array.all_eq_true]
      intro i hi
      have hi' : i < y.length := by simpa [toS] using hi
      have := hy _ (List.getElem_mem hi')
      exact decide_eq_true (by simpa [toS] using this)
    have hk2 : 1 ≤ Builtin.Str.strKind (toS (glue y ps)) := by
      unfold Builtin.Str.strKind
      split
      · omega
      · split <;> omega
    rw [if_neg (by rw [hkind, toS_len, toS_len]; simp; omega), if_neg (by simpa using hc), toS_len, partsBetween_eq]
    exact parts_cuts y ps 0 _ hne rfl (Nat.zero_le _)
/-- what is split is glued again -/
theorem glue_split (x y : Cs) : toS (glue y ((Txt.split (toS x) (toS y)).map ofS)) = toS x := by
  have e : ∀ l : List Str, (l.map ofS).map toS = l := fun l => by
    induction l with
    | nil => rfl
    | cons a r ih => rw [List.map_cons, List.map_cons, ih, toS_ofS]
  rw [← glued_toS, e]
  unfold Txt.split
  split
  · rfl
  · split
    · rfl
    · exact glued_between_self (toS x) (toS y) _
theorem split_ne (x y : Str) : Txt.split x y ≠ [] := by
  unfold Txt.split
  split
  · simp
  · split
    · simp
    · rw [partsBetween_eq]
      obtain ⟨p, r, e⟩ := partsFrom_ne x y.length 0 (occurrences x y 0 x.length (x.length + 1))
      rw [e]
      simp
theorem mark_under : Mark jUnder 1 60 := ⟨rfl, fun j h => by
  match j with
  | 0 => cases h
  | 1 => rfl
  | 2 => cases h
  | j + 3 => cases h⟩
theorem mark_comma : Mark jComma 0 44 := ⟨rfl, fun j h => by
  match j with
  | 0 => rfl
  | 1 => cases h
  | j + 2 => cases h⟩
theorem mark_arrow : Mark jArrow 1 61 := ⟨rfl, fun j h => by
  match j with
  | 0 => cases h
  | 1 => rfl
  | 2 => cases h
  | 3 => cases h
  | j + 4 => cases h⟩
/-! ### the signs of texts -/
def okc (c : Nat) : Prop := (97 ≤ c ∧ c ≤ 122) ∨ c = 32 ∨ c = 33 ∨ c = 38 ∨ c = 40 ∨ c = 41 ∨ c = 124
theorem okc_j {w : Str} : ∀ c ∈ jOf w, okc c := by
  intro c hc
  unfold jOf at hc
  unfold okc
  split at hc
  · simp [jAnd] at hc; omega
  · simp [jOr] at hc; omega
theorem okc_tail {w : Str} : ∀ ts : List Tm, (∀ t ∈ ts, ∀ c ∈ wr t, okc c) → ∀ c ∈ tailOf (jOf w) (ts.map wr), okc c
  | [], _, c, hc => by simp [tailOf] at hc
  | t :: ts, h, c, hc => by
    rw [List.map_cons, tailOf] at hc
    rcases List.mem_append.mp hc with hc | hc
    · rcases List.mem_append.mp hc with hc | hc
      · exact okc_j c hc
      · exact h t (by simp) c hc
    · exact okc_tail ts (fun u hu => h u (by simp [hu])) c hc
theorem wr_okc : ∀ (n : Nat) (t : Tm), Fit n t → ∀ c ∈ wr t, okc c
  | n, .name x, h, c, hc => by
    have h : Nm x := by cases n <;> exact h
    rw [wr] at hc
    exact .inl (h.low c hc)
  | 0, .node w ts, h, c, hc => by
    obtain ⟨h1, h2⟩ := h
    subst h2
    rcases h1 with ⟨rfl, _⟩ | ⟨rfl, _⟩ | ⟨_, h1⟩ | ⟨_, h1⟩ | ⟨_, h1⟩
    · rw [wr_none] at hc; simp [cNone] at hc; unfold okc; omega
    · rw [wr_all] at hc; simp [cAll] at hc; unfold okc; omega
    · simp at h1
    · simp at h1
    · simp at h1
  | n + 1, .node w ts, h, c, hc => by
    obtain ⟨h1, h2⟩ := h
    have ih : ∀ t ∈ ts, ∀ c ∈ wr t, okc c := fun t ht => wr_okc n t (h2 t ht)
    have many : (w = "both" ∨ w = "either") → 2 ≤ ts.length → okc c := fun hw hl => by
      match ts, hl with
      | t :: us, hl =>
        rw [wr_many hw (by simp), List.map_cons, glue_tail] at hc
        rcases List.mem_cons.mp hc with rfl | hc
        · unfold okc; omega
        · rcases List.mem_append.mp hc with hc | hc
          · rcases List.mem_append.mp hc with hc | hc
            · exact ih t (by simp) c hc
            · exact okc_tail us (fun u hu => ih u (by simp [hu])) c hc
          · simp at hc; unfold okc; omega
    rcases h1 with ⟨rfl, h1⟩ | ⟨rfl, h1⟩ | ⟨rfl, h1⟩ | ⟨rfl, h1⟩ | ⟨rfl, h1⟩
    · have : ts = [] := List.eq_nil_of_length_eq_zero h1
      subst this
      rw [wr_none] at hc; simp [cNone] at hc; unfold okc; omega
    · have : ts = [] := List.eq_nil_of_length_eq_zero h1
      subst this
      rw [wr_all] at hc; simp [cAll] at hc; unfold okc; omega
    · match ts, h1 with
      | [t], _ =>
        rw [wr_not] at hc
        rcases List.mem_cons.mp hc with rfl | hc
        · unfold okc; omega
        · exact ih t (by simp) c hc
    · exact many (.inl rfl) h1
    · exact many (.inr rfl) h1
def FitP (n : Nat) (p : Tm × Tm) : Prop := Fit n p.1 ∧ Fit n p.2
theorem say_glue (p : Tm × Tm) : wrSay p = glue jUnder [wr p.1, wr p.2] := by rfl
theorem say_okc {n : Nat} {p : Tm × Tm} (h : FitP n p) : ∀ c ∈ wrSay p, okc c ∨ c = 60 := fun c hc => by
  unfold wrSay at hc
  rcases List.mem_append.mp hc with hc | hc
  · rcases List.mem_append.mp hc with hc | hc
    · exact .inl (wr_okc n _ h.1 c hc)
    · simp [jUnder] at hc; unfold okc; omega
  · exact .inl (wr_okc n _ h.2 c hc)
theorem glue_mem {j : Cs} {c : Nat} : ∀ {ss : List Cs}, c ∈ glue j ss → c ∈ j ∨ ∃ s ∈ ss, c ∈ s
  | [], h => by simp [glue] at h
  | [s], h => .inr ⟨s, by simp, h⟩
  | s :: r :: q, h => by
    rw [glue] at h
    rcases List.mem_append.mp h with h | h
    · rcases List.mem_append.mp h with h | h
      · exact .inr ⟨s, by simp, h⟩
      · exact .inl h
    · rcases glue_mem h with h | ⟨x, hx, h⟩
      · exact .inl h
      · exact .inr ⟨x, by simp [hx], h⟩
theorem split_say {n : Nat} {p : Tm × Tm} (h : FitP n p) : Txt.split (toS (wrSay p)) (toS jUnder) = [toS (wr p.1), toS (wr p.2)] := by
  rw [say_glue]
  refine split_glue mark_under (by simp) (fun s hs hm => ?_) (by decide)
  have : okc 60 := by
    rcases List.mem_cons.mp hs with rfl | hs
    · exact wr_okc n _ h.1 _ hm
    · rw [List.mem_singleton.mp hs] at hm
      exact wr_okc n _ h.2 _ hm
  unfold okc at this
  omega
theorem split_rule {n : Nat} {ps : List (Tm × Tm)} {q : Tm × Tm} (hne : ps ≠ []) (h : ∀ p ∈ ps, FitP n p) (hq : FitP n q) : Txt.split (toS (wrRule (ps, q))) (toS jArrow) = [toS (glue jComma (ps.map wrSay)), toS (wrSay q)] := by
  have e : wrRule (ps, q) = glue jArrow [glue jComma (ps.map wrSay), wrSay q] := by
    unfold wrRule
    rw [if_neg hne]
    rfl
  rw [e]
  refine split_glue mark_arrow (by simp) (fun s hs hm => ?_) (by decide)
  rcases List.mem_cons.mp hs with rfl | hs
  · rcases glue_mem hm with z | ⟨x, hx, z⟩
    · simp [jComma] at z
    · obtain ⟨p, hp, rfl⟩ := List.mem_map.mp hx
      have := say_okc (h p hp) _ z
      unfold okc at this
      omega
  · rw [List.mem_singleton.mp hs] at hm
    have := say_okc hq _ hm
    unfold okc at this
    omega
theorem split_rule0 {n : Nat} {q : Tm × Tm} (hq : FitP n q) : Txt.split (toS (wrRule ([], q))) (toS jArrow) = [toS (wrSay q)] := by
  have e : wrRule ([], q) = glue jArrow [wrSay q] := rfl
  rw [e]
  refine split_glue mark_arrow (by simp) (fun s hs hm => ?_) (by decide)
  rw [List.mem_singleton.mp hs] at hm
  have := say_okc hq _ hm
  unfold okc at this
  omega
theorem split_prems {n : Nat} {ps : List (Tm × Tm)} (hne : ps ≠ []) (h : ∀ p ∈ ps, FitP n p) : Txt.split (toS (glue jComma (ps.map wrSay))) (toS jComma) = (ps.map wrSay).map toS := by
  refine split_glue mark_comma (by simpa using hne) (fun s hs hm => ?_) (by decide)
  obtain ⟨p, hp, rfl⟩ := List.mem_map.mp hs
  have := say_okc (h p hp) _ hm
  unfold okc at this
  omega
/-! ### texts, put together -/
theorem s_not : ("!" : Str) = toS [33] := by decide +kernel
theorem s_open : ("(" : Str) = toS [40] := by decide +kernel
theorem s_close : (")" : Str) = toS [41] := by decide +kernel
theorem s_and : (" & " : Str) = toS jAnd := by decide +kernel
theorem s_or : (" | " : Str) = toS jOr := by decide +kernel
theorem s_under : (" < " : Str) = toS jUnder := by decide +kernel
theorem s_comma : (", " : Str) = toS jComma := by decide +kernel
theorem s_arrow : (" => " : Str) = toS jArrow := by decide +kernel
theorem s_empty : ("" : Str) = toS [] := by decide +kernel
theorem wrS_name (x : Str) : wrS (.name x) = x := by unfold wrS; rw [wr]; exact toS_ofS x
theorem wrS_none : wrS (.node "none" []) = "none" := by decide +kernel
theorem wrS_all : wrS (.node "all" []) = "all" := by decide +kernel
theorem wrS_not (t : Tm) : wrS (.node "not" [t]) = "!" ++ wrS t := by
  unfold wrS
  rw [wr_not, s_not, toS_app]
  rfl
theorem wrS_len {n : Nat} {t : Tm} (h : Fit n t) : (wrS t).length + 3 ≤ 13 * wt t := by
  unfold wrS
  rw [toS_len]
  exact wr_len n t h
theorem tail_snoc (j : Cs) : ∀ (ss : List Cs) (s : Cs), tailOf j (ss ++ [s]) = tailOf j ss ++ (j ++ s)
  | [], s => by simp [tailOf]
  | a :: r, s => by rw [List.cons_append, tailOf, tailOf, tail_snoc j r s]; simp
theorem j_both : jOf "both" = jAnd := by decide +kernel
theorem j_either : jOf "either" = jOr := by decide +kernel
theorem glue_snoc (j : Cs) : ∀ (ss : List Cs) (s : Cs), ss ≠ [] → glue j (ss ++ [s]) = glue j ss ++ (j ++ s)
  | [], _, h => absurd rfl h
  | a :: r, s, _ => by rw [List.cons_append, glue_tail, glue_tail, tail_snoc]; simp
/-- the text of some sayings, the comma between -/
def prS (ps : List (Tm × Tm)) : Str := toS (glue jComma (ps.map wrSay))
def sayS (p : Tm × Tm) : Str := toS (wrSay p)
def ruleS (r : List (Tm × Tm) × (Tm × Tm)) : Str := toS (wrRule r)
theorem sayS_eq (p : Tm × Tm) : sayS p = wrS p.1 ++ " < " ++ wrS p.2 := by
  unfold sayS wrSay wrS
  rw [s_under, toS_app, toS_app]
theorem sayS_len {n : Nat} {p : Tm × Tm} (h1 : Fit n p.1) (h2 : Fit n p.2) : 3 ≤ (sayS p).length ∧ (sayS p).length ≤ 13 * wt p.1 + 13 * wt p.2 := by
  have a := wrS_len h1
  have b := wrS_len h2
  unfold sayS wrSay
  unfold wrS at a b
  rw [toS_len] at a b ⊢
  rw [List.length_append, List.length_append]
  have : jUnder.length = 3 := rfl
  omega
theorem ruleS_nil (q : Tm × Tm) : ruleS ([], q) = sayS q := rfl
theorem ruleS_cons {ps : List (Tm × Tm)} (q : Tm × Tm) (h : ps ≠ []) : ruleS (ps, q) = prS ps ++ " => " ++ sayS q := by
  unfold ruleS prS sayS wrRule
  rw [if_neg h, s_arrow, toS_app, toS_app]
theorem prS_len {m : Nat} : ∀ ps : List (Tm × Tm), (∀ p ∈ ps, (sayS p).length ≤ m) → (prS ps).length ≤ ps.length * (m + 2)
  | [], _ => by unfold prS; rw [toS_len]; simp [glue]
  | [p], h => by
    have := h p (by simp)
    unfold prS
    rw [toS_len]
    unfold sayS at this
    rw [toS_len] at this
    simp only [List.map_cons, List.map_nil, glue, List.length_cons, List.length_nil]
    omega
  | p :: q :: r, h => by
    have a := h p (by simp)
    have b := prS_len (m := m) (q :: r) fun x hx => h x (by simp [hx])
    unfold prS at b ⊢
    unfold sayS at a
    rw [toS_len] at a b ⊢
    rw [List.map_cons, List.map_cons, glue, List.length_append, List.length_append]
    rw [List.map_cons] at b
    have : jComma.length = 2 := rfl
    rw [List.length_cons, Nat.add_mul]
    omega
end L2
set_option Elab.async false
set_option linter.all false
set_option maxRecDepth 100000
namespace L2
open PySem PySem.Spec PyProof.Rows PySem.Builtin PySem.Builtin.Str
section
variable {X : Cx}
theorem mt_starts3 : MtR X "str.startswith" (fun x xs H Q => ∃ (z y : Str) (i : Int), x = .str z ∧ xs = [.str y, .int i] ∧ Q (.bl (Txt.startswith3 z y i)) H) := by
  intro pins s σ H x xs v us Q I rx rs h
  obtain ⟨z, y, i, rfl, rfl, q⟩ := h
  obtain ⟨tz, rfl⟩ := rx
  obtain ⟨u, w', rfl, ru, rw'⟩ := vals2 rs
  obtain ⟨tu, rfl⟩ := ru
  obtain ⟨ti, rfl⟩ := rw'
  exact SC.startswith3 ⟨.bl _, H, I, rfl, q⟩
theorem vals_strs : ∀ l : List (Str × Tok), Vals ((l.map (·.1)).map V.str) (strValues l)
  | [] => .nil
  | (x, t) :: r => .cons ⟨t, rfl⟩ (vals_strs r)
theorem mt_split : MtR X "str.split" (fun x xs H Q => ∃ z y : Str, x = .str z ∧ xs = [.str y] ∧ (y.length == 0) = false ∧ z.length + 2 ≤ sizeLine ∧ ∀ p, H p = none → Q (.ref p) (upd H p (.lst ((Txt.split z y).map V.str)))) := by
  intro pins s σ H x xs v us Q I rx rs h
  obtain ⟨z, y, rfl, rfl, hy, hsz, q⟩ := h
  obtain ⟨tz, rfl⟩ := rx
  obtain ⟨u, rfl, ru⟩ := vals1 rs
  obtain ⟨tu, rfl⟩ := ru
  have hn : (partsBetween z (occurrences z y 0 z.length (z.length + 1)) y.length).length ≤ sizeLine := by
    have e1 := StrLaws.occ_length_le z y 0 z.length (z.length + 1)
    rw [length_partsBetween]; omega
  have go : ∀ (l : List (Str × Tok)) (tk : Nat), l.map (·.1) = Txt.split z y → l.length ≤ sizeLine → EP X pins σ Q (.ref s.heap.objs.size) { s with heap := s.heap.push { cls := .type "list", data := .seq (strValues l).toArray }, toks := tk } := fun l tk hl hz => by
    have I2 := I.lnew (t' := tk) (ys := (l.map (·.1)).map V.str) (vals_strs l) (by rw [List.length_map, List.length_map]; exact hz)
    refine ⟨.ref s.heap.objs.size, _, I2, rfl, ?_⟩
    rw [hl]
    exact q _ I.fresh
  cases h1 : (decide (z.length < y.length) || decide (Builtin.Str.strKind z < Builtin.Str.strKind y))
  · cases hf : (occurrences z y 0 z.length (z.length + 1)).isEmpty
    · refine call_meets F.slot_str_split (typeIs_str _ _ _) F.entry_str_split (F.args_str_split_2 _ _) (meets_str_split_sep z y tz tu h1 hy hf (by omega) hn) ?_
      show wants _ _ _ { s with toks := _, heap := s.heap.push { cls := .type "list", data := .seq (strsFrom s.toks (partsBetween z (occurrences z y 0 z.length (z.length + 1)) y.length)).toArray } }
      rw [strsFrom_eq]
      refine go (numbered s.toks _) _ ((numbered_texts _ _).trans ((if_neg (ne_true_of_eq_false h1)).trans (if_neg (ne_true_of_eq_false hf))).symm) ?_
      have := congrArg List.length (numbered_texts s.toks (partsBetween z (occurrences z y 0 z.length (z.length + 1)) y.length))
      rw [List.length_map] at this
      omega
    · exact call_meets F.slot_str_split (typeIs_str _ _ _) F.entry_str_split (F.args_str_split_2 _ _) (meets_str_split_not_found z y tz tu h1 hy hf)
        (go [(z, tz)] s.toks ((if_neg (ne_true_of_eq_false h1)).trans (if_pos hf)).symm (by show 1 ≤ sizeLine; decide))
  · exact call_meets F.slot_str_split (typeIs_str _ _ _) F.entry_str_split (F.args_str_split_2 _ _) (meets_str_split_cannot_occur z y tz tu h1)
      (go [(z, tz)] s.toks (if_pos h1).symm (by show 1 ≤ sizeLine; decide))
end
theorem sw_eq (x y : Cs) (k : Nat) (hk : k ≤ x.length) : Txt.startswith3 (toS x) (toS y) (k : Int) = y.isPrefixOf (x.drop k) := by
  unfold Txt.startswith3
  have e : fromIndex (toS x).length (k : Int) = k := by
    rw [toS_len]
    unfold fromIndex
    rw [if_neg (by omega)]
    omega
  rw [e, StrLaws.subAt_eq, toS_len, toS_len]
  have e1 : (toS x).cps.toList = x := by simp [toS]
  have e2 : (toS y).cps.toList = y := by simp [toS]
  rw [e1, e2, Bool.eq_iff_iff, Bool.and_eq_true, List.isPrefixOf_iff_prefix, decide_eq_true_eq, beq_iff_eq]
  constructor
  · rintro ⟨h1, h2⟩
    rw [← h2]
    exact List.take_prefix _ _
  · rintro ⟨r, h⟩
    have hl := congrArg List.length h
    rw [List.length_append, List.length_drop] at hl
    refine ⟨by omega, ?_⟩
    rw [← h, List.take_left]
/-! ### methods and makers in one word -/
structure HasM (P : Program) (w : World) (K : PySem.W.Frag) (mg : Str → Option Value) (base : Heap) (k : Nat) (C : Addr) (m : Str) (ps : List Str) (sp : Sp) : Prop where
  ex : ∃ f fd, FnOk P w K mg base CX0 k f fd ps sp ∧ Binds K fd ps [] ∧ Meth K C m f
structure HasI (P : Program) (w : World) (K : PySem.W.Frag) (mg : Str → Option Value) (base : Heap) (k : Nat) (C : Addr) (x : Str) (ps : List Str) (sp : Sp) : Prop where
  ex : ∃ f fd, FnOk P w K mg base CX0 k f fd ps sp ∧ Binds K fd ps [] ∧ Mk K C f ∧ mg x = some (.ref C)
section
variable {X : Cx} {k : Nat} {C : Addr} {x m : Str} {ps : List Str} {sp : Sp} {p pos apos : Pos} {e o : Expr} {es : List Expr} {ta : TE} {t : TA}
theorem pe_methH {pl : Sem Bool} (h : HasM X.prog X.w X.K X.mg X.base k C m ps sp) (c : Cls X.K C) (hr : Room k X.A) (he : PE X o ta) (ha : PA X (e :: es) t)
    (hst : starEach (e :: es) X.env = (false, eval e X.env) :: starEach es X.env := by rfl) (hpl : (backTo pos (starEach es X.env)).any (·.1) = false := by rfl)
    (ht : eval (.Call (.Attribute o m apos) (e :: es) [] pos) X.env = (do
      let ov ← eval o X.env
      standAt apos.atName
      let (f, first) ← holding [ov] (getMethod ov m pl)
      callWith pos f first (backTo pos (starEach (e :: es) X.env)) (backToKw pos (keywordEach [] X.env))) := by rfl) :
    PE X (.Call (.Attribute o m apos) (e :: es) [] pos) (tMeth C m sp [] E0 ta t) := by
  obtain ⟨f, fd, F, b, mm⟩ := h.ex
  exact pe_meth (pl := pl) he c mm F hr b .nil pass0 ha hst hpl ht
theorem pe_methH0 {pl : Sem Bool} (h : HasM X.prog X.w X.K X.mg X.base k C m ps sp) (c : Cls X.K C) (hr : Room k X.A) (he : PE X o ta)
    (ht : eval (.Call (.Attribute o m apos) [] [] pos) X.env = (do
      let ov ← eval o X.env
      standAt apos.atName
      let (f, first) ← holding [ov] (getMethod ov m pl)
      callWith pos f first (backTo pos (starEach [] X.env)) (backToKw pos (keywordEach [] X.env))) := by rfl) :
    PE X (.Call (.Attribute o m apos) [] [] pos) (tMeth C m sp [] E0 ta tNil) := by
  obtain ⟨f, fd, F, b, mm⟩ := h.ex
  exact pe_meth0 (pl := pl) he c mm F hr b .nil pass0 ht
theorem pe_makeH (h : HasI X.prog X.w X.K X.mg X.base k C x ps sp) (hr : Room (k + 1) X.A) (hg : Gl X x) (ha : PA X (e :: es) t) (hdb : (x == ("__debug__" : Str)) = false := by decide)
    (he : starEach (e :: es) X.env = (false, eval e X.env) :: starEach es X.env := by rfl) (hpl : (backTo pos (starEach es X.env)).any (·.1) = false := by rfl) :
    PE X (.Call (.Name x p) (e :: es) [] pos) (tMake C sp [] E0 t) := by
  obtain ⟨f, fd, F, b, M, m⟩ := h.ex
  exact pe_make M F hr hg m b .nil pass0 ha hdb he hpl
end
/-! ### a reader of a text: the text, and the place of the first sign not yet read -/
def rdF (x : Cs) (k : Nat) : List (Str × V) := [("text", .str (toS x)), ("at", .int k)]
def RdAt (C : Addr) (H : Hp) (r : Addr) (x : Cs) (k : Nat) : Prop := ∃ dx, H r = some (.ins C dx (rdF x k))
theorem rd_text (x : Cs) (k : Nat) : (rdF x k).lookup ("text" : Str) = some (.str (toS x)) := by
  unfold rdF
  rw [List.lookup_cons]
  rw [show (("text" : Str) == "text") = true by decide +kernel]
theorem rd_at (x : Cs) (k : Nat) : (rdF x k).lookup ("at" : Str) = some (.int k) := by
  unfold rdF
  rw [List.lookup_cons, show (("at" : Str) == "text") = false by decide +kernel, List.lookup_cons, show (("at" : Str) == "at") = true by decide +kernel]
theorem rd_no (x : Cs) (k : Nat) {m : Str} (h1 : (m == ("text" : Str)) = false) (h2 : (m == ("at" : Str)) = false) : (rdF x k).lookup m = none := by
  unfold rdF
  rw [List.lookup_cons, h1, List.lookup_cons, h2]
  rfl
theorem rd_put (x : Cs) (k j : Nat) : putF "at" (.int j) (rdF x k) = rdF x j := by
  show (if ("text" : Str) = "at" then _ else (("text" : Str), V.str (toS x)) :: (if ("at" : Str) = "at" then [(("at" : Str), V.int j)] else _)) = _
  rw [if_neg (by decide +kernel), if_pos rfl]
  rfl
/-- all but the object at r as it was -/
def SameX (r : Addr) (H H' : Hp) : Prop := ∀ b o, H b = some o → b ≠ r → H' b = some o
theorem SameX.refl (r : Addr) (H : Hp) : SameX r H H := fun _ _ h _ => h
theorem SameX.trans {r : Addr} {H H1 H2 : Hp} (a : SameX r H H1) (b : SameX r H1 H2) : SameX r H H2 := fun c o h n => b c o (a c o h n) n
theorem Same.x {r : Addr} {H H' : Hp} (a : Same H H') : SameX r H H' := fun c o h _ => a c o h
theorem SameX.upd {r : Addr} {H H1 : Hp} {o : HO} (a : SameX r H H1) : SameX r H (L2.upd H1 r o) := fun c o' h n => by
  rw [upd_ne n]
  exact a c o' h n
theorem SameX.tups {r : Addr} {H H' : Hp} {C : Addr} {x : Cs} {k : Nat} (a : SameX r H H') (h : RdAt C H r x k) : TupSame H H' := fun b xs e => by
  obtain ⟨dx, h⟩ := h
  exact a b _ e (ne_of e h (by intro z; cases z))
theorem RdAt.same {C : Addr} {H H' : Hp} {r : Addr} {x : Cs} {k : Nat} (h : RdAt C H r x k) (e : Same H H') : RdAt C H' r x k := by
  obtain ⟨dx, h⟩ := h
  exact ⟨dx, e _ _ h⟩
theorem rd_new (x : Cs) : putF "at" (.int 0) (putF "text" (.str (toS x)) []) = rdF x 0 := by
  show (if ("text" : Str) = "at" then _ else (("text" : Str), V.str (toS x)) :: [(("at" : Str), V.int 0)]) = _
  rw [if_neg (by decide +kernel)]
  rfl
theorem slice_toS (x : Cs) {a b : Nat} (hab : a ≤ b) (hb : b ≤ x.length) : Txt.slice (toS x) (some (a : Int)) (some (b : Int)) = toS ((x.drop a).take (b - a)) := by
  have hl : (toS x).length = x.length := toS_len x
  have e1 : (toS x).cps.toList = x := by simp [toS]
  have pk := StrLaws.strSliceIndices_plain (len := (toS x).length) hab (by omega)
  unfold Txt.slice
  split
  · rename_i h
    rw [pk] at h
    simp at h
    have : a = 0 ∧ b = x.length := by omega
    obtain ⟨rfl, rfl⟩ := this
    simp
  · apply Str.ext'
    apply Array.toList_inj.mp
    have := StrLaws.sliced_plain (toS x) hab (by omega)
    rw [this, e1]
    simp [toS]
theorem tw_in {p : Nat → Bool} : ∀ {s : Cs} {j : Nat}, j < (s.takeWhile p).length → ∃ c, s[j]? = some c ∧ p c = true
  | [], j, h => by simp at h
  | c :: s, j, h => by
    rw [List.takeWhile_cons] at h
    split at h
    · rename_i hc
      cases j with
      | zero => exact ⟨c, rfl, hc⟩
      | succ j =>
        obtain ⟨d, h1, h2⟩ := tw_in (s := s) (j := j) (by simpa using h)
        exact ⟨d, by simpa using h1, h2⟩
    · simp at h
theorem tw_out {p : Nat → Bool} : ∀ {s : Cs}, (s.takeWhile p).length < s.length → ∃ c, s[(s.takeWhile p).length]? = some c ∧ p c = false
  | [], h => by simp at h
  | c :: s, h => by
    rw [List.takeWhile_cons] at h ⊢
    split at h
    · rename_i hc
      obtain ⟨d, h1, h2⟩ := tw_out (s := s) (by simpa using h)
      rw [if_pos hc]
      exact ⟨d, by simpa using h1, h2⟩
    · rename_i hc
      rw [if_neg hc]
      exact ⟨c, rfl, by simpa using hc⟩
theorem tw_le {p : Nat → Bool} (s : Cs) : (s.takeWhile p).length ≤ s.length := by
  have := congrArg List.length (List.takeWhile_append_dropWhile (p := p) (l := s))
  rw [List.length_append] at this
  omega
theorem tw_take {p : Nat → Bool} (s : Cs) : s.take (s.takeWhile p).length = s.takeWhile p := by
  have e := List.takeWhile_append_dropWhile (p := p) (l := s)
  generalize s.takeWhile p = a at e
  generalize s.dropWhile p = b at e
  rw [← e, List.take_left]
theorem dw_len {p : Nat → Bool} (s : Cs) : (s.dropWhile p).length = s.length - (s.takeWhile p).length := by
  have := congrArg List.length (List.takeWhile_append_dropWhile (p := p) (l := s))
  rw [List.length_append] at this
  omega
theorem SameX.new {r p : Addr} {H H1 : Hp} {o : HO} (a : SameX r H H1) (h : H p = none) : SameX r H (L2.upd H1 p o) := fun c o' hc n => by
  rw [upd_ne (ne_of_none hc h)]
  exact a c o' hc n
theorem big_lt {n : Nat} (h : n ≤ 1000000) : n < sizeLine := Nat.lt_of_le_of_lt h (by decide)
end L2
set_option Elab.async false
set_option linter.all false
set_option maxRecDepth 100000
set_option maxHeartbeats 8000000
namespace C
open PySem L2
seal PE PT PW PA PS PSs PG PGs PI PPs PO PSet PIf
def top (i : Nat) : Stmt := PySem.Challenge.pw_clashbook_k06_read_there_and_back.main.body.getD i (.Pass ⟨0, 0, 0, 0⟩)
abbrev s_law_cell_at : Stmt := top 29
theorem sc_law_cell_at : FnScope ["script", "k"] ["script", "k"] (defScope s_law_cell_at) := ⟨rfl, rfl, rfl, by decide +kernel, rfl, by decide +kernel, by decide +kernel⟩
abbrev s_law_name_by : Stmt := top 30
theorem sc_law_name_by : FnScope ["cell", "size", "letters", "made", "rest", "k"] ["cell", "size"] (defScope s_law_name_by) := ⟨rfl, rfl, rfl, by decide +kernel, rfl, by decide +kernel, by decide +kernel⟩
abbrev s_law_pool : Stmt := top 31
theorem sc_law_pool : FnScope ["script", "one", "two", "three", "pool"] ["script"] (defScope s_law_pool) := ⟨rfl, rfl, rfl, by decide +kernel, rfl, by decide +kernel, by decide +kernel⟩
abbrev s_law_leaf : Stmt := top 32
theorem sc_law_leaf : FnScope ["cell", "pool", "which"] ["cell", "pool"] (defScope s_law_leaf) := ⟨rfl, rfl, rfl, by decide +kernel, rfl, by decide +kernel, by decide +kernel⟩
abbrev s_law_stack : Stmt := top 33
theorem sc_law_stack : FnScope ["cells", "pool", "stack", "deep", "cell", "way", "parts", "low"] ["cells", "pool"] (defScope s_law_stack) := ⟨rfl, rfl, rfl, by decide +kernel, rfl, by decide +kernel, by decide +kernel⟩
abbrev s_law_whole_term : Stmt := top 34
theorem sc_law_whole_term : FnScope ["stack"] ["stack"] (defScope s_law_whole_term) := ⟨rfl, rfl, rfl, by decide +kernel, rfl, by decide +kernel, by decide +kernel⟩
def spCell (K : PySem.W.Frag) : Sp := fun vs H Q _ => ∃ (a : Addr) (ns : List Int) (k : Nat), vs = [.ref a, .int k] ∧ SqL K H a (ns.map V.int) ∧ Q (.int (ns.getD k 0)) H
def spName : Sp := fun vs H Q _ => ∃ c n : Int, vs = [.int c, .int n] ∧ ∀ x : Str, Nm x → Q (.str x) H
/-- three good names -/
def Pool (K : PySem.W.Frag) (H : Hp) (p : Addr) : Prop := ∃ x y z : Str, Nm x ∧ Nm y ∧ Nm z ∧ H p = some (.lst [.str x, .str y, .str z])
def spPool (K : PySem.W.Frag) : Sp := fun vs H Q _ => ∃ (a : Addr) (ns : List Int), vs = [.ref a] ∧ SqL K H a (ns.map V.int) ∧ ∀ p H', Same H H' → Pool K H' p → Q (.ref p) H'
def spLeaf (K : PySem.W.Frag) : Sp := fun vs H Q _ => ∃ (c : Int) (p : Addr), vs = [.int c, .ref p] ∧ Pool K H p ∧ ∀ v t H', Same H H' → TAt H' t v → Fit 0 t → wt t = 1 → Q v H'
def spStack (K : PySem.W.Frag) : Sp := fun vs H Q _ => ∃ (c p : Addr) (ns : List Int), vs = [.ref c, .ref p] ∧ SqL K H c (ns.map V.int) ∧ ns.length ≤ 63 ∧ Pool K H p ∧
  ∀ a vs ts H', Same H H' → H' a = some (.lst vs) → TAts H' ts vs → ts ≠ [] → (∀ t ∈ ts, Fit 17 t) → wts ts ≤ ns.length + 1 → Q (.ref a) H'
def whole : List Tm → Tm
  | [t] => t
  | ts => .node "both" ts
def spWhole : Sp := fun vs H Q _ => ∃ (a : Addr) (vs' : List V) (ts : List Tm) (m : Nat), vs = [.ref a] ∧ H a = some (.lst vs') ∧ TAts H ts vs' ∧ ts ≠ [] ∧ (∀ t ∈ ts, Fit 17 t) ∧ wts ts ≤ m ∧ m ≤ 100 ∧ ∀ v H', Same H H' → TAt H' (whole ts) v → Fit 18 (whole ts) → wt (whole ts) ≤ m + 1 → Q v H'
theorem Pool.same {K : PySem.W.Frag} {H H' : Hp} {p : Addr} (e : Same H H') (h : Pool K H p) : Pool K H' p := by
  obtain ⟨x, y, z, a, b, c, d⟩ := h
  exact ⟨x, y, z, a, b, c, e _ _ d⟩
section
variable {P : Program} {w : World} {K : PySem.W.Frag} {mg : Str → Option Value} {base : Heap} {f : Addr} {fd : FuncData}
theorem ok_cell (bi : Bi mg) (F : Fun K "_law_cell_at" "_law_cell_at" s_law_cell_at f fd) : FnOk P w K mg base CX0 1 f fd ["script", "k"] (spCell K) := by
  refine F.ok sc_law_cell_at (fun vs H Q E h => ?_) (fun cdv A outer s H vs Q E hr h => ?_)
  · obtain ⟨a, ns, k, rfl, _⟩ := h
    rfl
  obtain ⟨a, ns, k, rfl, hS, q⟩ := h
  refine ⟨_, (pss_cons (ps_if (pt_cmpR op_lt (pv 1) (pe_callB call_len rfl bi.len bt_len (pa_cons (pv 0) pa_nil)) (nomark _)) (pss_one (ps_ret (pe_ix ix_list (pv 0) (pv 1) (fun _ _ => rfl)))) pss_nil) (pss_one (ps_ret pe_int))), ?_⟩
  simp only [tSeq, tFor_eq, tLC_eq, iRng1, iRng2, iList, iTup, iStr, tIfS, tRet, tRetN, tNext, tAsg, gName, tVar, tC, tOp, rI0, rI, tTest, tB, rEq, rNe, tCall, tCons, tNil, tCB, tLst, tTup, tAnd, tOr, tNot, tAndV, tOrV, tNotV, tIf, tDrop, tSl, tPart, tNoPart, tChain, tUn, rU, L2.start, cx_K, bk_K, cx_calm, bk_calm, lenV_str, and_assoc, Option.join, List.length_map, List.length_append, decide_eq_true_eq, Bool.false_eq_true, if_false, if_true, Bool.not_true, Bool.not_false, Bool.not_eq_true', decide_eq_false_iff_not, Bool.true_eq_false, List.length_cons, List.length_nil, List.map_cons, List.map_nil, List.replicate, List.cons_append, List.nil_append, List.append_nil, List.getElem?_cons_zero, List.getElem?_cons_succ, List.set_cons_zero, List.set_cons_succ, Nat.reduceSub, Nat.reduceAdd, Option.some.injEq, V.int.injEq, V.str.injEq, V.bl.injEq, V.ref.injEq, List.cons.injEq, and_true, true_and, exists_eq_left', exists_eq_left, exists_and_left, exists_eq_right, exists_const]
  refine ⟨_, .inl ⟨_, hS, rfl⟩, ?_⟩
  split
  · rename_i hk
    rw [List.length_map] at hk
    exact ⟨a, _, k, _, rfl, rfl, hS, ix_nat hk, q⟩
  · rename_i hk
    rw [List.length_map] at hk
    rw [List.getD_eq_getElem?_getD, List.getElem?_eq_none (by omega)] at q
    exact q
/-- a letter at a place -/
theorem letter_at (c : Int) : ∃ d : Nat, atI ("abcdefghijklmnopqrstuvwxyz" : Str).cps.toList (c % 26) = some d ∧ 97 ≤ d ∧ d ≤ 122 := by
  have h : ∀ k : Fin 26, ∃ d : Nat, ("abcdefghijklmnopqrstuvwxyz" : Str).cps.toList[k.val]? = some d ∧ 97 ≤ d ∧ d ≤ 122 := by decide +kernel
  have h1 : 0 ≤ c % 26 := Int.emod_nonneg _ (by omega)
  have h2 : c % 26 < 26 := Int.emod_lt_of_pos _ (by omega)
  have e : c % 26 = ((c % 26).toNat : Nat) := by omega
  obtain ⟨d, h3, h4⟩ := h ⟨(c % 26).toNat, by omega⟩
  refine ⟨d, ?_, h4⟩
  rw [e]
  exact atI_nat h3
theorem ok_name (bi : Bi mg) (F : Fun K "_law_name_by" "_law_name_by" s_law_name_by f fd) : FnOk P w K mg base CX0 1 f fd ["cell", "size"] spName := by
  refine F.ok sc_law_name_by (fun vs H Q E h => ?_) (fun cdv A outer s H vs Q E hr h => ?_)
  · obtain ⟨c, n, rfl, _⟩ := h
    rfl
  obtain ⟨c, n, rfl, q⟩ := h
  refine ⟨_, (pss_cons (ps_set (i := 2) sc_law_name_by.nd rfl (Or.inl rfl) pe_str) (pss_cons (ps_set (i := 3) sc_law_name_by.nd rfl (Or.inl rfl) pe_str) (pss_cons (ps_set (i := 4) sc_law_name_by.nd rfl (Or.inl rfl) (pe_op op_mod (pv 0) (pe_op op_pow pe_int pe_int))) (pss_cons (ps_for PassesOwn.never rfl (pi_range1 rfl bi.range (pa_cons (pe_op op_add pe_int (pe_op op_mod (pv 1) pe_int)) pa_nil)) (pg_name (i := 5) sc_law_name_by.nd rfl (Or.inl rfl)) (pss_cons (ps_set (i := 3) sc_law_name_by.nd rfl (Or.inl rfl) (pe_op op_add_str (pv 3) (pe_ix ix_str (pv 2) (pe_op op_mod (pv 4) pe_int) (fun _ _ => rfl)))) (pss_one (ps_set (i := 4) sc_law_name_by.nd rfl (Or.inl rfl) (pe_op op_fdiv (pv 4) pe_int))))) (pss_cons (ps_if (PW.pt (pw_or (pt_cmpR op_eq (pv 3) pe_str (nomark _)) (pw_or1 (pt_cmpR op_eq (pv 3) pe_str (nomark _))))) (pss_one (ps_set (i := 3) sc_law_name_by.nd rfl (Or.inl rfl) (pe_op op_add_str (pv 3) pe_str))) pss_nil) (pss_one (ps_ret (pv 3)))))))), ?_⟩
  refine seq_abs fun N hN => ?_
  simp only [tSeq, tFor_eq, tLC_eq, iRng1, iRng2, iList, iTup, iStr, tIfS, tRet, tRetN, tNext, tAsg, gName, tVar, tC, tOp, rI0, rI, tTest, tB, rEq, rNe, tCall, tCons, tNil, tCB, tLst, tTup, tAnd, tOr, tNot, tAndV, tOrV, tNotV, tIf, tDrop, tSl, tPart, tNoPart, tChain, tUn, rU, L2.start, cx_K, bk_K, cx_calm, bk_calm, lenV_str, and_assoc, Option.join, List.length_map, List.length_append, decide_eq_true_eq, Bool.false_eq_true, if_false, if_true, Bool.not_true, Bool.not_false, Bool.not_eq_true', decide_eq_false_iff_not, Bool.true_eq_false, List.length_cons, List.length_nil, List.map_cons, List.map_nil, List.replicate, List.cons_append, List.nil_append, List.append_nil, List.getElem?_cons_zero, List.getElem?_cons_succ, List.set_cons_zero, List.set_cons_succ, Nat.reduceSub, Nat.reduceAdd, Option.some.injEq, V.int.injEq, V.str.injEq, V.bl.injEq, V.ref.injEq, List.cons.injEq, and_true, true_and, exists_eq_left', exists_eq_left, exists_and_left, exists_eq_right, exists_const]
  refine hN _ _ ?_
  refine seq_abs fun N hN => ?_
  simp only [tSeq, tFor_eq, tLC_eq, iRng1, iRng2, iList, iTup, iStr, tIfS, tRet, tRetN, tNext, tAsg, gName, tVar, tC, tOp, rI0, rI, tTest, tB, rEq, rNe, tCall, tCons, tNil, tCB, tLst, tTup, tAnd, tOr, tNot, tAndV, tOrV, tNotV, tIf, tDrop, tSl, tPart, tNoPart, tChain, tUn, rU, L2.start, cx_K, bk_K, cx_calm, bk_calm, lenV_str, and_assoc, Option.join, List.length_map, List.length_append, decide_eq_true_eq, Bool.false_eq_true, if_false, if_true, Bool.not_true, Bool.not_false, Bool.not_eq_true', decide_eq_false_iff_not, Bool.true_eq_false, List.length_cons, List.length_nil, List.map_cons, List.map_nil, List.replicate, List.cons_append, List.nil_append, List.append_nil, List.getElem?_cons_zero, List.getElem?_cons_succ, List.set_cons_zero, List.set_cons_succ, Nat.reduceSub, Nat.reduceAdd, Option.some.injEq, V.int.injEq, V.str.injEq, V.bl.injEq, V.ref.injEq, List.cons.injEq, and_true, true_and, exists_eq_left', exists_eq_left, exists_and_left, exists_eq_right, exists_const]
  refine hN _ _ ?_
  refine seq_abs fun N hN => ?_
  simp only [tSeq, tFor_eq, tLC_eq, iRng1, iRng2, iList, iTup, iStr, tIfS, tRet, tRetN, tNext, tAsg, gName, tVar, tC, tOp, rI0, rI, tTest, tB, rEq, rNe, tCall, tCons, tNil, tCB, tLst, tTup, tAnd, tOr, tNot, tAndV, tOrV, tNotV, tIf, tDrop, tSl, tPart, tNoPart, tChain, tUn, rU, L2.start, cx_K, bk_K, cx_calm, bk_calm, lenV_str, and_assoc, Option.join, List.length_map, List.length_append, decide_eq_true_eq, Bool.false_eq_true, if_false, if_true, Bool.not_true, Bool.not_false, Bool.not_eq_true', decide_eq_false_iff_not, Bool.true_eq_false, List.length_cons, List.length_nil, List.map_cons, List.map_nil, List.replicate, List.cons_append, List.nil_append, List.append_nil, List.getElem?_cons_zero, List.getElem?_cons_succ, List.set_cons_zero, List.set_cons_succ, Nat.reduceSub, Nat.reduceAdd, Option.some.injEq, V.int.injEq, V.str.injEq, V.bl.injEq, V.ref.injEq, List.cons.injEq, and_true, true_and, exists_eq_left', exists_eq_left, exists_and_left, exists_eq_right, exists_const]
  refine ⟨⟨by decide, by decide, by decide⟩, by decide, hN _ _ ?_⟩
  generalize c % 26 ^ Int.toNat 8 = r0
  have hm : 0 ≤ n % 8 ∧ n % 8 < 8 := by omega
  have e0 : ("" : Str).cps.toList = [] := by decide +kernel
  refine seq_join (fun σ H' => H' = H ∧ ∃ (z : Str) (a b : Option V), z.length = 1 + (n % 8).toNat ∧ (∀ d ∈ z.cps.toList, 97 ≤ d ∧ d ≤ 122) ∧ σ = [some (V.int c), some (V.int n), some (V.str "abcdefghijklmnopqrstuvwxyz"), some (V.str z), a, b]) (fun N hN => ?_) (fun σ H' h => ?_)
  · simp only [tSeq, tFor_eq, tLC_eq, iRng1, iRng2, iList, iTup, iStr, tIfS, tRet, tRetN, tNext, tAsg, gName, tVar, tC, tOp, rI0, rI, tTest, tB, rEq, rNe, tCall, tCons, tNil, tCB, tLst, tTup, tAnd, tOr, tNot, tAndV, tOrV, tNotV, tIf, tDrop, tSl, tPart, tNoPart, tChain, tUn, rU, L2.start, cx_K, bk_K, cx_calm, bk_calm, lenV_str, and_assoc, Option.join, List.length_map, List.length_append, decide_eq_true_eq, Bool.false_eq_true, if_false, if_true, Bool.not_true, Bool.not_false, Bool.not_eq_true', decide_eq_false_iff_not, Bool.true_eq_false, List.length_cons, List.length_nil, List.map_cons, List.map_nil, List.replicate, List.cons_append, List.nil_append, List.append_nil, List.getElem?_cons_zero, List.getElem?_cons_succ, List.set_cons_zero, List.set_cons_succ, Nat.reduceSub, Nat.reduceAdd, Option.some.injEq, V.int.injEq, V.str.injEq, V.bl.injEq, V.ref.injEq, List.cons.injEq, and_true, true_and, exists_eq_left', exists_eq_left, exists_and_left, exists_eq_right, exists_const]
    refine ⟨by decide, by omega, by omega, fw_range (n := (1 + n % 8).toNat) (fun i σ H' => H' = H ∧ ∃ (z : Str) (r : Int) (o : Option V), z.length = i ∧ (∀ d ∈ z.cps.toList, 97 ≤ d ∧ d ≤ 122) ∧ σ = [some (V.int c), some (V.int n), some (V.str "abcdefghijklmnopqrstuvwxyz"), some (V.str z), some (V.int r), o])
      ⟨rfl, _, _, _, rfl, (fun d hd => by rw [e0] at hd; cases hd), rfl⟩ (fun i σ H' hi e => ?_) (fun σ H' e => ?_)⟩
    · obtain ⟨rfl, z, r, o, hz, hl, rfl⟩ := e
      obtain ⟨d, hd, hd2⟩ := letter_at r
      simp only [tSeq, tFor_eq, tLC_eq, iRng1, iRng2, iList, iTup, iStr, tIfS, tRet, tRetN, tNext, tAsg, gName, tVar, tC, tOp, rI0, rI, tTest, tB, rEq, rNe, tCall, tCons, tNil, tCB, tLst, tTup, tAnd, tOr, tNot, tAndV, tOrV, tNotV, tIf, tDrop, tSl, tPart, tNoPart, tChain, tUn, rU, L2.start, cx_K, bk_K, cx_calm, bk_calm, lenV_str, and_assoc, Option.join, List.length_map, List.length_append, decide_eq_true_eq, Bool.false_eq_true, if_false, if_true, Bool.not_true, Bool.not_false, Bool.not_eq_true', decide_eq_false_iff_not, Bool.true_eq_false, List.length_cons, List.length_nil, List.map_cons, List.map_nil, List.replicate, List.cons_append, List.nil_append, List.append_nil, List.getElem?_cons_zero, List.getElem?_cons_succ, List.set_cons_zero, List.set_cons_succ, Nat.reduceSub, Nat.reduceAdd, Option.some.injEq, V.int.injEq, V.str.injEq, V.bl.injEq, V.ref.injEq, List.cons.injEq, and_true, true_and, exists_eq_left', exists_eq_left, exists_and_left, exists_eq_right, exists_const]
      refine ⟨by decide, _, _, d, rfl, rfl, small (by decide +kernel), hd, ?_⟩
      have e1 : (⟨#[d]⟩ : Str).length = 1 := rfl
      refine ⟨_, rfl, small (by omega), ⟨by decide, by decide⟩, rfl, _, ?_, ?_, rfl, _, rfl⟩
      · rw [len_app, hz, e1]
      · intro d' hd'
        rw [cps_app] at hd'
        rcases List.mem_append.mp hd' with h | h
        · exact hl d' h
        · have h : d' ∈ [d] := h
          rw [List.mem_singleton.mp h]
          exact hd2
    · obtain ⟨rfl, z, r, o, hz, hl, rfl⟩ := e
      exact hN _ _ ⟨rfl, z, _, _, by omega, hl, rfl⟩
  · obtain ⟨rfl, z, a, b, hz, hl, rfl⟩ := h
    refine seq_join (fun σ H'' => H'' = H' ∧ ∃ (z : Str) (a b : Option V), Nm z ∧ σ = [some (V.int c), some (V.int n), some (V.str "abcdefghijklmnopqrstuvwxyz"), some (V.str z), a, b]) (fun N hN => ?_) (fun σ H'' h => ?_)
    · simp only [tSeq, tFor_eq, tLC_eq, iRng1, iRng2, iList, iTup, iStr, tIfS, tRet, tRetN, tNext, tAsg, gName, tVar, tC, tOp, rI0, rI, tTest, tB, rEq, rNe, tCall, tCons, tNil, tCB, tLst, tTup, tAnd, tOr, tNot, tAndV, tOrV, tNotV, tIf, tDrop, tSl, tPart, tNoPart, tChain, tUn, rU, L2.start, cx_K, bk_K, cx_calm, bk_calm, lenV_str, and_assoc, Option.join, List.length_map, List.length_append, decide_eq_true_eq, Bool.false_eq_true, if_false, if_true, Bool.not_true, Bool.not_false, Bool.not_eq_true', decide_eq_false_iff_not, Bool.true_eq_false, List.length_cons, List.length_nil, List.map_cons, List.map_nil, List.replicate, List.cons_append, List.nil_append, List.append_nil, List.getElem?_cons_zero, List.getElem?_cons_succ, List.set_cons_zero, List.set_cons_succ, Nat.reduceSub, Nat.reduceAdd, Option.some.injEq, V.int.injEq, V.str.injEq, V.bl.injEq, V.ref.injEq, List.cons.injEq, and_true, true_and, exists_eq_left', exists_eq_left, exists_and_left, exists_eq_right, exists_const]
      refine ⟨rfl, ?_⟩
      have fin : ∀ z : Str, Nm z → N [some (V.int c), some (V.int n), some (V.str "abcdefghijklmnopqrstuvwxyz"), some (V.str z), a, b] H' := fun z h => hN _ _ ⟨rfl, z, _, _, h, rfl⟩
      split
      · rename_i e
        subst e
        refine ⟨small (by decide +kernel), fin _ ?_⟩
        exact ⟨by decide +kernel, by decide +kernel, by decide +kernel, by decide +kernel, by decide +kernel⟩
      · rename_i e
        refine ⟨rfl, ?_⟩
        split
        · rename_i e
          subst e
          refine ⟨small (by decide +kernel), fin _ ?_⟩
          exact ⟨by decide +kernel, by decide +kernel, by decide +kernel, by decide +kernel, by decide +kernel⟩
        · rename_i e2
          exact fin z ⟨by omega, by omega, hl, e, e2⟩
    · obtain ⟨rfl, z, a, b, hz, rfl⟩ := h
      simp only [tSeq, tFor_eq, tLC_eq, iRng1, iRng2, iList, iTup, iStr, tIfS, tRet, tRetN, tNext, tAsg, gName, tVar, tC, tOp, rI0, rI, tTest, tB, rEq, rNe, tCall, tCons, tNil, tCB, tLst, tTup, tAnd, tOr, tNot, tAndV, tOrV, tNotV, tIf, tDrop, tSl, tPart, tNoPart, tChain, tUn, rU, L2.start, cx_K, bk_K, cx_calm, bk_calm, lenV_str, and_assoc, Option.join, List.length_map, List.length_append, decide_eq_true_eq, Bool.false_eq_true, if_false, if_true, Bool.not_true, Bool.not_false, Bool.not_eq_true', decide_eq_false_iff_not, Bool.true_eq_false, List.length_cons, List.length_nil, List.map_cons, List.map_nil, List.replicate, List.cons_append, List.nil_append, List.append_nil, List.getElem?_cons_zero, List.getElem?_cons_succ, List.set_cons_zero, List.set_cons_succ, Nat.reduceSub, Nat.reduceAdd, Option.some.injEq, V.int.injEq, V.str.injEq, V.bl.injEq, V.ref.injEq, List.cons.injEq, and_true, true_and, exists_eq_left', exists_eq_left, exists_and_left, exists_eq_right, exists_const]
      exact q z hz
theorem ok_pool (bi : Bi mg) (h_law_cell_at : Has P w K mg base 1 "_law_cell_at" ["script", "k"] (spCell K)) (h_law_name_by : Has P w K mg base 1 "_law_name_by" ["cell", "size"] spName)
    (F : Fun K "_law_pool" "_law_pool" s_law_pool f fd) : FnOk P w K mg base CX0 2 f fd ["script"] (spPool K) := by
  refine F.ok sc_law_pool (fun vs H Q E h => ?_) (fun cdv A outer s H vs Q E hr h => ?_)
  · obtain ⟨a, ns, rfl, _⟩ := h
    rfl
  obtain ⟨a, ns, rfl, hS, q⟩ := h
  refine ⟨_, (pss_cons (ps_set (i := 1) sc_law_pool.nd rfl (Or.inl rfl) (pe_callH h_law_cell_at (hr.mono (by omega)) rfl (pa_cons (pv 0) (pa_cons pe_int pa_nil)))) (pss_cons (ps_set (i := 2) sc_law_pool.nd rfl (Or.inl rfl) (pe_callH h_law_cell_at (hr.mono (by omega)) rfl (pa_cons (pv 0) (pa_cons pe_int pa_nil)))) (pss_cons (ps_set (i := 3) sc_law_pool.nd rfl (Or.inl rfl) (pe_callH h_law_cell_at (hr.mono (by omega)) rfl (pa_cons (pv 0) (pa_cons pe_int pa_nil)))) (pss_cons (ps_set (i := 4) sc_law_pool.nd rfl (Or.inl rfl) (pe_lst (pa_cons (pe_callH h_law_name_by (hr.mono (by omega)) rfl (pa_cons (pv 1) (pa_cons (pe_op op_mod (pe_op op_fdiv (pv 1) pe_int) pe_int) pa_nil))) (pa_cons (pe_callH h_law_name_by (hr.mono (by omega)) rfl (pa_cons (pv 2) (pa_cons (pe_op op_mod (pe_op op_fdiv (pv 2) pe_int) pe_int) pa_nil))) pa_nil)))) (pss_cons (ps_if (pt_cmpR op_eq (pe_op op_mod (pv 3) pe_int) pe_int (nomark _)) (pss_one (ps_expr (pe_bm PySem.F.plainAttrs_list PySem.F.slot_list_append PySem.F.type_list_append mt_append (pv 4) (pa_cons (pe_callH h_law_name_by (hr.mono (by omega)) rfl (pa_cons (pv 1) (pa_cons (pe_op op_add (pe_op op_mod (pe_op op_fdiv (pv 1) pe_int) pe_int) pe_int) pa_nil))) pa_nil)))) (pss_one (ps_expr (pe_bm PySem.F.plainAttrs_list PySem.F.slot_list_append PySem.F.type_list_append mt_append (pv 4) (pa_cons (pe_callH h_law_name_by (hr.mono (by omega)) rfl (pa_cons (pe_op op_fdiv (pv 3) pe_int) (pa_cons (pe_op op_mod (pe_op op_fdiv (pv 3) pe_int) pe_int) pa_nil))) pa_nil))))) (pss_one (ps_ret (pv 4)))))))), ?_⟩
  refine seq_abs fun N hN => ?_
  simp only [tSeq, tFor_eq, tLC_eq, iRng1, iRng2, iList, iTup, iStr, tIfS, tRet, tRetN, tNext, tAsg, gName, tVar, tC, tOp, rI0, rI, tTest, tB, rEq, rNe, tCall, tCons, tNil, tCB, tLst, tTup, tAnd, tOr, tNot, tAndV, tOrV, tNotV, tIf, tDrop, tSl, tPart, tNoPart, tChain, tUn, rU, L2.start, cx_K, bk_K, cx_calm, bk_calm, lenV_str, and_assoc, Option.join, List.length_map, List.length_append, decide_eq_true_eq, Bool.false_eq_true, if_false, if_true, Bool.not_true, Bool.not_false, Bool.not_eq_true', decide_eq_false_iff_not, Bool.true_eq_false, List.length_cons, List.length_nil, List.map_cons, List.map_nil, List.replicate, List.cons_append, List.nil_append, List.append_nil, List.getElem?_cons_zero, List.getElem?_cons_succ, List.set_cons_zero, List.set_cons_succ, Nat.reduceSub, Nat.reduceAdd, Option.some.injEq, V.int.injEq, V.str.injEq, V.bl.injEq, V.ref.injEq, List.cons.injEq, and_true, true_and, exists_eq_left', exists_eq_left, exists_and_left, exists_eq_right, exists_const, spCell]
  refine ⟨ns, 0, rfl, hS, hN _ _ ?_⟩
  refine seq_abs fun N hN => ?_
  simp only [tSeq, tFor_eq, tLC_eq, iRng1, iRng2, iList, iTup, iStr, tIfS, tRet, tRetN, tNext, tAsg, gName, tVar, tC, tOp, rI0, rI, tTest, tB, rEq, rNe, tCall, tCons, tNil, tCB, tLst, tTup, tAnd, tOr, tNot, tAndV, tOrV, tNotV, tIf, tDrop, tSl, tPart, tNoPart, tChain, tUn, rU, L2.start, cx_K, bk_K, cx_calm, bk_calm, lenV_str, and_assoc, Option.join, List.length_map, List.length_append, decide_eq_true_eq, Bool.false_eq_true, if_false, if_true, Bool.not_true, Bool.not_false, Bool.not_eq_true', decide_eq_false_iff_not, Bool.true_eq_false, List.length_cons, List.length_nil, List.map_cons, List.map_nil, List.replicate, List.cons_append, List.nil_append, List.append_nil, List.getElem?_cons_zero, List.getElem?_cons_succ, List.set_cons_zero, List.set_cons_succ, Nat.reduceSub, Nat.reduceAdd, Option.some.injEq, V.int.injEq, V.str.injEq, V.bl.injEq, V.ref.injEq, List.cons.injEq, and_true, true_and, exists_eq_left', exists_eq_left, exists_and_left, exists_eq_right, exists_const, spCell]
  refine ⟨ns, 1, rfl, hS, hN _ _ ?_⟩
  refine seq_abs fun N hN => ?_
  simp only [tSeq, tFor_eq, tLC_eq, iRng1, iRng2, iList, iTup, iStr, tIfS, tRet, tRetN, tNext, tAsg, gName, tVar, tC, tOp, rI0, rI, tTest, tB, rEq, rNe, tCall, tCons, tNil, tCB, tLst, tTup, tAnd, tOr, tNot, tAndV, tOrV, tNotV, tIf, tDrop, tSl, tPart, tNoPart, tChain, tUn, rU, L2.start, cx_K, bk_K, cx_calm, bk_calm, lenV_str, and_assoc, Option.join, List.length_map, List.length_append, decide_eq_true_eq, Bool.false_eq_true, if_false, if_true, Bool.not_true, Bool.not_false, Bool.not_eq_true', decide_eq_false_iff_not, Bool.true_eq_false, List.length_cons, List.length_nil, List.map_cons, List.map_nil, List.replicate, List.cons_append, List.nil_append, List.append_nil, List.getElem?_cons_zero, List.getElem?_cons_succ, List.set_cons_zero, List.set_cons_succ, Nat.reduceSub, Nat.reduceAdd, Option.some.injEq, V.int.injEq, V.str.injEq, V.bl.injEq, V.ref.injEq, List.cons.injEq, and_true, true_and, exists_eq_left', exists_eq_left, exists_and_left, exists_eq_right, exists_const, spCell]
  refine ⟨ns, 2, rfl, hS, hN _ _ ?_⟩
  generalize ns.getD 0 0 = x0
  generalize ns.getD 1 0 = x1
  generalize ns.getD 2 0 = x2
  refine seq_abs fun N hN => ?_
  simp only [tSeq, tFor_eq, tLC_eq, iRng1, iRng2, iList, iTup, iStr, tIfS, tRet, tRetN, tNext, tAsg, gName, tVar, tC, tOp, rI0, rI, tTest, tB, rEq, rNe, tCall, tCons, tNil, tCB, tLst, tTup, tAnd, tOr, tNot, tAndV, tOrV, tNotV, tIf, tDrop, tSl, tPart, tNoPart, tChain, tUn, rU, L2.start, cx_K, bk_K, cx_calm, bk_calm, lenV_str, and_assoc, Option.join, List.length_map, List.length_append, decide_eq_true_eq, Bool.false_eq_true, if_false, if_true, Bool.not_true, Bool.not_false, Bool.not_eq_true', decide_eq_false_iff_not, Bool.true_eq_false, List.length_cons, List.length_nil, List.map_cons, List.map_nil, List.replicate, List.cons_append, List.nil_append, List.append_nil, List.getElem?_cons_zero, List.getElem?_cons_succ, List.set_cons_zero, List.set_cons_succ, Nat.reduceSub, Nat.reduceAdd, Option.some.injEq, V.int.injEq, V.str.injEq, V.bl.injEq, V.ref.injEq, List.cons.injEq, and_true, true_and, exists_eq_left', exists_eq_left, exists_and_left, exists_eq_right, exists_const, spName]
  refine ⟨⟨by decide, by decide⟩, by decide, fun n1 g1 => ⟨⟨by decide, by decide⟩, by decide, fun n2 g2 => ⟨small (by decide), fun p hp => hN _ _ ?_⟩⟩⟩
  refine seq_join (fun σ H' => Same H H' ∧ Pool K H' p ∧ ∃ a b c d : Option V, σ = [a, b, c, d, some (V.ref p)]) (fun N hN => ?_) (fun σ H' h => ?_)
  · simp only [tSeq, tFor_eq, tLC_eq, iRng1, iRng2, iList, iTup, iStr, tIfS, tRet, tRetN, tNext, tAsg, gName, tVar, tC, tOp, rI0, rI, tTest, tB, rEq, rNe, tCall, tCons, tNil, tCB, tLst, tTup, tAnd, tOr, tNot, tAndV, tOrV, tNotV, tIf, tDrop, tSl, tPart, tNoPart, tChain, tUn, rU, L2.start, cx_K, bk_K, cx_calm, bk_calm, lenV_str, and_assoc, Option.join, List.length_map, List.length_append, decide_eq_true_eq, Bool.false_eq_true, if_false, if_true, Bool.not_true, Bool.not_false, Bool.not_eq_true', decide_eq_false_iff_not, Bool.true_eq_false, List.length_cons, List.length_nil, List.map_cons, List.map_nil, List.replicate, List.cons_append, List.nil_append, List.append_nil, List.getElem?_cons_zero, List.getElem?_cons_succ, List.set_cons_zero, List.set_cons_succ, Nat.reduceSub, Nat.reduceAdd, Option.some.injEq, V.int.injEq, V.str.injEq, V.bl.injEq, V.ref.injEq, List.cons.injEq, and_true, true_and, exists_eq_left', exists_eq_left, exists_and_left, exists_eq_right, exists_const, spName]
    have fin : ∀ n3 : Str, Nm n3 → Same H (upd (upd H p (HO.lst [V.str n1, V.str n2])) p (HO.lst ([V.str n1, V.str n2] ++ [V.str n3]))) ∧ Pool K (upd (upd H p (HO.lst [V.str n1, V.str n2])) p (HO.lst ([V.str n1, V.str n2] ++ [V.str n3]))) p := fun n3 g3 => by
      rw [upd_upd]
      exact ⟨same_new hp _, n1, n2, n3, g1, g2, g3, upd_same⟩
    have ty : tyV K "list" (V.ref p) (upd H p (HO.lst [V.str n1, V.str n2])) := .inl ⟨rfl, _, SqL.of upd_same⟩
    refine ⟨by decide, rfl, ?_⟩
    split
    · refine ⟨_, rfl, ty, ?_⟩
      simp only [tSeq, tFor_eq, tLC_eq, iRng1, iRng2, iList, iTup, iStr, tIfS, tRet, tRetN, tNext, tAsg, gName, tVar, tC, tOp, rI0, rI, tTest, tB, rEq, rNe, tCall, tCons, tNil, tCB, tLst, tTup, tAnd, tOr, tNot, tAndV, tOrV, tNotV, tIf, tDrop, tSl, tPart, tNoPart, tChain, tUn, rU, L2.start, cx_K, bk_K, cx_calm, bk_calm, lenV_str, and_assoc, Option.join, List.length_map, List.length_append, decide_eq_true_eq, Bool.false_eq_true, if_false, if_true, Bool.not_true, Bool.not_false, Bool.not_eq_true', decide_eq_false_iff_not, Bool.true_eq_false, List.length_cons, List.length_nil, List.map_cons, List.map_nil, List.replicate, List.cons_append, List.nil_append, List.append_nil, List.getElem?_cons_zero, List.getElem?_cons_succ, List.set_cons_zero, List.set_cons_succ, Nat.reduceSub, Nat.reduceAdd, Option.some.injEq, V.int.injEq, V.str.injEq, V.bl.injEq, V.ref.injEq, List.cons.injEq, and_true, true_and, exists_eq_left', exists_eq_left, exists_and_left, exists_eq_right, exists_const, spName]
      refine ⟨⟨by decide, by decide⟩, by decide, fun n3 g3 => ?_⟩
      exact ⟨p, _, _, rfl, rfl, upd_same, (by show 2 < sizeLine; decide), hN _ _ ⟨(fin n3 g3).1, (fin n3 g3).2, _, _, _, _, rfl⟩⟩
    · refine ⟨_, rfl, ty, ?_⟩
      simp only [tSeq, tFor_eq, tLC_eq, iRng1, iRng2, iList, iTup, iStr, tIfS, tRet, tRetN, tNext, tAsg, gName, tVar, tC, tOp, rI0, rI, tTest, tB, rEq, rNe, tCall, tCons, tNil, tCB, tLst, tTup, tAnd, tOr, tNot, tAndV, tOrV, tNotV, tIf, tDrop, tSl, tPart, tNoPart, tChain, tUn, rU, L2.start, cx_K, bk_K, cx_calm, bk_calm, lenV_str, and_assoc, Option.join, List.length_map, List.length_append, decide_eq_true_eq, Bool.false_eq_true, if_false, if_true, Bool.not_true, Bool.not_false, Bool.not_eq_true', decide_eq_false_iff_not, Bool.true_eq_false, List.length_cons, List.length_nil, List.map_cons, List.map_nil, List.replicate, List.cons_append, List.nil_append, List.append_nil, List.getElem?_cons_zero, List.getElem?_cons_succ, List.set_cons_zero, List.set_cons_succ, Nat.reduceSub, Nat.reduceAdd, Option.some.injEq, V.int.injEq, V.str.injEq, V.bl.injEq, V.ref.injEq, List.cons.injEq, and_true, true_and, exists_eq_left', exists_eq_left, exists_and_left, exists_eq_right, exists_const, spName]
      refine ⟨⟨by decide, by decide⟩, ⟨by decide, by decide⟩, by decide, fun n3 g3 => ?_⟩
      exact ⟨p, _, _, rfl, rfl, upd_same, (by show 2 < sizeLine; decide), hN _ _ ⟨(fin n3 g3).1, (fin n3 g3).2, _, _, _, _, rfl⟩⟩
  · obtain ⟨e, hp2, a', b, c, d, rfl⟩ := h
    simp only [tSeq, tFor_eq, tLC_eq, iRng1, iRng2, iList, iTup, iStr, tIfS, tRet, tRetN, tNext, tAsg, gName, tVar, tC, tOp, rI0, rI, tTest, tB, rEq, rNe, tCall, tCons, tNil, tCB, tLst, tTup, tAnd, tOr, tNot, tAndV, tOrV, tNotV, tIf, tDrop, tSl, tPart, tNoPart, tChain, tUn, rU, L2.start, cx_K, bk_K, cx_calm, bk_calm, lenV_str, and_assoc, Option.join, List.length_map, List.length_append, decide_eq_true_eq, Bool.false_eq_true, if_false, if_true, Bool.not_true, Bool.not_false, Bool.not_eq_true', decide_eq_false_iff_not, Bool.true_eq_false, List.length_cons, List.length_nil, List.map_cons, List.map_nil, List.replicate, List.cons_append, List.nil_append, List.append_nil, List.getElem?_cons_zero, List.getElem?_cons_succ, List.set_cons_zero, List.set_cons_succ, Nat.reduceSub, Nat.reduceAdd, Option.some.injEq, V.int.injEq, V.str.injEq, V.bl.injEq, V.ref.injEq, List.cons.injEq, and_true, true_and, exists_eq_left', exists_eq_left, exists_and_left, exists_eq_right, exists_const]
    exact q p H' e hp2
theorem ok_leaf (bi : Bi mg) (F : Fun K "_law_leaf" "_law_leaf" s_law_leaf f fd) : FnOk P w K mg base CX0 1 f fd ["cell", "pool"] (spLeaf K) := by
  refine F.ok sc_law_leaf (fun vs H Q E h => ?_) (fun cdv A outer s H vs Q E hr h => ?_)
  · obtain ⟨c, p, rfl, _⟩ := h
    rfl
  obtain ⟨c, p, rfl, ⟨x, y, z, gx, gy, gz, hp⟩, q⟩ := h
  refine ⟨_, (pss_cons (ps_set (i := 2) sc_law_leaf.nd rfl (Or.inl rfl) (pe_op op_mod (pv 0) pe_int)) (pss_cons (ps_if (pt_cmpR op_eq (pv 2) pe_int (nomark _)) (pss_one (ps_ret (pe_tup (pa_cons pe_str pa_nil)))) pss_nil) (pss_cons (ps_if (pt_cmpR op_eq (pv 2) pe_int (nomark _)) (pss_one (ps_ret (pe_tup (pa_cons pe_str pa_nil)))) pss_nil) (pss_one (ps_ret (pe_tup (pa_cons pe_str (pa_cons (pe_ix ix_list (pv 1) (pe_op op_mod (pe_op op_fdiv (pv 0) pe_int) (pe_callB call_len rfl bi.len bt_len (pa_cons (pv 1) pa_nil))) (fun _ _ => rfl)) pa_nil)))))))), ?_⟩
  have leaf : ∀ (w : Str), Sh w 0 → ∀ a, H a = none → Q (.ref a) (upd H a (.tup [.str w])) := fun w hw a ha =>
    q (.ref a) (.node w []) _ (same_new ha _) (TAt.mkNode upd_same rfl) ⟨hw, rfl⟩ rfl
  refine seq_abs fun N hN => ?_
  simp only [tSeq, tFor_eq, tLC_eq, iRng1, iRng2, iList, iTup, iStr, tIfS, tRet, tRetN, tNext, tAsg, gName, tVar, tC, tOp, rI0, rI, tTest, tB, rEq, rNe, tCall, tCons, tNil, tCB, tLst, tTup, tAnd, tOr, tNot, tAndV, tOrV, tNotV, tIf, tDrop, tSl, tPart, tNoPart, tChain, tUn, rU, L2.start, cx_K, bk_K, cx_calm, bk_calm, lenV_str, and_assoc, Option.join, List.length_map, List.length_append, decide_eq_true_eq, Bool.false_eq_true, if_false, if_true, Bool.not_true, Bool.not_false, Bool.not_eq_true', decide_eq_false_iff_not, Bool.true_eq_false, List.length_cons, List.length_nil, List.map_cons, List.map_nil, List.replicate, List.cons_append, List.nil_append, List.append_nil, List.getElem?_cons_zero, List.getElem?_cons_succ, List.set_cons_zero, List.set_cons_succ, Nat.reduceSub, Nat.reduceAdd, Option.some.injEq, V.int.injEq, V.str.injEq, V.bl.injEq, V.ref.injEq, List.cons.injEq, and_true, true_and, exists_eq_left', exists_eq_left, exists_and_left, exists_eq_right, exists_const]
  refine ⟨by decide, hN _ _ ?_⟩
  simp only [tSeq, tFor_eq, tLC_eq, iRng1, iRng2, iList, iTup, iStr, tIfS, tRet, tRetN, tNext, tAsg, gName, tVar, tC, tOp, rI0, rI, tTest, tB, rEq, rNe, tCall, tCons, tNil, tCB, tLst, tTup, tAnd, tOr, tNot, tAndV, tOrV, tNotV, tIf, tDrop, tSl, tPart, tNoPart, tChain, tUn, rU, L2.start, cx_K, bk_K, cx_calm, bk_calm, lenV_str, and_assoc, Option.join, List.length_map, List.length_append, decide_eq_true_eq, Bool.false_eq_true, if_false, if_true, Bool.not_true, Bool.not_false, Bool.not_eq_true', decide_eq_false_iff_not, Bool.true_eq_false, List.length_cons, List.length_nil, List.map_cons, List.map_nil, List.replicate, List.cons_append, List.nil_append, List.append_nil, List.getElem?_cons_zero, List.getElem?_cons_succ, List.set_cons_zero, List.set_cons_succ, Nat.reduceSub, Nat.reduceAdd, Option.some.injEq, V.int.injEq, V.str.injEq, V.bl.injEq, V.ref.injEq, List.cons.injEq, and_true, true_and, exists_eq_left', exists_eq_left, exists_and_left, exists_eq_right, exists_const]
  refine ⟨rfl, ?_⟩
  split
  · exact ⟨small (by decide), fun a ha => leaf _ (.inl ⟨rfl, rfl⟩) a ha⟩
  refine ⟨rfl, ?_⟩
  split
  · exact ⟨small (by decide), fun a ha => leaf _ (.inr (.inl ⟨rfl, rfl⟩)) a ha⟩
  refine ⟨⟨by decide, by decide⟩, 3, .inl ⟨_, SqL.of hp, rfl⟩, by decide, ?_⟩
  obtain ⟨n, gn, hn⟩ : ∃ n : Str, Nm n ∧ atI [V.str x, V.str y, V.str z] (c / 8 % 3) = some (.str n) := by
    have h3 : 0 ≤ c / 8 % 3 ∧ c / 8 % 3 < 3 := by omega
    generalize c / 8 % 3 = k at h3
    have : k = 0 ∨ k = 1 ∨ k = 2 := by omega
    rcases this with rfl | rfl | rfl
    · exact ⟨x, gx, rfl⟩
    · exact ⟨y, gy, rfl⟩
    · exact ⟨z, gz, rfl⟩
  refine ⟨p, _, _, _, rfl, rfl, SqL.of hp, hn, small (by decide), fun a ha => ?_⟩
  exact q (.ref a) (.name n) _ (same_new ha _) (TAt.mkName upd_same) gn rfl
theorem whole_fit {ts : List Tm} {m : Nat} (hne : ts ≠ []) (hf : ∀ t ∈ ts, Fit 17 t) (hw : wts ts ≤ m) : Fit 18 (whole ts) ∧ wt (whole ts) ≤ m + 1 := by
  match ts, hne with
  | [t], _ =>
    refine ⟨(hf t (by simp)).up, ?_⟩
    rw [wts, wts] at hw
    show wt t ≤ m + 1
    omega
  | t :: u :: r, _ =>
    exact ⟨⟨.inr (.inr (.inr (.inl ⟨rfl, by simp⟩))), hf⟩, by show wt (.node "both" (t :: u :: r)) ≤ m + 1; rw [wt]; omega⟩
theorem ok_whole (bi : Bi mg) (F : Fun K "_law_whole_term" "_law_whole_term" s_law_whole_term f fd) : FnOk P w K mg base CX0 1 f fd ["stack"] spWhole := by
  refine F.ok sc_law_whole_term (fun vs H Q E h => ?_) (fun cdv A outer s H vs Q E hr h => ?_)
  · obtain ⟨a, vs', ts, m, rfl, _⟩ := h
    rfl
  obtain ⟨a, vs', ts, m, rfl, hl, ht, hne, hf, hw, hm, q⟩ := h
  have wf := whole_fit hne hf hw
  have hlen := ht.length
  have hle := wts_len ts
  refine ⟨_, (pss_cons (ps_if (pt_cmpR op_eq (pe_callB call_len rfl bi.len bt_len (pa_cons (pv 0) pa_nil)) pe_int (nomark _)) (pss_one (ps_ret (pe_ix ix_list (pv 0) pe_int (fun _ _ => rfl)))) pss_nil) (pss_one (ps_ret (pe_op op_catT (pe_tup (pa_cons pe_str pa_nil)) (pe_callTy call_tuple_of rfl bi.tuple bt_tuple (pa_cons (pv 0) pa_nil)))))), ?_⟩
  simp only [tSeq, tFor_eq, tLC_eq, iRng1, iRng2, iList, iTup, iStr, tIfS, tRet, tRetN, tNext, tAsg, gName, tVar, tC, tOp, rI0, rI, tTest, tB, rEq, rNe, tCall, tCons, tNil, tCB, tLst, tTup, tAnd, tOr, tNot, tAndV, tOrV, tNotV, tIf, tDrop, tSl, tPart, tNoPart, tChain, tUn, rU, L2.start, cx_K, bk_K, cx_calm, bk_calm, lenV_str, and_assoc, Option.join, List.length_map, List.length_append, decide_eq_true_eq, Bool.false_eq_true, if_false, if_true, Bool.not_true, Bool.not_false, Bool.not_eq_true', decide_eq_false_iff_not, Bool.true_eq_false, List.length_cons, List.length_nil, List.map_cons, List.map_nil, List.replicate, List.cons_append, List.nil_append, List.append_nil, List.getElem?_cons_zero, List.getElem?_cons_succ, List.set_cons_zero, List.set_cons_succ, Nat.reduceSub, Nat.reduceAdd, Option.some.injEq, V.int.injEq, V.str.injEq, V.bl.injEq, V.ref.injEq, List.cons.injEq, and_true, true_and, exists_eq_left', exists_eq_left, exists_and_left, exists_eq_right, exists_const]
  refine ⟨_, .inl ⟨_, SqL.of hl, rfl⟩, rfl, ?_⟩
  split
  · rename_i h1
    have h1 : ts.length = 1 := by omega
    match ts, h1 with
    | [t], _ =>
      obtain ⟨v, r, e1, e2, e3⟩ := ht
      have e3 : r = [] := e3
      subst e3; subst e1
      exact ⟨a, _, 0, v, rfl, rfl, SqL.of hl, rfl, q v H (Same.refl H) e2 wf.1 wf.2⟩
  · rename_i h1
    refine ⟨small (by decide), fun p hp => ⟨vs', .inl ⟨SqL.of (same_new hp _ _ _ hl), fun b hb => ?_⟩⟩⟩
    have hpb : p ≠ b := ne_of_none upd_same hb
    have e1 : upd (upd H p (.tup [.str "both"])) b (.tup vs') p = some (.tup [.str "both"]) := by rw [upd_ne hpb]; exact upd_same
    refine ⟨p, b, [.str "both"], vs', rfl, rfl, SqT.of e1, SqT.of upd_same, by simp, small (by simp; omega), fun e => ?_, fun _ d hd => ?_⟩
    · exact absurd (by rw [← hlen, e]; rfl) (fun z : ts.length = 0 => hne (List.eq_nil_of_length_eq_zero z))
    · have sm : Same H (upd (upd (upd H p (.tup [.str "both"])) b (.tup vs')) d (.tup ([.str "both"] ++ vs'))) := ((same_new hp _).trans (same_new hb _)).trans (same_new hd _)
      have ew : whole ts = .node "both" ts := by
        match ts, hne, h1, hlen with
        | [t], _, h1, hlen => exact absurd (by rw [hlen]; rfl) h1
        | t :: u :: r, _, _, _ => rfl
      refine q _ _ sm ?_ wf.1 wf.2
      rw [ew]
      exact TAt.mkNode (vs := vs') upd_same (DAts.same sm ht)
end

end C
set_option Elab.async false
set_option linter.all false
set_option maxRecDepth 100000
set_option maxHeartbeats 8000000
namespace C
open PySem L2
seal PE PT PW PA PS PSs PG PGs PI PPs PO PSet PIf
/-- each term with how deep it is told to be -/
def FD : List Tm → List Int → Prop
  | [], ds => ds = []
  | t :: ts, ds => ∃ d r, ds = d :: r ∧ 0 ≤ d ∧ d ≤ 17 ∧ Fit d.toNat t ∧ FD ts r
theorem FD.length : ∀ {ts : List Tm} {ds : List Int}, FD ts ds → ds.length = ts.length
  | [], ds, h => by
    have h : ds = [] := h
    rw [h]
    rfl
  | t :: ts, ds, h => by
    obtain ⟨d, r, e, _, _, _, h⟩ := h
    rw [e, List.length_cons, List.length_cons, FD.length h]
theorem FD.append : ∀ {ts us : List Tm} {ds es : List Int}, FD ts ds → FD us es → FD (ts ++ us) (ds ++ es)
  | [], us, ds, es, h, h' => by
    have h : ds = [] := h
    subst h
    exact h'
  | t :: ts, us, ds, es, h, h' => by
    obtain ⟨d, r, e, a, b, c, h⟩ := h
    subst e
    exact ⟨d, r ++ es, rfl, a, b, c, FD.append h h'⟩
theorem FD.take : ∀ {ts : List Tm} {ds : List Int} (n : Nat), FD ts ds → FD (ts.take n) (ds.take n)
  | ts, ds, 0, _ => rfl
  | [], ds, n + 1, h => by
    have h : ds = [] := h
    subst h
    rfl
  | t :: ts, ds, n + 1, h => by
    obtain ⟨d, r, e, a, b, c, h⟩ := h
    subst e
    exact ⟨d, r.take n, rfl, a, b, c, FD.take n h⟩
theorem FD.drop : ∀ {ts : List Tm} {ds : List Int} (n : Nat), FD ts ds → FD (ts.drop n) (ds.drop n)
  | ts, ds, 0, h => by simpa using h
  | [], ds, n + 1, h => by
    have h : ds = [] := h
    subst h
    rfl
  | t :: ts, ds, n + 1, h => by
    obtain ⟨d, r, e, a, b, c, h⟩ := h
    subst e
    simpa using FD.drop n h
theorem FD.one {t : Tm} {d : Int} (h0 : 0 ≤ d) (h1 : d ≤ 17) (h : Fit d.toNat t) : FD [t] [d] := ⟨d, [], rfl, h0, h1, h, rfl⟩
theorem FD.fit : ∀ {ts : List Tm} {ds : List Int} {t : Tm}, FD ts ds → t ∈ ts → ∃ d ∈ ds, 0 ≤ d ∧ d ≤ 17 ∧ Fit d.toNat t
  | u :: ts, ds, t, h, ht => by
    obtain ⟨d, r, e, a, b, c, h⟩ := h
    subst e
    rcases List.mem_cons.mp ht with rfl | ht
    · exact ⟨d, by simp, a, b, c⟩
    · obtain ⟨d', h1, h2⟩ := FD.fit h ht
      exact ⟨d', by simp [h1], h2⟩
/-- the terms of a stack, the depths beside -/
structure StkAt (H : Hp) (sa da : Addr) (ts : List Tm) (ds : List Int) : Prop where
  ne : sa ≠ da
  st : ∃ vs, H sa = some (.lst vs) ∧ TAts H ts vs
  dp : H da = some (.lst (ds.map V.int))
  fd : FD ts ds
/-- between two turns -/
def StkInv (H : Hp) (c p : Addr) (m : Nat) (σ : St) (H' : Hp) : Prop := Same H H' ∧ ∃ (sa da : Addr) (ts : List Tm) (ds : List Int) (o1 o2 o3 o4 : Option V), H sa = none ∧ H da = none ∧ StkAt H' sa da ts ds ∧ wts ts ≤ m ∧ σ = [some (V.ref c), some (V.ref p), some (V.ref sa), some (V.ref da), o1, o2, o3, o4]
theorem StkAt.same {H H' : Hp} {sa da : Addr} {ts : List Tm} {ds : List Int} (e : Same H H') (h : StkAt H sa da ts ds) : StkAt H' sa da ts ds := by
  obtain ⟨vs, h1, h2⟩ := h.st
  exact ⟨h.ne, ⟨vs, e _ _ h1, TAts.tups e.tups h2⟩, e _ _ h.dp, h.fd⟩
theorem snoc_of {α : Type} {l : List α} (h : l ≠ []) : ∃ r x, l = r ++ [x] := ⟨l.dropLast, l.getLast h, (List.dropLast_concat_getLast h).symm⟩
theorem snoc_last {α : Type} (r : List α) (x : α) : (r ++ [x])[(r ++ [x]).length - 1]? = some x := by
  rw [List.length_append, List.length_singleton, Nat.add_sub_cancel, List.getElem?_append_right (Nat.le_refl _), Nat.sub_self]
  rfl
/-- the top of a stack -/
theorem StkAt.top {H : Hp} {sa da : Addr} {ts : List Tm} {ds : List Int} (h : StkAt H sa da ts ds) (hne : ts ≠ []) :
    ∃ ts' t ds' d vs' v, ts = ts' ++ [t] ∧ ds = ds' ++ [d] ∧ H sa = some (.lst (vs' ++ [v])) ∧ TAts H ts' vs' ∧ TAt H t v ∧ FD ts' ds' ∧ 0 ≤ d ∧ d ≤ 17 ∧ Fit d.toNat t := by
  obtain ⟨ts', t, rfl⟩ := snoc_of hne
  obtain ⟨vs, h1, h2⟩ := h.st
  have hl := h2.length
  have hd := h.fd.length
  have hvs : vs ≠ [] := by intro z; subst z; simp at hl
  have hds : ds ≠ [] := by intro z; subst z; simp at hd
  obtain ⟨vs', v, rfl⟩ := snoc_of hvs
  obtain ⟨ds', d, rfl⟩ := snoc_of hds
  have l1 : vs'.length = ts'.length := by simpa using hl
  have l2 : ds'.length = ts'.length := by simpa using hd
  have a1 := TAts.take ts'.length h2
  have a2 := TAts.drop ts'.length h2
  have b1 := FD.take ts'.length h.fd
  have b2 := FD.drop ts'.length h.fd
  rw [List.take_left, ← l1, List.take_left] at a1
  rw [List.drop_left, ← l1, List.drop_left] at a2
  rw [List.take_left, ← l2, List.take_left] at b1
  rw [List.drop_left, ← l2, List.drop_left] at b2
  obtain ⟨u, r, e1, e2, e3⟩ := a2
  obtain ⟨d', r', e4, p1, p2, p3, p4⟩ := b2
  cases e1; cases e4
  exact ⟨ts', t, ds', d, vs', v, rfl, rfl, h1, a1, e2, b1, p1, p2, p3⟩
theorem last_int (ds' : List Int) (d : Int) : atI ((ds' ++ [d]).map V.int) (-1) = some (.int d) := by
  rw [List.map_append]
  exact atI_last _ _
theorem cut_last (xs : List V) (k : Nat) (h1 : 1 ≤ k) (h : k ≤ xs.length) : cutV xs (some (-(k : Int))) none = xs.drop (xs.length - k) := by
  unfold cutV
  have e : HT.sIx xs.length 0 (some (-(k : Int))) = xs.length - k := by
    unfold HT.sIx
    simp only
    rw [if_pos (by omega)]
    omega
  rw [e, HT.sIx_none, List.take_of_length_le (by rw [List.length_drop]; omega)]
theorem cut_init (xs : List V) (k : Nat) (h1 : 1 ≤ k) (h : k ≤ xs.length) : cutV xs none (some (-(k : Int))) = xs.take (xs.length - k) := by
  unfold cutV
  have e : HT.sIx xs.length xs.length (some (-(k : Int))) = xs.length - k := by
    unfold HT.sIx
    simp only
    rw [if_pos (by omega)]
    omega
  rw [e, HT.sIx_none, List.drop_zero, Nat.sub_zero]
section
variable {P : Program} {w : World} {K : PySem.W.Frag} {mg : Str → Option Value} {base : Heap} {f : Addr} {fd : FuncData}
theorem ok_stack (bi : Bi mg) (h_law_leaf : Has P w K mg base 1 "_law_leaf" ["cell", "pool"] (spLeaf K))
    (F : Fun K "_law_stack" "_law_stack" s_law_stack f fd) : FnOk P w K mg base CX0 2 f fd ["cells", "pool"] (spStack K) := by
  refine F.ok sc_law_stack (fun vs H Q E h => ?_) (fun cdv A outer s H vs Q E hr h => ?_)
  · obtain ⟨c, p, ns, rfl, _⟩ := h
    rfl
  obtain ⟨c, p, ns, rfl, hS, h63, hP, q⟩ := h
  refine ⟨_, (pss_cons (ps_set (i := 2) sc_law_stack.nd rfl (Or.inl rfl) (pe_lst pa_nil)) (pss_cons (ps_set (i := 3) sc_law_stack.nd rfl (Or.inl rfl) (pe_lst pa_nil)) (pss_cons (ps_for PassesOwn.never rfl (pi_list (pv 0)) (pg_name (i := 4) sc_law_stack.nd rfl (Or.inl rfl)) (pss_cons (ps_set (i := 5) sc_law_stack.nd rfl (Or.inl rfl) (pe_op op_mod (pv 4) pe_int)) (pss_one (ps_if (PW.pt (pw_and (pt_cmpR op_eq (pv 5) pe_int (nomark _)) (pw_and (pt_cmpR op_gt (pe_callB call_len rfl bi.len bt_len (pa_cons (pv 2) pa_nil)) pe_int (nomark _)) (pw_and1 (pt_cmpR op_lt (pe_ix ix_list (pv 3) (pe_un un_neg pe_int) (fun _ _ => rfl)) pe_int (nomark _)))))) (pss_cons (ps_expr (pe_bm PySem.F.plainAttrs_list PySem.F.slot_list_append PySem.F.type_list_append mt_append (pv 2) (pa_cons (pe_tup (pa_cons pe_str (pa_cons (pe_bm0 PySem.F.plainAttrs_list PySem.F.slot_list_pop PySem.F.type_list_pop mt_pop (pv 2)) pa_nil))) pa_nil))) (pss_one (ps_expr (pe_bm PySem.F.plainAttrs_list PySem.F.slot_list_append PySem.F.type_list_append mt_append (pv 3) (pa_cons (pe_op op_add (pe_bm0 PySem.F.plainAttrs_list PySem.F.slot_list_pop PySem.F.type_list_pop mt_pop (pv 3)) pe_int) pa_nil))))) (pss_one (ps_if (PW.pt (pw_and (pt_cmpR op_lt (pv 5) pe_int (nomark _)) (pw_and (pt_cmpR op_gt (pv 5) pe_int (nomark _)) (pw_and (pt_cmpR op_gt (pe_callB call_len rfl bi.len bt_len (pa_cons (pv 2) pa_nil)) (pe_op op_add (pe_op op_fdiv (pv 5) pe_int) pe_int) (nomark _)) (pw_and1 (pt_cmpR op_lt (pe_callB call_maxI rfl bi.max bt_max (pa_cons (pe_slice sl_list (pv 3) (po_some (pe_op op_sub (pe_op op_sub pe_int pe_int) (pe_op op_fdiv (pv 5) pe_int))) po_none) pa_nil)) pe_int (nomark _))))))) (pss_cons (ps_set (i := 6) sc_law_stack.nd rfl (Or.inl rfl) (pe_slice sl_list (pv 2) (po_some (pe_op op_sub (pe_op op_sub pe_int pe_int) (pe_op op_fdiv (pv 5) pe_int))) po_none)) (pss_cons (ps_set (i := 7) sc_law_stack.nd rfl (Or.inl rfl) (pe_callB call_maxI rfl bi.max bt_max (pa_cons (pe_slice sl_list (pv 3) (po_some (pe_op op_sub (pe_op op_sub pe_int pe_int) (pe_op op_fdiv (pv 5) pe_int))) po_none) pa_nil))) (pss_cons (ps_set (i := 2) sc_law_stack.nd rfl (Or.inl rfl) (pe_op op_cat (pe_slice sl_list (pv 2) po_none (po_some (pe_op op_sub (pe_op op_sub pe_int pe_int) (pe_op op_fdiv (pv 5) pe_int)))) (pe_lst (pa_cons (pe_op op_catT (pe_tup (pa_cons (pe_ix ix_list (pe_lst (pa_cons pe_str (pa_cons pe_str pa_nil))) (pe_op op_mod (pv 5) pe_int) (fun _ _ => rfl)) pa_nil)) (pe_callTy call_tuple_of rfl bi.tuple bt_tuple (pa_cons (pv 6) pa_nil))) pa_nil)))) (pss_one (ps_set (i := 3) sc_law_stack.nd rfl (Or.inl rfl) (pe_op op_cat (pe_slice sl_list (pv 3) po_none (po_some (pe_op op_sub (pe_op op_sub pe_int pe_int) (pe_op op_fdiv (pv 5) pe_int)))) (pe_lst (pa_cons (pe_op op_add (pv 7) pe_int) pa_nil)))))))) (pss_cons (ps_expr (pe_bm PySem.F.plainAttrs_list PySem.F.slot_list_append PySem.F.type_list_append mt_append (pv 2) (pa_cons (pe_callH h_law_leaf (hr.mono (by omega)) rfl (pa_cons (pe_op op_fdiv (pv 4) pe_int) (pa_cons (pv 1) pa_nil))) pa_nil))) (pss_one (ps_expr (pe_bm PySem.F.plainAttrs_list PySem.F.slot_list_append PySem.F.type_list_append mt_append (pv 3) (pa_cons pe_int pa_nil))))))))))) (pss_cons (ps_if (pt_cmpR op_eq (pe_callB call_len rfl bi.len bt_len (pa_cons (pv 2) pa_nil)) pe_int (nomark _)) (pss_one (ps_expr (pe_bm PySem.F.plainAttrs_list PySem.F.slot_list_append PySem.F.type_list_append mt_append (pv 2) (pa_cons (pe_tup (pa_cons pe_str pa_nil)) pa_nil)))) pss_nil) (pss_one (ps_ret (pv 2))))))), ?_⟩
  refine seq_abs fun N hN => ?_
  simp only [tSeq, tFor_eq, tLC_eq, iRng1, iRng2, iList, iTup, iStr, tIfS, tRet, tRetN, tNext, tAsg, gName, tVar, tC, tOp, rI0, rI, tTest, tB, rEq, rNe, tCall, tCons, tNil, tCB, tLst, tTup, tAnd, tOr, tNot, tAndV, tOrV, tNotV, tIf, tDrop, tSl, tPart, tNoPart, tChain, tUn, rU, L2.start, cx_K, bk_K, cx_calm, bk_calm, lenV_str, and_assoc, Option.join, List.length_map, List.length_append, decide_eq_true_eq, Bool.false_eq_true, if_false, if_true, Bool.not_true, Bool.not_false, Bool.not_eq_true', decide_eq_false_iff_not, Bool.true_eq_false, List.length_cons, List.length_nil, List.map_cons, List.map_nil, List.replicate, List.cons_append, List.nil_append, List.append_nil, List.getElem?_cons_zero, List.getElem?_cons_succ, List.set_cons_zero, List.set_cons_succ, Nat.reduceSub, Nat.reduceAdd, Option.some.injEq, V.int.injEq, V.str.injEq, V.bl.injEq, V.ref.injEq, List.cons.injEq, and_true, true_and, exists_eq_left', exists_eq_left, exists_and_left, exists_eq_right, exists_const]
  refine ⟨small (by decide), fun sa0 hsa0 => hN _ _ ?_⟩
  refine seq_abs fun N hN => ?_
  simp only [tSeq, tFor_eq, tLC_eq, iRng1, iRng2, iList, iTup, iStr, tIfS, tRet, tRetN, tNext, tAsg, gName, tVar, tC, tOp, rI0, rI, tTest, tB, rEq, rNe, tCall, tCons, tNil, tCB, tLst, tTup, tAnd, tOr, tNot, tAndV, tOrV, tNotV, tIf, tDrop, tSl, tPart, tNoPart, tChain, tUn, rU, L2.start, cx_K, bk_K, cx_calm, bk_calm, lenV_str, and_assoc, Option.join, List.length_map, List.length_append, decide_eq_true_eq, Bool.false_eq_true, if_false, if_true, Bool.not_true, Bool.not_false, Bool.not_eq_true', decide_eq_false_iff_not, Bool.true_eq_false, List.length_cons, List.length_nil, List.map_cons, List.map_nil, List.replicate, List.cons_append, List.nil_append, List.append_nil, List.getElem?_cons_zero, List.getElem?_cons_succ, List.set_cons_zero, List.set_cons_succ, Nat.reduceSub, Nat.reduceAdd, Option.some.injEq, V.int.injEq, V.str.injEq, V.bl.injEq, V.ref.injEq, List.cons.injEq, and_true, true_and, exists_eq_left', exists_eq_left, exists_and_left, exists_eq_right, exists_const]
  refine ⟨small (by decide), fun da0 hda0 => hN _ _ ?_⟩
  have nda0 : H da0 = none := (same_new hsa0 _).free hda0
  refine seq_join (StkInv H c p ns.length) (fun N hN => ?_) (fun σ H' h => ?_)
  · simp only [tSeq, tFor_eq, tLC_eq, iRng1, iRng2, iList, iTup, iStr, tIfS, tRet, tRetN, tNext, tAsg, gName, tVar, tC, tOp, rI0, rI, tTest, tB, rEq, rNe, tCall, tCons, tNil, tCB, tLst, tTup, tAnd, tOr, tNot, tAndV, tOrV, tNotV, tIf, tDrop, tSl, tPart, tNoPart, tChain, tUn, rU, L2.start, cx_K, bk_K, cx_calm, bk_calm, lenV_str, and_assoc, Option.join, List.length_map, List.length_append, decide_eq_true_eq, Bool.false_eq_true, if_false, if_true, Bool.not_true, Bool.not_false, Bool.not_eq_true', decide_eq_false_iff_not, Bool.true_eq_false, List.length_cons, List.length_nil, List.map_cons, List.map_nil, List.replicate, List.cons_append, List.nil_append, List.append_nil, List.getElem?_cons_zero, List.getElem?_cons_succ, List.set_cons_zero, List.set_cons_succ, Nat.reduceSub, Nat.reduceAdd, Option.some.injEq, V.int.injEq, V.str.injEq, V.bl.injEq, V.ref.injEq, List.cons.injEq, and_true, true_and, exists_eq_left', exists_eq_left, exists_and_left, exists_eq_right, exists_const]
    refine ⟨⟨_, Same.seq ((same_new hsa0 _).trans (same_new hda0 _)) hS⟩, ?_⟩
    refine fw_list (xs := ns.map V.int) (StkInv H c p) ?_ (fun i σ H' _ h => Same.seq h.1 hS) (fun i x σ H' hx h => ?_) (fun σ H' h => ?_)
    · have hne : sa0 ≠ da0 := ne_of_none upd_same hda0
      exact ⟨(same_new hsa0 _).trans (same_new hda0 _), sa0, da0, [], [], _, _, _, _, hsa0, nda0, ⟨hne, ⟨[], by rw [upd_ne hne]; exact upd_same, rfl⟩, upd_same, rfl⟩, Nat.le_refl _, rfl⟩
    · obtain ⟨hs, sa, da, ts, ds, o1, o2, o3, o4, nsa, nda, sk, hw, rfl⟩ := h
      obtain ⟨n, hn, rfl⟩ : ∃ n, ns[i]? = some n ∧ x = .int n := by
        rw [List.getElem?_map] at hx
        cases e : ns[i]? with
        | none => rw [e] at hx; cases hx
        | some n => rw [e] at hx; cases hx; exact ⟨n, rfl, rfl⟩
      have hi63 : i < 63 := by have := (List.getElem?_eq_some_iff.mp hn).1; omega
      have hll := wts_len ts
      have hdl := sk.fd.length
      show tSeq _ _ _ _ _
      refine seq_abs fun N hN => ?_
      simp only [tSeq, tFor_eq, tLC_eq, iRng1, iRng2, iList, iTup, iStr, tIfS, tRet, tRetN, tNext, tAsg, gName, tVar, tC, tOp, rI0, rI, tTest, tB, rEq, rNe, tCall, tCons, tNil, tCB, tLst, tTup, tAnd, tOr, tNot, tAndV, tOrV, tNotV, tIf, tDrop, tSl, tPart, tNoPart, tChain, tUn, rU, L2.start, cx_K, bk_K, cx_calm, bk_calm, lenV_str, and_assoc, Option.join, List.length_map, List.length_append, decide_eq_true_eq, Bool.false_eq_true, if_false, if_true, Bool.not_true, Bool.not_false, Bool.not_eq_true', decide_eq_false_iff_not, Bool.true_eq_false, List.length_cons, List.length_nil, List.map_cons, List.map_nil, List.replicate, List.cons_append, List.nil_append, List.append_nil, List.getElem?_cons_zero, List.getElem?_cons_succ, List.set_cons_zero, List.set_cons_succ, Nat.reduceSub, Nat.reduceAdd, Option.some.injEq, V.int.injEq, V.str.injEq, V.bl.injEq, V.ref.injEq, List.cons.injEq, and_true, true_and, exists_eq_left', exists_eq_left, exists_and_left, exists_eq_right, exists_const]
      refine ⟨by decide, hN _ _ ?_⟩
      refine if_abs fun T U hT hU => ?_
      -- what every arm must reach
      have fin : ∀ {H1 : Hp} {sa da : Addr} {ts : List Tm} {ds : List Int} {o1 o2 o3 o4 : Option V}, Same H H1 → H sa = none → H da = none → StkAt H1 sa da ts ds → wts ts ≤ i + 1 →
          StkInv H c p (i + 1) [some (V.ref c), some (V.ref p), some (V.ref sa), some (V.ref da), o1, o2, o3, o4] H1 :=
        fun a b d e g => ⟨a, _, _, _, _, _, _, _, _, b, d, e, g, rfl⟩
      have hT' : ∀ H1, Same H' H1 → ts ≠ [] → (∀ ds' d, ds = ds' ++ [d] → d < 17) → T H1 := by
        intro H1 e1 hne hd17
        refine hT H1 ?_
        obtain ⟨ts', t, ds', d, vs', v, rfl, rfl, hsv, hts', htv, hfd', d0, d1, ft⟩ := (sk.same e1).top hne
        have d17 := hd17 ds' d rfl
        refine seq_abs fun N hN => ?_
        simp only [tSeq, tFor_eq, tLC_eq, iRng1, iRng2, iList, iTup, iStr, tIfS, tRet, tRetN, tNext, tAsg, gName, tVar, tC, tOp, rI0, rI, tTest, tB, rEq, rNe, tCall, tCons, tNil, tCB, tLst, tTup, tAnd, tOr, tNot, tAndV, tOrV, tNotV, tIf, tDrop, tSl, tPart, tNoPart, tChain, tUn, rU, L2.start, cx_K, bk_K, cx_calm, bk_calm, lenV_str, and_assoc, Option.join, List.length_map, List.length_append, decide_eq_true_eq, Bool.false_eq_true, if_false, if_true, Bool.not_true, Bool.not_false, Bool.not_eq_true', decide_eq_false_iff_not, Bool.true_eq_false, List.length_cons, List.length_nil, List.map_cons, List.map_nil, List.replicate, List.cons_append, List.nil_append, List.append_nil, List.getElem?_cons_zero, List.getElem?_cons_succ, List.set_cons_zero, List.set_cons_succ, Nat.reduceSub, Nat.reduceAdd, Option.some.injEq, V.int.injEq, V.str.injEq, V.bl.injEq, V.ref.injEq, List.cons.injEq, and_true, true_and, exists_eq_left', exists_eq_left, exists_and_left, exists_eq_right, exists_const, tBM, tBM0, rAppend, rPop, rIxL, rIxT, rIxS, rSlL, rSlT, rSlS, rCat, rCatT]
        refine ⟨.inl ⟨rfl, _, SqL.of hsv⟩, .inl ⟨rfl, _, SqL.of hsv⟩, _, hsv, v, snoc_last _ _, small (by decide), fun q1 hq1 => ?_⟩
        rw [List.dropLast_concat] at hq1 ⊢
        have nq : q1 ≠ sa := fun z => by rw [z, upd_same] at hq1; cases hq1
        have hq1' : H1 q1 = none := by rw [upd_ne nq] at hq1; exact hq1
        refine ⟨vs', by rw [upd_ne (Ne.symm nq)]; exact upd_same, ?_, hN _ _ ?_⟩
        · have := hts'.length
          rw [List.length_append, List.length_singleton] at hll
          exact small1000 (by omega)
        simp only [tSeq, tFor_eq, tLC_eq, iRng1, iRng2, iList, iTup, iStr, tIfS, tRet, tRetN, tNext, tAsg, gName, tVar, tC, tOp, rI0, rI, tTest, tB, rEq, rNe, tCall, tCons, tNil, tCB, tLst, tTup, tAnd, tOr, tNot, tAndV, tOrV, tNotV, tIf, tDrop, tSl, tPart, tNoPart, tChain, tUn, rU, L2.start, cx_K, bk_K, cx_calm, bk_calm, lenV_str, and_assoc, Option.join, List.length_map, List.length_append, decide_eq_true_eq, Bool.false_eq_true, if_false, if_true, Bool.not_true, Bool.not_false, Bool.not_eq_true', decide_eq_false_iff_not, Bool.true_eq_false, List.length_cons, List.length_nil, List.map_cons, List.map_nil, List.replicate, List.cons_append, List.nil_append, List.append_nil, List.getElem?_cons_zero, List.getElem?_cons_succ, List.set_cons_zero, List.set_cons_succ, Nat.reduceSub, Nat.reduceAdd, Option.some.injEq, V.int.injEq, V.str.injEq, V.bl.injEq, V.ref.injEq, List.cons.injEq, and_true, true_and, exists_eq_left', exists_eq_left, exists_and_left, exists_eq_right, exists_const, tBM, tBM0, rAppend, rPop, rIxL, rIxT, rIxS, rSlL, rSlT, rSlS, rCat, rCatT]
        have hda : H1 da = some (.lst ((ds' ++ [d]).map V.int)) := (sk.same e1).dp
        have nqa : da ≠ q1 := ne_of_none hda hq1'
        have hda2 : upd (upd (upd H1 sa (.lst vs')) q1 (.tup [.str "not", v])) sa (.lst (vs' ++ [.ref q1])) da = some (.lst (ds'.map V.int ++ [V.int d])) := by
          rw [upd_ne (Ne.symm sk.ne), upd_ne nqa, upd_ne (Ne.symm sk.ne), hda, List.map_append]
          rfl
        refine ⟨.inl ⟨rfl, _, SqL.of hda2⟩, .inl ⟨rfl, _, SqL.of hda2⟩, _, hda2, _, snoc_last _ _, _, rfl, ds'.map V.int, by rw [List.dropLast_concat]; exact upd_same, ?_, ?_⟩
        · rw [List.length_append, List.length_singleton] at hdl hll
          rw [List.length_map]
          have : ds'.length = ts'.length := by
            have := hfd'.length
            omega
          rw [List.length_append, List.length_singleton] at hdl
          exact small1000 (by omega)
        rw [upd_upd]
        have tA : TupSame H1 (upd H1 sa (.lst vs')) := (TupSame.refl _).upd_lst hsv
        have tB : TupSame H1 (upd (upd H1 sa (.lst vs')) q1 (.tup [.str "not", v])) := tA.upd_new hq1
        have hsa3 : upd (upd H1 sa (.lst vs')) q1 (.tup [.str "not", v]) sa = some (.lst vs') := by rw [upd_ne (Ne.symm nq)]; exact upd_same
        have tC : TupSame H1 (upd (upd (upd H1 sa (.lst vs')) q1 (.tup [.str "not", v])) sa (.lst (vs' ++ [.ref q1]))) := tB.upd_lst hsa3
        have tD := tC.upd_lst (o := .lst (ds'.map V.int ++ [V.int (d + 1)])) hda2
        have hH1 : Same H H1 := hs.trans e1
        have sm : Same H (upd (upd (upd (upd H1 sa (.lst vs')) q1 (.tup [.str "not", v])) sa (.lst (vs' ++ [.ref q1]))) da (.lst (ds'.map V.int ++ [V.int (d + 1)]))) := (((hH1.upd nsa).upd (hH1.free hq1')).upd nsa).upd nda
        refine fin sm nsa nda (ts := ts' ++ [.node "not" [t]]) (ds := ds' ++ [d + 1]) ⟨sk.ne, ⟨vs' ++ [.ref q1], by rw [upd_ne sk.ne]; exact upd_same, ?_⟩, by rw [upd_same, List.map_append]; rfl, ?_⟩ ?_
        · refine TAts.append (TAts.tups tD hts') (TAts.one (TAt.mkNode (vs := [v]) ?_ (TAts.one (TAt.tups tD htv))))
          rw [upd_ne (Ne.symm nqa), upd_ne nq]
          exact upd_same
        · refine FD.append hfd' (FD.one (by omega) (by omega) ?_)
          rw [show (d + 1).toNat = d.toNat + 1 by omega]
          refine ⟨.inr (.inr (.inl ⟨rfl, rfl⟩)), fun u hu => ?_⟩
          rw [List.mem_singleton.mp hu]
          exact ft
        · rw [wts_append] at hw ⊢
          rw [wts, wts] at hw
          rw [wts, wts, wt, wts, wts]
          omega
      have hU' : ∀ H1, Same H' H1 → U H1 := by
        intro H1 e1
        refine hU H1 ?_
        refine if_abs fun T2 U2 hT2 hU2 => ?_
        have hU2' : ∀ H2, Same H' H2 → U2 H2 := by
          intro H2 e2
          refine hU2 H2 ?_
          have sk2 := sk.same e2
          obtain ⟨vs, hsv, hts⟩ := sk2.st
          have hlv := hts.length
          refine seq_abs fun N hN => ?_
          simp only [tSeq, tFor_eq, tLC_eq, iRng1, iRng2, iList, iTup, iStr, tIfS, tRet, tRetN, tNext, tAsg, gName, tVar, tC, tOp, rI0, rI, tTest, tB, rEq, rNe, tCall, tCons, tNil, tCB, tLst, tTup, tAnd, tOr, tNot, tAndV, tOrV, tNotV, tIf, tDrop, tSl, tPart, tNoPart, tChain, tUn, rU, L2.start, cx_K, bk_K, cx_calm, bk_calm, lenV_str, and_assoc, Option.join, List.length_map, List.length_append, decide_eq_true_eq, Bool.false_eq_true, if_false, if_true, Bool.not_true, Bool.not_false, Bool.not_eq_true', decide_eq_false_iff_not, Bool.true_eq_false, List.length_cons, List.length_nil, List.map_cons, List.map_nil, List.replicate, List.cons_append, List.nil_append, List.append_nil, List.getElem?_cons_zero, List.getElem?_cons_succ, List.set_cons_zero, List.set_cons_succ, Nat.reduceSub, Nat.reduceAdd, Option.some.injEq, V.int.injEq, V.str.injEq, V.bl.injEq, V.ref.injEq, List.cons.injEq, and_true, true_and, exists_eq_left', exists_eq_left, exists_and_left, exists_eq_right, exists_const, tBM, tBM0, rAppend, rPop, rIxL, rIxT, rIxS, rSlL, rSlT, rSlS, rCat, rCatT, spLeaf]
          refine ⟨.inl ⟨rfl, _, SqL.of hsv⟩, ⟨by decide, by decide⟩, Pool.same (hs.trans e2) hP, fun v t H3 e3 htv ft wt1 => ⟨vs, e3 _ _ hsv, small1000 (by omega), hN _ _ ?_⟩⟩
          simp only [tSeq, tFor_eq, tLC_eq, iRng1, iRng2, iList, iTup, iStr, tIfS, tRet, tRetN, tNext, tAsg, gName, tVar, tC, tOp, rI0, rI, tTest, tB, rEq, rNe, tCall, tCons, tNil, tCB, tLst, tTup, tAnd, tOr, tNot, tAndV, tOrV, tNotV, tIf, tDrop, tSl, tPart, tNoPart, tChain, tUn, rU, L2.start, cx_K, bk_K, cx_calm, bk_calm, lenV_str, and_assoc, Option.join, List.length_map, List.length_append, decide_eq_true_eq, Bool.false_eq_true, if_false, if_true, Bool.not_true, Bool.not_false, Bool.not_eq_true', decide_eq_false_iff_not, Bool.true_eq_false, List.length_cons, List.length_nil, List.map_cons, List.map_nil, List.replicate, List.cons_append, List.nil_append, List.append_nil, List.getElem?_cons_zero, List.getElem?_cons_succ, List.set_cons_zero, List.set_cons_succ, Nat.reduceSub, Nat.reduceAdd, Option.some.injEq, V.int.injEq, V.str.injEq, V.bl.injEq, V.ref.injEq, List.cons.injEq, and_true, true_and, exists_eq_left', exists_eq_left, exists_and_left, exists_eq_right, exists_const, tBM, tBM0, rAppend, rPop, rIxL, rIxT, rIxS, rSlL, rSlT, rSlS, rCat, rCatT]
          have hda : upd H3 sa (.lst (vs ++ [v])) da = some (.lst (ds.map V.int)) := by rw [upd_ne (Ne.symm sk.ne)]; exact e3 _ _ sk2.dp
          refine ⟨.inl ⟨rfl, _, SqL.of hda⟩, _, hda, by rw [List.length_map]; exact small1000 (by omega), ?_⟩
          have sm : Same H (upd (upd H3 sa (.lst (vs ++ [v]))) da (.lst (ds.map V.int ++ [V.int 0]))) := (((hs.trans e2).trans e3).upd nsa).upd nda
          have tu : TupSame H3 (upd (upd H3 sa (.lst (vs ++ [v]))) da (.lst (ds.map V.int ++ [V.int 0]))) := ((TupSame.refl _).upd_lst (e3 _ _ hsv)).upd_lst hda
          refine fin sm nsa nda (ts := ts ++ [t]) (ds := ds ++ [0]) ⟨sk.ne, ⟨vs ++ [v], by rw [upd_ne sk.ne]; exact upd_same, ?_⟩, by rw [upd_same, List.map_append]; rfl, FD.append sk.fd (FD.one (by omega) (by omega) (show Fit (Int.toNat 0) t from ft))⟩ ?_
          · exact TAts.append (TAts.tups (e3.tups.trans tu) hts) (TAts.one (TAt.tups tu htv))
          · rw [wts_append, wts, wts, wt1]
            omega
        have hT2' : ∀ H2, Same H' H2 → ∀ k : Nat, (k = 2 ∨ k = 3) → 0 - 2 - n % 9 / 3 = -(k : Int) → k ≤ ts.length → maxI (ds.drop (ds.length - k)) < 17 → T2 H2 := by
          intro H2 e2 k hk2 hke hk hmx
          refine hT2 H2 ?_
          have sk2 := sk.same e2
          obtain ⟨vs, hsv, hts⟩ := sk2.st
          have hlv := hts.length
          have hlm : (ds.map V.int).length = ds.length := List.length_map _
          have cv : cutV (ds.map V.int) (some (-(k : Int))) none = (ds.drop (ds.length - k)).map V.int := by rw [cut_last _ k (by omega) (by omega), hlm, List.map_drop]
          have cs : cutV vs (some (-(k : Int))) none = vs.drop (vs.length - k) := cut_last _ k (by omega) (by omega)
          have dne : ds.drop (ds.length - k) ≠ [] := by
            intro z
            have := congrArg List.length z
            rw [List.length_drop, List.length_nil] at this
            omega
          refine seq_abs fun N hN => ?_
          simp only [tSeq, tFor_eq, tLC_eq, iRng1, iRng2, iList, iTup, iStr, tIfS, tRet, tRetN, tNext, tAsg, gName, tVar, tC, tOp, rI0, rI, tTest, tB, rEq, rNe, tCall, tCons, tNil, tCB, tLst, tTup, tAnd, tOr, tNot, tAndV, tOrV, tNotV, tIf, tDrop, tSl, tPart, tNoPart, tChain, tUn, rU, L2.start, cx_K, bk_K, cx_calm, bk_calm, lenV_str, and_assoc, Option.join, List.length_map, List.length_append, decide_eq_true_eq, Bool.false_eq_true, if_false, if_true, Bool.not_true, Bool.not_false, Bool.not_eq_true', decide_eq_false_iff_not, Bool.true_eq_false, List.length_cons, List.length_nil, List.map_cons, List.map_nil, List.replicate, List.cons_append, List.nil_append, List.append_nil, List.getElem?_cons_zero, List.getElem?_cons_succ, List.set_cons_zero, List.set_cons_succ, Nat.reduceSub, Nat.reduceAdd, Option.some.injEq, V.int.injEq, V.str.injEq, V.bl.injEq, V.ref.injEq, List.cons.injEq, and_true, true_and, exists_eq_left', exists_eq_left, exists_and_left, exists_eq_right, exists_const, tBM, tBM0, rAppend, rPop, rIxL, rIxT, rIxS, rSlL, rSlT, rSlS, rCat, rCatT]
          refine ⟨⟨by decide, by decide⟩, vs, SqL.of hsv, fun pa hpa => hN _ _ ?_⟩
          rw [hke, cs]
          refine seq_abs fun N hN => ?_
          simp only [tSeq, tFor_eq, tLC_eq, iRng1, iRng2, iList, iTup, iStr, tIfS, tRet, tRetN, tNext, tAsg, gName, tVar, tC, tOp, rI0, rI, tTest, tB, rEq, rNe, tCall, tCons, tNil, tCB, tLst, tTup, tAnd, tOr, tNot, tAndV, tOrV, tNotV, tIf, tDrop, tSl, tPart, tNoPart, tChain, tUn, rU, L2.start, cx_K, bk_K, cx_calm, bk_calm, lenV_str, and_assoc, Option.join, List.length_map, List.length_append, decide_eq_true_eq, Bool.false_eq_true, if_false, if_true, Bool.not_true, Bool.not_false, Bool.not_eq_true', decide_eq_false_iff_not, Bool.true_eq_false, List.length_cons, List.length_nil, List.map_cons, List.map_nil, List.replicate, List.cons_append, List.nil_append, List.append_nil, List.getElem?_cons_zero, List.getElem?_cons_succ, List.set_cons_zero, List.set_cons_succ, Nat.reduceSub, Nat.reduceAdd, Option.some.injEq, V.int.injEq, V.str.injEq, V.bl.injEq, V.ref.injEq, List.cons.injEq, and_true, true_and, exists_eq_left', exists_eq_left, exists_and_left, exists_eq_right, exists_const, tBM, tBM0, rAppend, rPop, rIxL, rIxT, rIxS, rSlL, rSlT, rSlS, rCat, rCatT]
          have eA : Same H2 (upd H2 pa (.lst (vs.drop (vs.length - k)))) := same_new hpa _
          refine ⟨⟨by decide, by decide⟩, _, SqL.of (eA _ _ sk2.dp), fun pb hpb => ?_⟩
          rw [hke, cv]
          refine ⟨_, SqL.of upd_same, dne, hN _ _ ?_⟩
          have eB : Same H2 (upd (upd H2 pa (.lst (vs.drop (vs.length - k)))) pb (.lst ((ds.drop (ds.length - k)).map V.int))) := eA.trans (same_new hpb _)
          generalize hH3 : upd (upd H2 pa (.lst (vs.drop (vs.length - k)))) pb (.lst ((ds.drop (ds.length - k)).map V.int)) = H3 at eB
          have hpa3 : H3 pa = some (.lst (vs.drop (vs.length - k))) := by rw [← hH3, upd_ne (ne_of_none upd_same hpb)]; exact upd_same
          have ci : cutV vs none (some (-(k : Int))) = vs.take (vs.length - k) := cut_init _ k (by omega) (by omega)
          have cd : cutV (ds.map V.int) none (some (-(k : Int))) = (ds.take (ds.length - k)).map V.int := by rw [cut_init _ k (by omega) (by omega), hlm, List.map_take]
          refine seq_abs fun N hN => ?_
          simp only [tSeq, tFor_eq, tLC_eq, iRng1, iRng2, iList, iTup, iStr, tIfS, tRet, tRetN, tNext, tAsg, gName, tVar, tC, tOp, rI0, rI, tTest, tB, rEq, rNe, tCall, tCons, tNil, tCB, tLst, tTup, tAnd, tOr, tNot, tAndV, tOrV, tNotV, tIf, tDrop, tSl, tPart, tNoPart, tChain, tUn, rU, L2.start, cx_K, bk_K, cx_calm, bk_calm, lenV_str, and_assoc, Option.join, List.length_map, List.length_append, decide_eq_true_eq, Bool.false_eq_true, if_false, if_true, Bool.not_true, Bool.not_false, Bool.not_eq_true', decide_eq_false_iff_not, Bool.true_eq_false, List.length_cons, List.length_nil, List.map_cons, List.map_nil, List.replicate, List.cons_append, List.nil_append, List.append_nil, List.getElem?_cons_zero, List.getElem?_cons_succ, List.set_cons_zero, List.set_cons_succ, Nat.reduceSub, Nat.reduceAdd, Option.some.injEq, V.int.injEq, V.str.injEq, V.bl.injEq, V.ref.injEq, List.cons.injEq, and_true, true_and, exists_eq_left', exists_eq_left, exists_and_left, exists_eq_right, exists_const, tBM, tBM0, rAppend, rPop, rIxL, rIxT, rIxS, rSlL, rSlT, rSlS, rCat, rCatT]
          refine ⟨⟨by decide, by decide⟩, vs, SqL.of (eB _ _ hsv), fun p1 hp1 => ⟨small (by decide), fun p2 hp2 => ⟨by decide, ?_⟩⟩⟩
          rw [hke, ci] at hp2 ⊢
          have e4 : Same H3 (upd H3 p1 (.lst (vs.take (vs.length - k)))) := same_new hp1 _
          have hp1a : upd H3 p1 (.lst (vs.take (vs.length - k))) p1 = some (.lst (vs.take (vs.length - k))) := upd_same
          generalize upd H3 p1 (.lst (vs.take (vs.length - k))) = H4 at hp2 e4 hp1a ⊢
          obtain ⟨wd, hwd, hwi⟩ : ∃ wd : Str, (wd = "both" ∨ wd = "either") ∧ atI [V.str "both", V.str "either"] (n % 9 % 2) = some (.str wd) := by
            have h2 : 0 ≤ n % 9 % 2 ∧ n % 9 % 2 < 2 := by omega
            generalize n % 9 % 2 = j at h2
            have : j = 0 ∨ j = 1 := by omega
            rcases this with rfl | rfl
            · exact ⟨"both", .inl rfl, rfl⟩
            · exact ⟨"either", .inr rfl, rfl⟩
          refine ⟨_, SqL.of upd_same, _, hwi, small (by decide), fun p3 hp3 => ?_⟩
          have e5 : Same H4 (upd H4 p2 (.lst [.str "both", .str "either"])) := same_new hp2 _
          generalize upd H4 p2 (.lst [.str "both", .str "either"]) = H5 at hp3 e5 ⊢
          have e6 : Same H5 (upd H5 p3 (.tup [.str wd])) := same_new hp3 _
          have h63' : upd H5 p3 (.tup [.str wd]) p3 = some (.tup [.str wd]) := upd_same
          generalize upd H5 p3 (.tup [.str wd]) = H6 at e6 h63' ⊢
          have e36 : Same H3 H6 := (e4.trans e5).trans e6
          refine ⟨vs.drop (vs.length - k), .inl ⟨SqL.of (e36 _ _ hpa3), fun p4 hp4 => ?_⟩⟩
          have e7 : Same H6 (upd H6 p4 (.tup (vs.drop (vs.length - k)))) := same_new hp4 _
          have h74 : upd H6 p4 (.tup (vs.drop (vs.length - k))) p4 = some (.tup (vs.drop (vs.length - k))) := upd_same
          generalize upd H6 p4 (.tup (vs.drop (vs.length - k))) = H7 at e7 h74 ⊢
          have vl : (vs.drop (vs.length - k)).length = k := by rw [List.length_drop]; omega
          refine ⟨_, SqT.of (e7 _ _ h63'), _, SqT.of h74, by simp, small (by rw [List.length_singleton, vl]; omega), fun z => ?_, fun _ p5 hp5 => ?_⟩
          · rw [z] at vl
            simp at vl
            omega
          have e8 : Same H7 (upd H7 p5 (.tup ([.str wd] ++ vs.drop (vs.length - k)))) := same_new hp5 _
          have h85 : upd H7 p5 (.tup ([.str wd] ++ vs.drop (vs.length - k))) p5 = some (.tup (.str wd :: vs.drop (vs.length - k))) := upd_same
          generalize upd H7 p5 (.tup ([.str wd] ++ vs.drop (vs.length - k))) = H8 at e8 h85 ⊢
          refine ⟨small (by decide), fun p6 hp6 => ?_⟩
          have e9 : Same H8 (upd H8 p6 (.lst [.ref p5])) := same_new hp6 _
          have h96 : upd H8 p6 (.lst [.ref p5]) p6 = some (.lst [.ref p5]) := upd_same
          generalize upd H8 p6 (.lst [.ref p5]) = H9 at e9 h96 ⊢
          have e49 : Same H4 H9 := (((e5.trans e6).trans e7).trans e8).trans e9
          refine ⟨_, e49 _ _ hp1a, _, h96, small (by rw [List.length_take, List.length_singleton]; omega), fun p7 hp7 => hN _ _ ?_⟩
          have e10 : Same H9 (upd H9 p7 (.lst (vs.take (vs.length - k) ++ [.ref p5]))) := same_new hp7 _
          have h107 : upd H9 p7 (.lst (vs.take (vs.length - k) ++ [.ref p5])) p7 = some (.lst (vs.take (vs.length - k) ++ [.ref p5])) := upd_same
          have n7 : H p7 = none := ((((hs.trans e2).trans eB).trans e4).trans e49).free hp7
          generalize upd H9 p7 (.lst (vs.take (vs.length - k) ++ [.ref p5])) = H10 at e10 h107 ⊢
          have e2_10 : Same H2 H10 := ((eB.trans e4).trans e49).trans e10
          simp only [tSeq, tFor_eq, tLC_eq, iRng1, iRng2, iList, iTup, iStr, tIfS, tRet, tRetN, tNext, tAsg, gName, tVar, tC, tOp, rI0, rI, tTest, tB, rEq, rNe, tCall, tCons, tNil, tCB, tLst, tTup, tAnd, tOr, tNot, tAndV, tOrV, tNotV, tIf, tDrop, tSl, tPart, tNoPart, tChain, tUn, rU, L2.start, cx_K, bk_K, cx_calm, bk_calm, lenV_str, and_assoc, Option.join, List.length_map, List.length_append, decide_eq_true_eq, Bool.false_eq_true, if_false, if_true, Bool.not_true, Bool.not_false, Bool.not_eq_true', decide_eq_false_iff_not, Bool.true_eq_false, List.length_cons, List.length_nil, List.map_cons, List.map_nil, List.replicate, List.cons_append, List.nil_append, List.append_nil, List.getElem?_cons_zero, List.getElem?_cons_succ, List.set_cons_zero, List.set_cons_succ, Nat.reduceSub, Nat.reduceAdd, Option.some.injEq, V.int.injEq, V.str.injEq, V.bl.injEq, V.ref.injEq, List.cons.injEq, and_true, true_and, exists_eq_left', exists_eq_left, exists_and_left, exists_eq_right, exists_const, tBM, tBM0, rAppend, rPop, rIxL, rIxT, rIxS, rSlL, rSlT, rSlS, rCat, rCatT]
          refine ⟨⟨by decide, by decide⟩, _, SqL.of (e2_10 _ _ sk2.dp), fun p8 hp8 => ?_⟩
          rw [hke, cd]
          have e11 : Same H10 (upd H10 p8 (.lst ((ds.take (ds.length - k)).map V.int))) := same_new hp8 _
          have h118 : upd H10 p8 (.lst ((ds.take (ds.length - k)).map V.int)) p8 = some (.lst ((ds.take (ds.length - k)).map V.int)) := upd_same
          generalize upd H10 p8 (.lst ((ds.take (ds.length - k)).map V.int)) = H11 at e11 h118 ⊢
          refine ⟨small (by decide), fun p9 hp9 => ?_⟩
          have e12 : Same H11 (upd H11 p9 (.lst [.int (maxI (ds.drop (ds.length - k)) + 1)])) := same_new hp9 _
          have h129 : upd H11 p9 (.lst [.int (maxI (ds.drop (ds.length - k)) + 1)]) p9 = some (.lst [.int (maxI (ds.drop (ds.length - k)) + 1)]) := upd_same
          generalize upd H11 p9 (.lst [.int (maxI (ds.drop (ds.length - k)) + 1)]) = H12 at e12 h129 ⊢
          refine ⟨_, e12 _ _ h118, _, h129, small (by rw [List.length_map, List.length_take, List.length_singleton]; omega), fun p10 hp10 => ?_⟩
          have e13 : Same H12 (upd H12 p10 (.lst ((ds.take (ds.length - k)).map V.int ++ [.int (maxI (ds.drop (ds.length - k)) + 1)]))) := same_new hp10 _
          have h1310 : upd H12 p10 (.lst ((ds.take (ds.length - k)).map V.int ++ [.int (maxI (ds.drop (ds.length - k)) + 1)])) p10 = some (.lst ((ds.take (ds.length - k)).map V.int ++ [.int (maxI (ds.drop (ds.length - k)) + 1)])) := upd_same
          have h7_12 : H12 p7 = some (.lst (vs.take (vs.length - k) ++ [.ref p5])) := (e11.trans e12) _ _ h107
          have n710 : p7 ≠ p10 := ne_of_none h7_12 hp10
          have eH : Same H H12 := (((hs.trans e2).trans e2_10).trans e11).trans e12
          generalize upd H12 p10 (.lst ((ds.take (ds.length - k)).map V.int ++ [.int (maxI (ds.drop (ds.length - k)) + 1)])) = H13 at e13 h1310 ⊢
          have e2_13 : Same H2 H13 := ((e2_10.trans e11).trans e12).trans e13
          have mge : ∀ d ∈ ds.drop (ds.length - k), d ≤ maxI (ds.drop (ds.length - k)) := fun d hd => maxI_ge hd
          have mnn : 0 ≤ maxI (ds.drop (ds.length - k)) := by
            have hm := maxI_mem dne
            have fdd := FD.drop (ds.length - k) sk2.fd
            have : ∀ {ts : List Tm} {ds : List Int} {d : Int}, FD ts ds → d ∈ ds → 0 ≤ d := by
              intro ts
              induction ts with
              | nil => intro ds d h hd; have h : ds = [] := h; rw [h] at hd; cases hd
              | cons t ts ih =>
                intro ds d h hd
                obtain ⟨d', r, e, a, b, c, h⟩ := h
                subst e
                rcases List.mem_cons.mp hd with rfl | hd
                · exact a
                · exact ih h hd
            exact this fdd hm
          have hdts : ds.length = ts.length := hdl
          refine fin (eH.trans e13) n7 (eH.free hp10) (ts := ts.take (ts.length - k) ++ [.node wd (ts.drop (ts.length - k))]) (ds := ds.take (ds.length - k) ++ [maxI (ds.drop (ds.length - k)) + 1])
            ⟨n710, ⟨_, e13 _ _ h7_12, ?_⟩, by rw [h1310, List.map_append]; rfl, ?_⟩ ?_
          · rw [hlv]
            refine TAts.append (TAts.take _ (TAts.tups e2_13.tups hts)) (TAts.one (TAt.mkNode (vs := vs.drop (vs.length - k)) ?_ ?_))
            · exact (((((e9.trans e10).trans e11).trans e12).trans e13) _ _ h85)
            · rw [hlv]
              exact TAts.drop _ (TAts.tups e2_13.tups hts)
          · rw [hdts]
            refine FD.append (FD.take _ sk2.fd) (FD.one (by rw [← hdts]; omega) (by rw [← hdts]; omega) ?_)
            rw [show (maxI (ds.drop (ts.length - k)) + 1).toNat = (maxI (ds.drop (ts.length - k))).toNat + 1 by rw [← hdts]; omega]
            refine ⟨?_, fun u hu => ?_⟩
            · have hl2 : 2 ≤ (ts.drop (ts.length - k)).length := by rw [List.length_drop]; omega
              rcases hwd with h | h
              · exact .inr (.inr (.inr (.inl ⟨h, hl2⟩)))
              · exact .inr (.inr (.inr (.inr ⟨h, hl2⟩)))
            obtain ⟨d, hd, d0, d1, fu⟩ := FD.fit (FD.drop (ts.length - k) sk2.fd) hu
            have := mge d (by rw [hdts]; exact hd)
            rw [hdts] at this
            exact fu.mono (by omega)
          · have e := wts_append (ts.take (ts.length - k)) (ts.drop (ts.length - k))
            rw [List.take_append_drop] at e
            rw [wts_append, wts, wts, wt]
            omega
        simp only [tSeq, tFor_eq, tLC_eq, iRng1, iRng2, iList, iTup, iStr, tIfS, tRet, tRetN, tNext, tAsg, gName, tVar, tC, tOp, rI0, rI, tTest, tB, rEq, rNe, tCall, tCons, tNil, tCB, tLst, tTup, tAnd, tOr, tNot, tAndV, tOrV, tNotV, tIf, tDrop, tSl, tPart, tNoPart, tChain, tUn, rU, L2.start, cx_K, bk_K, cx_calm, bk_calm, lenV_str, and_assoc, Option.join, List.length_map, List.length_append, decide_eq_true_eq, Bool.false_eq_true, if_false, if_true, Bool.not_true, Bool.not_false, Bool.not_eq_true', decide_eq_false_iff_not, Bool.true_eq_false, List.length_cons, List.length_nil, List.map_cons, List.map_nil, List.replicate, List.cons_append, List.nil_append, List.append_nil, List.getElem?_cons_zero, List.getElem?_cons_succ, List.set_cons_zero, List.set_cons_succ, Nat.reduceSub, Nat.reduceAdd, Option.some.injEq, V.int.injEq, V.str.injEq, V.bl.injEq, V.ref.injEq, List.cons.injEq, and_true, true_and, exists_eq_left', exists_eq_left, exists_and_left, exists_eq_right, exists_const, tBM, tBM0, rAppend, rPop, rIxL, rIxT, rIxS, rSlL, rSlT, rSlS, rCat, rCatT]
        have sk1 := sk.same e1
        obtain ⟨vs, hsv, hts⟩ := sk1.st
        have hlv := hts.length
        split
        · rename_i h5
          split
          · rename_i h0
            obtain ⟨k, hk2, hke⟩ : ∃ k : Nat, (k = 2 ∨ k = 3) ∧ 0 - 2 - n % 9 / 3 = -(k : Int) := by
              have : n % 9 / 3 = 0 ∨ n % 9 / 3 = 1 := by omega
              rcases this with h | h
              · exact ⟨2, .inl rfl, by omega⟩
              · exact ⟨3, .inr rfl, by omega⟩
            refine ⟨_, .inl ⟨_, SqL.of hsv, rfl⟩, ⟨by decide, by decide⟩, ?_⟩
            split
            · rename_i hlen
              have hk : k ≤ ts.length := by omega
              have hlm : (ds.map V.int).length = ds.length := List.length_map _
              have cv : cutV (ds.map V.int) (some (-(k : Int))) none = (ds.drop (ds.length - k)).map V.int := by rw [cut_last _ k (by omega) (by omega), hlm, List.map_drop]
              refine ⟨⟨by decide, by decide⟩, _, SqL.of sk1.dp, fun p1 hp1 => ?_⟩
              rw [hke, cv]
              refine ⟨_, SqL.of upd_same, ?_, ?_⟩
              · intro z
                have := congrArg List.length z
                rw [List.length_drop, List.length_nil] at this
                omega
              · split
                · rename_i hm
                  exact hT2' _ (e1.trans (same_new hp1 _)) k hk2 hke hk hm
                · exact hU2' _ (e1.trans (same_new hp1 _))
            · exact hU2' _ e1
          · exact hU2' _ e1
        · exact hU2' _ e1
      simp only [tSeq, tFor_eq, tLC_eq, iRng1, iRng2, iList, iTup, iStr, tIfS, tRet, tRetN, tNext, tAsg, gName, tVar, tC, tOp, rI0, rI, tTest, tB, rEq, rNe, tCall, tCons, tNil, tCB, tLst, tTup, tAnd, tOr, tNot, tAndV, tOrV, tNotV, tIf, tDrop, tSl, tPart, tNoPart, tChain, tUn, rU, L2.start, cx_K, bk_K, cx_calm, bk_calm, lenV_str, and_assoc, Option.join, List.length_map, List.length_append, decide_eq_true_eq, Bool.false_eq_true, if_false, if_true, Bool.not_true, Bool.not_false, Bool.not_eq_true', decide_eq_false_iff_not, Bool.true_eq_false, List.length_cons, List.length_nil, List.map_cons, List.map_nil, List.replicate, List.cons_append, List.nil_append, List.append_nil, List.getElem?_cons_zero, List.getElem?_cons_succ, List.set_cons_zero, List.set_cons_succ, Nat.reduceSub, Nat.reduceAdd, Option.some.injEq, V.int.injEq, V.str.injEq, V.bl.injEq, V.ref.injEq, List.cons.injEq, and_true, true_and, exists_eq_left', exists_eq_left, exists_and_left, exists_eq_right, exists_const, tBM, tBM0, rAppend, rPop, rIxL, rIxT, rIxS, rSlL, rSlT, rSlS, rCat, rCatT]
      obtain ⟨vs, hsv, hts⟩ := sk.st
      have hlv := hts.length
      refine ⟨rfl, ?_⟩
      split
      · refine ⟨_, .inl ⟨_, SqL.of hsv, rfl⟩, ?_⟩
        split
        · rename_i hpos
          have hne : ts ≠ [] := by intro z; subst z; rw [hlv] at hpos; exact absurd hpos (by decide)
          obtain ⟨ts', t, ds', d, vs', v, e1, e2, hsv', hts', htv, hfd', d0, d1, ft⟩ := sk.top hne
          refine ⟨_, SqL.of sk.dp, .int d, by rw [e2]; exact last_int _ _, d, rfl, ?_⟩
          split
          · rename_i h17
            refine hT' _ (Same.refl _) hne fun ds'' d'' e3 => ?_
            have e4 := e2.symm.trans e3
            have e5 := List.append_inj_right' e4 rfl
            cases e5
            exact h17
          · exact hU' _ (Same.refl _)
        · exact hU' _ (Same.refl _)
      · exact hU' _ (Same.refl _)
    · obtain ⟨hs, sa, da, ts, ds, o1, o2, o3, o4, nsa, nda, sk, hw, rfl⟩ := h
      rw [List.length_map] at hw
      exact hN _ _ ⟨hs, sa, da, ts, ds, _, _, _, _, nsa, nda, sk, hw, rfl⟩
  · obtain ⟨hs, sa, da, ts, ds, o1, o2, o3, o4, nsa, nda, sk, hw, rfl⟩ := h
    obtain ⟨vs, hsv, hts⟩ := sk.st
    have hlv := hts.length
    have f17 : ∀ t ∈ ts, Fit 17 t := fun t ht => by
      obtain ⟨d, _, d0, d1, h⟩ := sk.fd.fit ht
      exact h.mono (by omega)
    simp only [tSeq, tFor_eq, tLC_eq, iRng1, iRng2, iList, iTup, iStr, tIfS, tRet, tRetN, tNext, tAsg, gName, tVar, tC, tOp, rI0, rI, tTest, tB, rEq, rNe, tCall, tCons, tNil, tCB, tLst, tTup, tAnd, tOr, tNot, tAndV, tOrV, tNotV, tIf, tDrop, tSl, tPart, tNoPart, tChain, tUn, rU, L2.start, cx_K, bk_K, cx_calm, bk_calm, lenV_str, and_assoc, Option.join, List.length_map, List.length_append, decide_eq_true_eq, Bool.false_eq_true, if_false, if_true, Bool.not_true, Bool.not_false, Bool.not_eq_true', decide_eq_false_iff_not, Bool.true_eq_false, List.length_cons, List.length_nil, List.map_cons, List.map_nil, List.replicate, List.cons_append, List.nil_append, List.append_nil, List.getElem?_cons_zero, List.getElem?_cons_succ, List.set_cons_zero, List.set_cons_succ, Nat.reduceSub, Nat.reduceAdd, Option.some.injEq, V.int.injEq, V.str.injEq, V.bl.injEq, V.ref.injEq, List.cons.injEq, and_true, true_and, exists_eq_left', exists_eq_left, exists_and_left, exists_eq_right, exists_const, tBM, tBM0, rAppend, rPop, rIxL, rIxT, rIxS, rSlL, rSlT, rSlS, rCat, rCatT]
    refine ⟨_, .inl ⟨_, SqL.of hsv, rfl⟩, rfl, ?_⟩
    split
    · rename_i h0
      have hv : vs = [] := List.eq_nil_of_length_eq_zero (by omega)
      subst hv
      refine ⟨.inl ⟨rfl, _, SqL.of hsv⟩, small (by decide), fun p1 hp1 => ⟨[], same_new hp1 _ _ _ hsv, small1000 (by decide), ?_⟩⟩
      have n1 : H p1 = none := hs.free hp1
      refine q sa [.ref p1] [.node "all" []] _ ((hs.upd n1).upd nsa) upd_same (TAts.one (TAt.mkNode (vs := []) ?_ rfl)) (by simp) (fun t ht => ?_) (by rw [wts, wts, wt, wts]; omega)
      · rw [upd_ne (Ne.symm (ne_of_none hsv hp1))]
        exact upd_same
      · rw [List.mem_singleton.mp ht]
        exact ⟨.inr (.inl ⟨rfl, rfl⟩), fun _ z => nomatch z⟩
    · rename_i h0
      refine q sa vs ts H' hs hsv hts ?_ f17 (by omega)
      intro z
      subst z
      have : vs = [] := List.eq_nil_of_length_eq_zero hlv
      subst this
      exact h0 rfl
end

end C
set_option Elab.async false
set_option linter.all false
set_option maxRecDepth 100000
set_option maxHeartbeats 8000000
namespace C
open PySem L2
seal PE PT PW PA PS PSs PG PGs PI PPs PO PSet PIf
abbrev s_law_alike : Stmt := top 35
theorem sc_law_alike : FnScope ["found", "due", "k"] ["found", "due"] (defScope s_law_alike) := ⟨rfl, rfl, rfl, by decide +kernel, rfl, by decide +kernel, by decide +kernel⟩
def spAlk : Nat → Sp
  | 0 => fun _ _ _ _ => False
  | n + 1 => fun vs H Q _ => ∃ (v v' : V) (d : Dt), vs = [v, v'] ∧ DAt H d v ∧ DAt H d v' ∧ DFit n d ∧ Q (.bl true) H
section
variable {P : Program} {w : World} {K : PySem.W.Frag} {mg : Str → Option Value} {base : Heap} {f : Addr} {fd : FuncData}
theorem ok_alike (bi : Bi mg) (F : Fun K "_law_alike" "_law_alike" s_law_alike f fd) (b : Binds K fd ["found", "due"] []) (m : mg "_law_alike" = some (.ref f)) : ∀ n, FnOk P w K mg base CX0 n f fd ["found", "due"] (spAlk n) := by
  refine rec_ok F b m (fun vs H Q E h => h) (fun n h_law_alike => ?_)
  refine F.ok sc_law_alike (fun vs H Q E h => ?_) (fun cdv A outer s H vs Q E hr h => ?_)
  · obtain ⟨v, v', d, rfl, _⟩ := h
    rfl
  obtain ⟨v, v', d, rfl, hv, hv', hd, q⟩ := h
  refine ⟨_, (pss_cons (ps_if (pt_val (pe_callB (call_isi (T := "bool")) rfl bi.isinstance bt_isinstance (pa_cons (pv 1) (pa_cons (pe_ty bi.bool bt_bool rfl) pa_nil)))) (pss_one (ps_ret (pe_and (pe_callB (call_isi (T := "bool")) rfl bi.isinstance bt_isinstance (pa_cons (pv 0) (pa_cons (pe_ty bi.bool bt_bool rfl) pa_nil))) (pe_one (pe_cmpR op_eq (pv 0) (pv 1) (nomark _)))))) pss_nil) (pss_cons (ps_if (pt_val (pe_callB (call_isi (T := "int")) rfl bi.isinstance bt_isinstance (pa_cons (pv 1) (pa_cons (pe_ty bi.int bt_int rfl) pa_nil)))) (pss_one (ps_ret (pe_and (pe_callB (call_isi (T := "int")) rfl bi.isinstance bt_isinstance (pa_cons (pv 0) (pa_cons (pe_ty bi.int bt_int rfl) pa_nil))) (pe_and (pe_not (pe_callB (call_isi (T := "bool")) rfl bi.isinstance bt_isinstance (pa_cons (pv 0) (pa_cons (pe_ty bi.bool bt_bool rfl) pa_nil)))) (pe_one (pe_cmpR op_eq (pv 0) (pv 1) (nomark _))))))) pss_nil) (pss_cons (ps_if (pt_val (pe_callB (call_isi (T := "str")) rfl bi.isinstance bt_isinstance (pa_cons (pv 1) (pa_cons (pe_ty bi.str bt_str rfl) pa_nil)))) (pss_one (ps_ret (pe_and (pe_callB (call_isi (T := "str")) rfl bi.isinstance bt_isinstance (pa_cons (pv 0) (pa_cons (pe_ty bi.str bt_str rfl) pa_nil))) (pe_one (pe_cmpR op_eq (pv 0) (pv 1) (nomark _)))))) pss_nil) (pss_cons (ps_if (pt_cmpR op_isN (pv 1) pe_non (nomark _)) (pss_one (ps_ret (pe_cmpR op_isN (pv 0) pe_non (nomark _)))) pss_nil) (pss_cons (ps_if (pt_val (pe_callB (call_isi (T := "tuple")) rfl bi.isinstance bt_isinstance (pa_cons (pv 1) (pa_cons (pe_ty bi.tuple bt_tuple rfl) pa_nil)))) (pss_one (ps_if (pt_not (pt_val (pe_callB (call_isi (T := "tuple")) rfl bi.isinstance bt_isinstance (pa_cons (pv 0) (pa_cons (pe_ty bi.tuple bt_tuple rfl) pa_nil))))) (pss_one (ps_ret pe_bl)) pss_nil)) (pss_one (ps_if (pt_not (pt_val (pe_callB (call_isi (T := "list")) rfl bi.isinstance bt_isinstance (pa_cons (pv 0) (pa_cons (pe_ty bi.list bt_list rfl) pa_nil))))) (pss_one (ps_ret pe_bl)) pss_nil))) (pss_cons (ps_if (pt_cmpR op_ne (pe_callB call_len rfl bi.len bt_len (pa_cons (pv 0) pa_nil)) (pe_callB call_len rfl bi.len bt_len (pa_cons (pv 1) pa_nil)) (nomark _)) (pss_one (ps_ret pe_bl)) pss_nil) (pss_cons (ps_for PassesOwn.never rfl (pi_range1 rfl bi.range (pa_cons (pe_callB call_len rfl bi.len bt_len (pa_cons (pv 1) pa_nil)) pa_nil)) (pg_name (i := 2) sc_law_alike.nd rfl (Or.inl rfl)) (pss_one (ps_if (pt_not (pt_val (pe_callH h_law_alike hr rfl (pa_cons (pe_ix ix_seq (pv 0) (pv 2) (fun _ _ => rfl)) (pa_cons (pe_ix ix_seq (pv 1) (pv 2) (fun _ _ => rfl)) pa_nil))))) (pss_one (ps_ret pe_bl)) pss_nil))) (pss_one (ps_ret pe_bl))))))))), ?_⟩
  cases d with
  | non =>
    have e : v = .non := hv
    have e' : v' = .non := hv'
    subst e; subst e'
    simp only [tSeq, tFor_eq, tLC_eq, iRng1, iRng2, iList, iTup, iStr, tIfS, tRet, tRetN, tNext, tAsg, gName, tVar, tC, tOp, rI0, rI, tTest, tB, rEq, rNe, tCall, tCons, tNil, tCB, tLst, tTup, tAnd, tOr, tNot, tAndV, tOrV, tNotV, tIf, tDrop, tSl, tPart, tNoPart, tChain, tUn, rU, L2.start, cx_K, bk_K, cx_calm, bk_calm, lenV_str, and_assoc, Option.join, List.length_map, List.length_append, decide_eq_true_eq, Bool.false_eq_true, if_false, if_true, Bool.not_true, Bool.not_false, Bool.not_eq_true', decide_eq_false_iff_not, Bool.true_eq_false, List.length_cons, List.length_nil, List.map_cons, List.map_nil, List.replicate, List.cons_append, List.nil_append, List.append_nil, List.getElem?_cons_zero, List.getElem?_cons_succ, List.set_cons_zero, List.set_cons_succ, Nat.reduceSub, Nat.reduceAdd, Option.some.injEq, V.int.injEq, V.str.injEq, V.bl.injEq, V.ref.injEq, List.cons.injEq, and_true, true_and, exists_eq_left', exists_eq_left, exists_and_left, exists_eq_right, exists_const]
    exact ⟨_, .non, false, kit_nb, iteF ⟨_, .non, false, kit_ni, iteF ⟨_, .non, false, kit_ns, iteF q⟩⟩⟩
  | bl x =>
    have e : v = .bl x := hv
    have e' : v' = .bl x := hv'
    subst e; subst e'
    simp only [tSeq, tFor_eq, tLC_eq, iRng1, iRng2, iList, iTup, iStr, tIfS, tRet, tRetN, tNext, tAsg, gName, tVar, tC, tOp, rI0, rI, tTest, tB, rEq, rNe, tCall, tCons, tNil, tCB, tLst, tTup, tAnd, tOr, tNot, tAndV, tOrV, tNotV, tIf, tDrop, tSl, tPart, tNoPart, tChain, tUn, rU, L2.start, cx_K, bk_K, cx_calm, bk_calm, lenV_str, and_assoc, Option.join, List.length_map, List.length_append, decide_eq_true_eq, Bool.false_eq_true, if_false, if_true, Bool.not_true, Bool.not_false, Bool.not_eq_true', decide_eq_false_iff_not, Bool.true_eq_false, List.length_cons, List.length_nil, List.map_cons, List.map_nil, List.replicate, List.cons_append, List.nil_append, List.append_nil, List.getElem?_cons_zero, List.getElem?_cons_succ, List.set_cons_zero, List.set_cons_succ, Nat.reduceSub, Nat.reduceAdd, Option.some.injEq, V.int.injEq, V.str.injEq, V.bl.injEq, V.ref.injEq, List.cons.injEq, and_true, true_and, exists_eq_left', exists_eq_left, exists_and_left, exists_eq_right, exists_const]
    exact ⟨_, .bl x, true, kit_same, iteT ⟨_, .bl x, true, kit_same, iteT ⟨rfl, q⟩⟩⟩
  | int x =>
    have e : v = .int x := hv
    have e' : v' = .int x := hv'
    subst e; subst e'
    simp only [tSeq, tFor_eq, tLC_eq, iRng1, iRng2, iList, iTup, iStr, tIfS, tRet, tRetN, tNext, tAsg, gName, tVar, tC, tOp, rI0, rI, tTest, tB, rEq, rNe, tCall, tCons, tNil, tCB, tLst, tTup, tAnd, tOr, tNot, tAndV, tOrV, tNotV, tIf, tDrop, tSl, tPart, tNoPart, tChain, tUn, rU, L2.start, cx_K, bk_K, cx_calm, bk_calm, lenV_str, and_assoc, Option.join, List.length_map, List.length_append, decide_eq_true_eq, Bool.false_eq_true, if_false, if_true, Bool.not_true, Bool.not_false, Bool.not_eq_true', decide_eq_false_iff_not, Bool.true_eq_false, List.length_cons, List.length_nil, List.map_cons, List.map_nil, List.replicate, List.cons_append, List.nil_append, List.append_nil, List.getElem?_cons_zero, List.getElem?_cons_succ, List.set_cons_zero, List.set_cons_succ, Nat.reduceSub, Nat.reduceAdd, Option.some.injEq, V.int.injEq, V.str.injEq, V.bl.injEq, V.ref.injEq, List.cons.injEq, and_true, true_and, exists_eq_left', exists_eq_left, exists_and_left, exists_eq_right, exists_const]
    exact ⟨_, .int x, false, kit_ib, iteF ⟨_, .int x, true, kit_same, iteT ⟨_, .int x, true, kit_same, iteT ⟨_, .int x, false, kit_ib, by rw [if_pos rfl]; exact ⟨rfl, q⟩⟩⟩⟩⟩
  | str x =>
    have e : v = .str x := hv
    have e' : v' = .str x := hv'
    subst e; subst e'
    simp only [tSeq, tFor_eq, tLC_eq, iRng1, iRng2, iList, iTup, iStr, tIfS, tRet, tRetN, tNext, tAsg, gName, tVar, tC, tOp, rI0, rI, tTest, tB, rEq, rNe, tCall, tCons, tNil, tCB, tLst, tTup, tAnd, tOr, tNot, tAndV, tOrV, tNotV, tIf, tDrop, tSl, tPart, tNoPart, tChain, tUn, rU, L2.start, cx_K, bk_K, cx_calm, bk_calm, lenV_str, and_assoc, Option.join, List.length_map, List.length_append, decide_eq_true_eq, Bool.false_eq_true, if_false, if_true, Bool.not_true, Bool.not_false, Bool.not_eq_true', decide_eq_false_iff_not, Bool.true_eq_false, List.length_cons, List.length_nil, List.map_cons, List.map_nil, List.replicate, List.cons_append, List.nil_append, List.append_nil, List.getElem?_cons_zero, List.getElem?_cons_succ, List.set_cons_zero, List.set_cons_succ, Nat.reduceSub, Nat.reduceAdd, Option.some.injEq, V.int.injEq, V.str.injEq, V.bl.injEq, V.ref.injEq, List.cons.injEq, and_true, true_and, exists_eq_left', exists_eq_left, exists_and_left, exists_eq_right, exists_const]
    exact ⟨_, .str x, false, kit_sb, iteF ⟨_, .str x, false, kit_si, iteF ⟨_, .str x, true, kit_same, iteT ⟨_, .str x, true, kit_same, iteT ⟨rfl, q⟩⟩⟩⟩⟩
  | tup ds =>
    obtain ⟨a, us, rfl, ha, hu⟩ := hv
    obtain ⟨a', us', rfl, ha', hu'⟩ := hv'
    cases n with
    | zero => exact hd.elim
    | succ n =>
      have l1 := hu.length
      have l2 := hu'.length
      have l3 : ds.length ≤ 1000 := hd.1
      simp only [tSeq, tFor_eq, tLC_eq, iRng1, iRng2, iList, iTup, iStr, tIfS, tRet, tRetN, tNext, tAsg, gName, tVar, tC, tOp, rI0, rI, tTest, tB, rEq, rNe, tCall, tCons, tNil, tCB, tLst, tTup, tAnd, tOr, tNot, tAndV, tOrV, tNotV, tIf, tDrop, tSl, tPart, tNoPart, tChain, tUn, rU, L2.start, cx_K, bk_K, cx_calm, bk_calm, lenV_str, and_assoc, Option.join, List.length_map, List.length_append, decide_eq_true_eq, Bool.false_eq_true, if_false, if_true, Bool.not_true, Bool.not_false, Bool.not_eq_true', decide_eq_false_iff_not, Bool.true_eq_false, List.length_cons, List.length_nil, List.map_cons, List.map_nil, List.replicate, List.cons_append, List.nil_append, List.append_nil, List.getElem?_cons_zero, List.getElem?_cons_succ, List.set_cons_zero, List.set_cons_succ, Nat.reduceSub, Nat.reduceAdd, Option.some.injEq, V.int.injEq, V.str.injEq, V.bl.injEq, V.ref.injEq, List.cons.injEq, and_true, true_and, exists_eq_left', exists_eq_left, exists_and_left, exists_eq_right, exists_const]
      refine ⟨_, .tup ha', false, kit_tb, iteF ⟨_, .tup ha', false, kit_ti, iteF ⟨_, .tup ha', false, kit_ts, iteF ?_⟩⟩⟩
      refine ⟨_, .tup ha', true, kit_same, iteT ⟨_, .tup ha, true, kit_same, ?_⟩⟩
      rw [if_neg (by decide)]
      refine ⟨_, .inr ⟨_, SqT.of ha, rfl⟩, _, .inr ⟨_, SqT.of ha', rfl⟩, rfl, ?_⟩
      rw [if_neg (by rw [l1, l2]; simp)]
      refine ⟨_, .inr ⟨_, SqT.of ha', rfl⟩, by omega, by omega, ?_⟩
      refine fw_range (n := (us'.length : Int).toNat) (fun i σ H' => H' = H ∧ ∃ o, σ = [some (V.ref a), some (V.ref a'), o]) ⟨rfl, _, rfl⟩ (fun i σ H' hi e => ?_) (fun σ H' e => ?_)
      · obtain ⟨rfl, o, rfl⟩ := e
        have hi' : i < ds.length := by omega
        obtain ⟨u, hu1, hu2⟩ := hu.get (List.getElem?_eq_getElem hi')
        obtain ⟨u', hu1', hu2'⟩ := hu'.get (List.getElem?_eq_getElem hi')
        simp only [tSeq, tFor_eq, tLC_eq, iRng1, iRng2, iList, iTup, iStr, tIfS, tRet, tRetN, tNext, tAsg, gName, tVar, tC, tOp, rI0, rI, tTest, tB, rEq, rNe, tCall, tCons, tNil, tCB, tLst, tTup, tAnd, tOr, tNot, tAndV, tOrV, tNotV, tIf, tDrop, tSl, tPart, tNoPart, tChain, tUn, rU, L2.start, cx_K, bk_K, cx_calm, bk_calm, lenV_str, and_assoc, Option.join, List.length_map, List.length_append, decide_eq_true_eq, Bool.false_eq_true, if_false, if_true, Bool.not_true, Bool.not_false, Bool.not_eq_true', decide_eq_false_iff_not, Bool.true_eq_false, List.length_cons, List.length_nil, List.map_cons, List.map_nil, List.replicate, List.cons_append, List.nil_append, List.append_nil, List.getElem?_cons_zero, List.getElem?_cons_succ, List.set_cons_zero, List.set_cons_succ, Nat.reduceSub, Nat.reduceAdd, Option.some.injEq, V.int.injEq, V.str.injEq, V.bl.injEq, V.ref.injEq, List.cons.injEq, and_true, true_and, exists_eq_left', exists_eq_left, exists_and_left, exists_eq_right, exists_const]
        refine .inr (.inl ⟨a, us, _, u, rfl, rfl, SqT.of ha, by rw [Int.zero_add]; exact atI_nat hu1, .inr (.inl ⟨a', us', _, u', rfl, rfl, SqT.of ha', by rw [Int.zero_add]; exact atI_nat hu1', ?_⟩)⟩)
        exact ⟨u, u', _, rfl, hu2, hu2', hd.2 _ (List.getElem_mem hi'), true, rfl, by rw [if_neg (by decide)]; exact ⟨rfl, _, rfl⟩⟩
      · obtain ⟨rfl, o, rfl⟩ := e
        simp only [tSeq, tFor_eq, tLC_eq, iRng1, iRng2, iList, iTup, iStr, tIfS, tRet, tRetN, tNext, tAsg, gName, tVar, tC, tOp, rI0, rI, tTest, tB, rEq, rNe, tCall, tCons, tNil, tCB, tLst, tTup, tAnd, tOr, tNot, tAndV, tOrV, tNotV, tIf, tDrop, tSl, tPart, tNoPart, tChain, tUn, rU, L2.start, cx_K, bk_K, cx_calm, bk_calm, lenV_str, and_assoc, Option.join, List.length_map, List.length_append, decide_eq_true_eq, Bool.false_eq_true, if_false, if_true, Bool.not_true, Bool.not_false, Bool.not_eq_true', decide_eq_false_iff_not, Bool.true_eq_false, List.length_cons, List.length_nil, List.map_cons, List.map_nil, List.replicate, List.cons_append, List.nil_append, List.append_nil, List.getElem?_cons_zero, List.getElem?_cons_succ, List.set_cons_zero, List.set_cons_succ, Nat.reduceSub, Nat.reduceAdd, Option.some.injEq, V.int.injEq, V.str.injEq, V.bl.injEq, V.ref.injEq, List.cons.injEq, and_true, true_and, exists_eq_left', exists_eq_left, exists_and_left, exists_eq_right, exists_const]
        exact q
  | lst ds =>
    obtain ⟨a, us, rfl, ha, hu⟩ := hv
    obtain ⟨a', us', rfl, ha', hu'⟩ := hv'
    cases n with
    | zero => exact hd.elim
    | succ n =>
      have l1 := hu.length
      have l2 := hu'.length
      have l3 : ds.length ≤ 1000 := hd.1
      simp only [tSeq, tFor_eq, tLC_eq, iRng1, iRng2, iList, iTup, iStr, tIfS, tRet, tRetN, tNext, tAsg, gName, tVar, tC, tOp, rI0, rI, tTest, tB, rEq, rNe, tCall, tCons, tNil, tCB, tLst, tTup, tAnd, tOr, tNot, tAndV, tOrV, tNotV, tIf, tDrop, tSl, tPart, tNoPart, tChain, tUn, rU, L2.start, cx_K, bk_K, cx_calm, bk_calm, lenV_str, and_assoc, Option.join, List.length_map, List.length_append, decide_eq_true_eq, Bool.false_eq_true, if_false, if_true, Bool.not_true, Bool.not_false, Bool.not_eq_true', decide_eq_false_iff_not, Bool.true_eq_false, List.length_cons, List.length_nil, List.map_cons, List.map_nil, List.replicate, List.cons_append, List.nil_append, List.append_nil, List.getElem?_cons_zero, List.getElem?_cons_succ, List.set_cons_zero, List.set_cons_succ, Nat.reduceSub, Nat.reduceAdd, Option.some.injEq, V.int.injEq, V.str.injEq, V.bl.injEq, V.ref.injEq, List.cons.injEq, and_true, true_and, exists_eq_left', exists_eq_left, exists_and_left, exists_eq_right, exists_const]
      refine ⟨_, .lst ha', false, kit_lb, iteF ⟨_, .lst ha', false, kit_li, iteF ⟨_, .lst ha', false, kit_ls, iteF ?_⟩⟩⟩
      refine ⟨_, .lst ha', false, kit_lt, iteF ⟨_, .lst ha, true, kit_same, ?_⟩⟩
      rw [if_neg (by decide)]
      refine ⟨_, .inl ⟨_, SqL.of ha, rfl⟩, _, .inl ⟨_, SqL.of ha', rfl⟩, rfl, ?_⟩
      rw [if_neg (by rw [l1, l2]; simp)]
      refine ⟨_, .inl ⟨_, SqL.of ha', rfl⟩, by omega, by omega, ?_⟩
      refine fw_range (n := (us'.length : Int).toNat) (fun i σ H' => H' = H ∧ ∃ o, σ = [some (V.ref a), some (V.ref a'), o]) ⟨rfl, _, rfl⟩ (fun i σ H' hi e => ?_) (fun σ H' e => ?_)
      · obtain ⟨rfl, o, rfl⟩ := e
        have hi' : i < ds.length := by omega
        obtain ⟨u, hu1, hu2⟩ := hu.get (List.getElem?_eq_getElem hi')
        obtain ⟨u', hu1', hu2'⟩ := hu'.get (List.getElem?_eq_getElem hi')
        simp only [tSeq, tFor_eq, tLC_eq, iRng1, iRng2, iList, iTup, iStr, tIfS, tRet, tRetN, tNext, tAsg, gName, tVar, tC, tOp, rI0, rI, tTest, tB, rEq, rNe, tCall, tCons, tNil, tCB, tLst, tTup, tAnd, tOr, tNot, tAndV, tOrV, tNotV, tIf, tDrop, tSl, tPart, tNoPart, tChain, tUn, rU, L2.start, cx_K, bk_K, cx_calm, bk_calm, lenV_str, and_assoc, Option.join, List.length_map, List.length_append, decide_eq_true_eq, Bool.false_eq_true, if_false, if_true, Bool.not_true, Bool.not_false, Bool.not_eq_true', decide_eq_false_iff_not, Bool.true_eq_false, List.length_cons, List.length_nil, List.map_cons, List.map_nil, List.replicate, List.cons_append, List.nil_append, List.append_nil, List.getElem?_cons_zero, List.getElem?_cons_succ, List.set_cons_zero, List.set_cons_succ, Nat.reduceSub, Nat.reduceAdd, Option.some.injEq, V.int.injEq, V.str.injEq, V.bl.injEq, V.ref.injEq, List.cons.injEq, and_true, true_and, exists_eq_left', exists_eq_left, exists_and_left, exists_eq_right, exists_const]
        refine .inl (⟨a, us, _, u, rfl, rfl, SqL.of ha, by rw [Int.zero_add]; exact atI_nat hu1, .inl (⟨a', us', _, u', rfl, rfl, SqL.of ha', by rw [Int.zero_add]; exact atI_nat hu1', ?_⟩)⟩)
        exact ⟨u, u', _, rfl, hu2, hu2', hd.2 _ (List.getElem_mem hi'), true, rfl, by rw [if_neg (by decide)]; exact ⟨rfl, _, rfl⟩⟩
      · obtain ⟨rfl, o, rfl⟩ := e
        simp only [tSeq, tFor_eq, tLC_eq, iRng1, iRng2, iList, iTup, iStr, tIfS, tRet, tRetN, tNext, tAsg, gName, tVar, tC, tOp, rI0, rI, tTest, tB, rEq, rNe, tCall, tCons, tNil, tCB, tLst, tTup, tAnd, tOr, tNot, tAndV, tOrV, tNotV, tIf, tDrop, tSl, tPart, tNoPart, tChain, tUn, rU, L2.start, cx_K, bk_K, cx_calm, bk_calm, lenV_str, and_assoc, Option.join, List.length_map, List.length_append, decide_eq_true_eq, Bool.false_eq_true, if_false, if_true, Bool.not_true, Bool.not_false, Bool.not_eq_true', decide_eq_false_iff_not, Bool.true_eq_false, List.length_cons, List.length_nil, List.map_cons, List.map_nil, List.replicate, List.cons_append, List.nil_append, List.append_nil, List.getElem?_cons_zero, List.getElem?_cons_succ, List.set_cons_zero, List.set_cons_succ, Nat.reduceSub, Nat.reduceAdd, Option.some.injEq, V.int.injEq, V.str.injEq, V.bl.injEq, V.ref.injEq, List.cons.injEq, and_true, true_and, exists_eq_left', exists_eq_left, exists_and_left, exists_eq_right, exists_const]
        exact q
end

end C
set_option Elab.async false
set_option linter.all false
set_option maxRecDepth 100000
set_option maxHeartbeats 8000000
namespace C
open PySem L2
seal PE PT PW PA PS PSs PG PGs PI PPs PO PSet PIf
abbrev s_law_written : Stmt := top 36
theorem sc_law_written : FnScope ["t", "mark", "made", "part"] ["t"] (defScope s_law_written) := ⟨rfl, rfl, rfl, by decide +kernel, rfl, by decide +kernel, by decide +kernel⟩
abbrev s_law_written_saying : Stmt := top 37
theorem sc_law_written_saying : FnScope ["saying"] ["saying"] (defScope s_law_written_saying) := ⟨rfl, rfl, rfl, by decide +kernel, rfl, by decide +kernel, by decide +kernel⟩
abbrev s_law_written_rule : Stmt := top 38
theorem sc_law_written_rule : FnScope ["rule", "made", "one"] ["rule"] (defScope s_law_written_rule) := ⟨rfl, rfl, rfl, by decide +kernel, rfl, by decide +kernel, by decide +kernel⟩
abbrev s_law_rule : Stmt := top 39
theorem sc_law_rule : FnScope ["script", "pool", "at", "size", "some", "k", "low", "premises"] ["script", "pool", "at"] (defScope s_law_rule) := ⟨rfl, rfl, rfl, by decide +kernel, rfl, by decide +kernel, by decide +kernel⟩
def spWr : Nat → Sp
  | 0 => fun _ _ _ _ => False
  | n + 1 => fun vs H Q _ => ∃ (v : V) (t : Tm), vs = [v] ∧ TAt H t v ∧ Fit n t ∧ wt t ≤ 900 ∧ ∀ H', Same H H' → Q (.str (wrS t)) H'
def spWrS : Sp := fun vs H Q _ => ∃ (v : V) (p : Tm × Tm), vs = [v] ∧ SAt H p v ∧ FitS 20 900 p ∧ ∀ H', Same H H' → Q (.str (sayS p)) H'
def spWrR : Sp := fun vs H Q _ => ∃ (v : V) (r : List (Tm × Tm) × (Tm × Tm)), vs = [v] ∧ RAt H r v ∧ r.1.length ≤ 10 ∧ (∀ p ∈ r.1, FitS 20 900 p) ∧ FitS 20 900 r.2 ∧ ∀ H', Same H H' → Q (.str (ruleS r)) H'
def spRule (K : PySem.W.Frag) : Sp := fun vs H Q _ => ∃ (a p : Addr) (ns : List Int) (k : Nat), vs = [.ref a, .ref p, .int k] ∧ SqL K H a (ns.map V.int) ∧ Pool K H p ∧
  ∀ v r H', Same H H' → RAt H' r v → r.1.length ≤ 5 → (∀ p ∈ r.1, FitS 18 6 p) → FitS 18 6 r.2 → Q v H'
theorem big {n : Nat} (h : n ≤ 1000000) : n ≤ sizeLine := Nat.le_trans h (by decide)
section
variable {P : Program} {w : World} {K : PySem.W.Frag} {mg : Str → Option Value} {base : Heap} {f : Addr} {fd : FuncData}
theorem ok_written (bi : Bi mg) (F : Fun K "_law_written" "_law_written" s_law_written f fd) (b : Binds K fd ["t"] []) (m : mg "_law_written" = some (.ref f)) : ∀ n, FnOk P w K mg base CX0 n f fd ["t"] (spWr n) := by
  refine rec_ok F b m (fun vs H Q E h => h) (fun n h_law_written => ?_)
  refine F.ok sc_law_written (fun vs H Q E h => ?_) (fun cdv A outer s H vs Q E hr h => ?_)
  · obtain ⟨v, t, rfl, _⟩ := h
    rfl
  obtain ⟨v, t, rfl, ht, hf, hw, q⟩ := h
  refine ⟨_, (pss_cons (ps_if (pt_cmpR op_eq (pe_ix ix_tup (pv 0) pe_int (fun _ _ => rfl)) pe_str (nomark _)) (pss_one (ps_ret (pe_ix ix_tup (pv 0) pe_int (fun _ _ => rfl)))) pss_nil) (pss_cons (ps_if (pt_cmpR op_eq (pe_callB call_len rfl bi.len bt_len (pa_cons (pv 0) pa_nil)) pe_int (nomark _)) (pss_one (ps_ret (pe_ix ix_tup (pv 0) pe_int (fun _ _ => rfl)))) pss_nil) (pss_cons (ps_if (pt_cmpR op_eq (pe_ix ix_tup (pv 0) pe_int (fun _ _ => rfl)) pe_str (nomark _)) (pss_one (ps_ret (pe_op op_add_str pe_str (pe_callH h_law_written hr rfl (pa_cons (pe_ix ix_tup (pv 0) pe_int (fun _ _ => rfl)) pa_nil))))) pss_nil) (pss_cons (ps_set (i := 1) sc_law_written.nd rfl (Or.inl rfl) pe_str) (pss_cons (ps_if (pt_cmpR op_eq (pe_ix ix_tup (pv 0) pe_int (fun _ _ => rfl)) pe_str (nomark _)) (pss_one (ps_set (i := 1) sc_law_written.nd rfl (Or.inl rfl) pe_str)) pss_nil) (pss_cons (ps_set (i := 2) sc_law_written.nd rfl (Or.inl rfl) (pe_op op_add_str pe_str (pe_callH h_law_written hr rfl (pa_cons (pe_ix ix_tup (pv 0) pe_int (fun _ _ => rfl)) pa_nil)))) (pss_cons (ps_for PassesOwn.never rfl (pi_tup (pe_slice sl_tup (pv 0) (po_some pe_int) po_none)) (pg_name (i := 3) sc_law_written.nd rfl (Or.inl rfl)) (pss_one (ps_set (i := 2) sc_law_written.nd rfl (Or.inl rfl) (pe_op op_add_str (pe_op op_add_str (pv 2) (pv 1)) (pe_callH h_law_written hr rfl (pa_cons (pv 3) pa_nil)))))) (pss_one (ps_ret (pe_op op_add_str (pv 2) pe_str)))))))))), ?_⟩
  cases t with
  | name x =>
    obtain ⟨a, rfl, ha⟩ := TAt.name ht
    simp only [tSeq, tFor_eq, tLC_eq, iRng1, iRng2, iList, iTup, iStr, tIfS, tRet, tRetN, tNext, tAsg, gName, tVar, tC, tOp, rI0, rI, tTest, tB, rEq, rNe, tCall, tCons, tNil, tCB, tLst, tTup, tAnd, tOr, tNot, tAndV, tOrV, tNotV, tIf, tDrop, tSl, tPart, tNoPart, tChain, tUn, rU, L2.start, cx_K, bk_K, cx_calm, bk_calm, lenV_str, and_assoc, Option.join, List.length_map, List.length_append, decide_eq_true_eq, Bool.false_eq_true, if_false, if_true, Bool.not_true, Bool.not_false, Bool.not_eq_true', decide_eq_false_iff_not, Bool.true_eq_false, List.length_cons, List.length_nil, List.map_cons, List.map_nil, List.replicate, List.cons_append, List.nil_append, List.append_nil, List.getElem?_cons_zero, List.getElem?_cons_succ, List.set_cons_zero, List.set_cons_succ, Nat.reduceSub, Nat.reduceAdd, Option.some.injEq, V.int.injEq, V.str.injEq, V.bl.injEq, V.ref.injEq, List.cons.injEq, and_true, true_and, exists_eq_left', exists_eq_left, exists_and_left, exists_eq_right, exists_const, tBM, tBM0, rAppend, rPop, rIxL, rIxT, rIxS, rSlL, rSlT, rSlS, rCat, rCatT, tKGet, cx_w, bk_w, tDGet, tDisp, tPairs, tDNewK]
    refine ⟨_, SqT.of ha, .str "name", at0, rfl, ?_⟩
    rw [if_pos rfl]
    rw [wrS_name] at q
    exact ⟨_, SqT.of ha, .str x, at1, q _ (Same.refl _)⟩
  | node wd ts =>
    obtain ⟨a, us, rfl, ha, hu⟩ := TAt.node ht
    have hwd := hf.wrd
    have hl := hu.length
    have hll := wts_len ts
    have hsh := hf.sh
    rw [wt] at hw
    have part : ∀ (i : Nat) (t : Tm), ts[i]? = some t → ∃ m, n = m + 1 ∧ Fit m t ∧ wt t ≤ 900 := fun i t hi => by
      have hm := List.mem_of_getElem? hi
      have := wts_mem hm
      cases n with
      | zero => rw [hf.2] at hm; cases hm
      | succ n => exact ⟨n, rfl, hf.part hm, by omega⟩
    refine seq_abs fun N hN => ?_
    simp only [tSeq, tFor_eq, tLC_eq, iRng1, iRng2, iList, iTup, iStr, tIfS, tRet, tRetN, tNext, tAsg, gName, tVar, tC, tOp, rI0, rI, tTest, tB, rEq, rNe, tCall, tCons, tNil, tCB, tLst, tTup, tAnd, tOr, tNot, tAndV, tOrV, tNotV, tIf, tDrop, tSl, tPart, tNoPart, tChain, tUn, rU, L2.start, cx_K, bk_K, cx_calm, bk_calm, lenV_str, and_assoc, Option.join, List.length_map, List.length_append, decide_eq_true_eq, Bool.false_eq_true, if_false, if_true, Bool.not_true, Bool.not_false, Bool.not_eq_true', decide_eq_false_iff_not, Bool.true_eq_false, List.length_cons, List.length_nil, List.map_cons, List.map_nil, List.replicate, List.cons_append, List.nil_append, List.append_nil, List.getElem?_cons_zero, List.getElem?_cons_succ, List.set_cons_zero, List.set_cons_succ, Nat.reduceSub, Nat.reduceAdd, Option.some.injEq, V.int.injEq, V.str.injEq, V.bl.injEq, V.ref.injEq, List.cons.injEq, and_true, true_and, exists_eq_left', exists_eq_left, exists_and_left, exists_eq_right, exists_const, tBM, tBM0, rAppend, rPop, rIxL, rIxT, rIxS, rSlL, rSlT, rSlS, rCat, rCatT, tKGet, cx_w, bk_w, tDGet, tDisp, tPairs, tDNewK]
    refine ⟨_, SqT.of ha, .str wd, at0, rfl, ?_⟩
    rw [if_neg (fun e => hwd.ne (V.str.inj e))]
    refine hN _ _ ?_
    refine seq_abs fun N hN => ?_
    simp only [tSeq, tFor_eq, tLC_eq, iRng1, iRng2, iList, iTup, iStr, tIfS, tRet, tRetN, tNext, tAsg, gName, tVar, tC, tOp, rI0, rI, tTest, tB, rEq, rNe, tCall, tCons, tNil, tCB, tLst, tTup, tAnd, tOr, tNot, tAndV, tOrV, tNotV, tIf, tDrop, tSl, tPart, tNoPart, tChain, tUn, rU, L2.start, cx_K, bk_K, cx_calm, bk_calm, lenV_str, and_assoc, Option.join, List.length_map, List.length_append, decide_eq_true_eq, Bool.false_eq_true, if_false, if_true, Bool.not_true, Bool.not_false, Bool.not_eq_true', decide_eq_false_iff_not, Bool.true_eq_false, List.length_cons, List.length_nil, List.map_cons, List.map_nil, List.replicate, List.cons_append, List.nil_append, List.append_nil, List.getElem?_cons_zero, List.getElem?_cons_succ, List.set_cons_zero, List.set_cons_succ, Nat.reduceSub, Nat.reduceAdd, Option.some.injEq, V.int.injEq, V.str.injEq, V.bl.injEq, V.ref.injEq, List.cons.injEq, and_true, true_and, exists_eq_left', exists_eq_left, exists_and_left, exists_eq_right, exists_const, tBM, tBM0, rAppend, rPop, rIxL, rIxT, rIxS, rSlL, rSlT, rSlS, rCat, rCatT, tKGet, cx_w, bk_w, tDGet, tDisp, tPairs, tDNewK]
    refine ⟨_, .inr ⟨_, SqT.of ha, rfl⟩, rfl, ?_⟩
    rw [List.length_cons]
    by_cases h0 : ts = []
    · subst h0
      have hus : us = [] := List.eq_nil_of_length_eq_zero hl
      subst hus
      rw [if_pos (by rfl)]
      refine ⟨_, SqT.of ha, .str wd, at0, ?_⟩
      have e : wrS (.node wd []) = wd := by
        rcases hsh with ⟨rfl, _⟩ | ⟨rfl, _⟩ | ⟨_, h⟩ | ⟨_, h⟩ | ⟨_, h⟩
        · exact wrS_none
        · exact wrS_all
        · cases h
        · cases h
        · cases h
      rw [e] at q
      exact q _ (Same.refl _)
    rw [if_neg (by intro e; exact h0 (List.eq_nil_of_length_eq_zero (by omega)))]
    refine hN _ _ ?_
    refine seq_abs fun N hN => ?_
    simp only [tSeq, tFor_eq, tLC_eq, iRng1, iRng2, iList, iTup, iStr, tIfS, tRet, tRetN, tNext, tAsg, gName, tVar, tC, tOp, rI0, rI, tTest, tB, rEq, rNe, tCall, tCons, tNil, tCB, tLst, tTup, tAnd, tOr, tNot, tAndV, tOrV, tNotV, tIf, tDrop, tSl, tPart, tNoPart, tChain, tUn, rU, L2.start, cx_K, bk_K, cx_calm, bk_calm, lenV_str, and_assoc, Option.join, List.length_map, List.length_append, decide_eq_true_eq, Bool.false_eq_true, if_false, if_true, Bool.not_true, Bool.not_false, Bool.not_eq_true', decide_eq_false_iff_not, Bool.true_eq_false, List.length_cons, List.length_nil, List.map_cons, List.map_nil, List.replicate, List.cons_append, List.nil_append, List.append_nil, List.getElem?_cons_zero, List.getElem?_cons_succ, List.set_cons_zero, List.set_cons_succ, Nat.reduceSub, Nat.reduceAdd, Option.some.injEq, V.int.injEq, V.str.injEq, V.bl.injEq, V.ref.injEq, List.cons.injEq, and_true, true_and, exists_eq_left', exists_eq_left, exists_and_left, exists_eq_right, exists_const, tBM, tBM0, rAppend, rPop, rIxL, rIxT, rIxS, rSlL, rSlT, rSlS, rCat, rCatT, tKGet, cx_w, bk_w, tDGet, tDisp, tPairs, tDNewK]
    refine ⟨_, SqT.of ha, .str wd, at0, rfl, ?_⟩
    by_cases hnot : wd = "not"
    · subst hnot
      rw [if_pos rfl]
      have h1 : ts.length = 1 := by
        rcases hsh with ⟨h, _⟩ | ⟨h, _⟩ | ⟨_, h⟩ | ⟨h, _⟩ | ⟨h, _⟩
        · exact absurd h (by decide +kernel)
        · exact absurd h (by decide +kernel)
        · exact h
        · exact absurd h (by decide +kernel)
        · exact absurd h (by decide +kernel)
      match ts, h1 with
      | [t], _ =>
        obtain ⟨u, r, e1, e2, e3⟩ := hu
        have e3 : r = [] := e3
        subst e3; subst e1
        obtain ⟨m, rfl, f1, f2⟩ := part 0 t rfl
        refine ⟨_, SqT.of ha, u, at1, ?_⟩
        simp only [spWr]
        refine ⟨u, t, rfl, e2, f1, f2, fun H1 e => ⟨_, rfl, ?_, ?_⟩⟩
        · have := wrS_len f1
          have : ("!" : Str).length = 1 := by decide +kernel
          exact big (by omega)
        · rw [← wrS_not]
          exact q _ e
    rw [if_neg (fun e => hnot (V.str.inj e))]
    refine hN _ _ ?_
    have hbe : wd = "both" ∨ wd = "either" := by
      rcases hsh with ⟨_, h⟩ | ⟨_, h⟩ | ⟨h, _⟩ | ⟨h, _⟩ | ⟨h, _⟩
      · exact absurd (List.eq_nil_of_length_eq_zero h) h0
      · exact absurd (List.eq_nil_of_length_eq_zero h) h0
      · exact absurd h hnot
      · exact .inl h
      · exact .inr h
    refine seq_abs fun N hN => ?_
    simp only [tSeq, tFor_eq, tLC_eq, iRng1, iRng2, iList, iTup, iStr, tIfS, tRet, tRetN, tNext, tAsg, gName, tVar, tC, tOp, rI0, rI, tTest, tB, rEq, rNe, tCall, tCons, tNil, tCB, tLst, tTup, tAnd, tOr, tNot, tAndV, tOrV, tNotV, tIf, tDrop, tSl, tPart, tNoPart, tChain, tUn, rU, L2.start, cx_K, bk_K, cx_calm, bk_calm, lenV_str, and_assoc, Option.join, List.length_map, List.length_append, decide_eq_true_eq, Bool.false_eq_true, if_false, if_true, Bool.not_true, Bool.not_false, Bool.not_eq_true', decide_eq_false_iff_not, Bool.true_eq_false, List.length_cons, List.length_nil, List.map_cons, List.map_nil, List.replicate, List.cons_append, List.nil_append, List.append_nil, List.getElem?_cons_zero, List.getElem?_cons_succ, List.set_cons_zero, List.set_cons_succ, Nat.reduceSub, Nat.reduceAdd, Option.some.injEq, V.int.injEq, V.str.injEq, V.bl.injEq, V.ref.injEq, List.cons.injEq, and_true, true_and, exists_eq_left', exists_eq_left, exists_and_left, exists_eq_right, exists_const, tBM, tBM0, rAppend, rPop, rIxL, rIxT, rIxS, rSlL, rSlT, rSlS, rCat, rCatT, tKGet, cx_w, bk_w, tDGet, tDisp, tPairs, tDNewK]
    refine hN _ _ ?_
    refine seq_join (fun σ H' => H' = H ∧ σ = [some (V.ref a), some (V.str (toS (jOf wd))), none, none]) (fun N hN => ?_) (fun σ H' h => ?_)
    · simp only [tSeq, tFor_eq, tLC_eq, iRng1, iRng2, iList, iTup, iStr, tIfS, tRet, tRetN, tNext, tAsg, gName, tVar, tC, tOp, rI0, rI, tTest, tB, rEq, rNe, tCall, tCons, tNil, tCB, tLst, tTup, tAnd, tOr, tNot, tAndV, tOrV, tNotV, tIf, tDrop, tSl, tPart, tNoPart, tChain, tUn, rU, L2.start, cx_K, bk_K, cx_calm, bk_calm, lenV_str, and_assoc, Option.join, List.length_map, List.length_append, decide_eq_true_eq, Bool.false_eq_true, if_false, if_true, Bool.not_true, Bool.not_false, Bool.not_eq_true', decide_eq_false_iff_not, Bool.true_eq_false, List.length_cons, List.length_nil, List.map_cons, List.map_nil, List.replicate, List.cons_append, List.nil_append, List.append_nil, List.getElem?_cons_zero, List.getElem?_cons_succ, List.set_cons_zero, List.set_cons_succ, Nat.reduceSub, Nat.reduceAdd, Option.some.injEq, V.int.injEq, V.str.injEq, V.bl.injEq, V.ref.injEq, List.cons.injEq, and_true, true_and, exists_eq_left', exists_eq_left, exists_and_left, exists_eq_right, exists_const, tBM, tBM0, rAppend, rPop, rIxL, rIxT, rIxS, rSlL, rSlT, rSlS, rCat, rCatT, tKGet, cx_w, bk_w, tDGet, tDisp, tPairs, tDNewK]
      refine ⟨_, SqT.of ha, .str wd, at0, rfl, ?_⟩
      rcases hbe with rfl | rfl
      · rw [if_neg (by decide +kernel)]
        exact hN _ _ ⟨rfl, by rw [j_both, s_and]⟩
      · rw [if_pos rfl]
        exact hN _ _ ⟨rfl, by rw [j_either, s_or]⟩
    obtain ⟨rfl, rfl⟩ := h
    match ts, h0 with
    | t :: ts, _ =>
      obtain ⟨u, us, rfl, ht1, hus⟩ := hu
      obtain ⟨m, rfl, f1, f2⟩ := part 0 t rfl
      have hjl := j_len wd
      refine seq_abs fun N hN => ?_
      simp only [tSeq, tFor_eq, tLC_eq, iRng1, iRng2, iList, iTup, iStr, tIfS, tRet, tRetN, tNext, tAsg, gName, tVar, tC, tOp, rI0, rI, tTest, tB, rEq, rNe, tCall, tCons, tNil, tCB, tLst, tTup, tAnd, tOr, tNot, tAndV, tOrV, tNotV, tIf, tDrop, tSl, tPart, tNoPart, tChain, tUn, rU, L2.start, cx_K, bk_K, cx_calm, bk_calm, lenV_str, and_assoc, Option.join, List.length_map, List.length_append, decide_eq_true_eq, Bool.false_eq_true, if_false, if_true, Bool.not_true, Bool.not_false, Bool.not_eq_true', decide_eq_false_iff_not, Bool.true_eq_false, List.length_cons, List.length_nil, List.map_cons, List.map_nil, List.replicate, List.cons_append, List.nil_append, List.append_nil, List.getElem?_cons_zero, List.getElem?_cons_succ, List.set_cons_zero, List.set_cons_succ, Nat.reduceSub, Nat.reduceAdd, Option.some.injEq, V.int.injEq, V.str.injEq, V.bl.injEq, V.ref.injEq, List.cons.injEq, and_true, true_and, exists_eq_left', exists_eq_left, exists_and_left, exists_eq_right, exists_const, tBM, tBM0, rAppend, rPop, rIxL, rIxT, rIxS, rSlL, rSlT, rSlS, rCat, rCatT, tKGet, cx_w, bk_w, tDGet, tDisp, tPairs, tDNewK, spWr]
      have hq1 : ("(" : Str).length = 1 := by decide +kernel
      have hl1 := wrS_len f1
      have e40 : ("(" : Str) ++ wrS t = toS (40 :: wr t) := by unfold wrS; rw [s_open, toS_app]; rfl
      refine ⟨_, SqT.of ha, u, at1, t, ht1, f1, f2, fun H1 e1 => ⟨big (by omega), hN _ _ ?_⟩⟩
      rw [e40]
      have ha1 := e1 _ _ ha
      have lens : ∀ x ∈ ts, (wr x).length + 3 ≤ 13 * wt x := fun x hx => by
        obtain ⟨i, hi, rfl⟩ := List.getElem_of_mem hx
        obtain ⟨m', hm', g1, g2⟩ := part (i + 1) ts[i] (by simp [hi])
        exact wr_len m' _ g1
      refine seq_join (fun σ H2 => Same H' H2 ∧ ∃ o, σ = [some (V.ref a), some (V.str (toS (jOf wd))), some (V.str (toS (40 :: (wr t ++ tailOf (jOf wd) (ts.map wr))))), o]) (fun N hN => ?_) (fun σ H2 h => ?_)
      · simp only [tSeq, tFor_eq, tLC_eq, iRng1, iRng2, iList, iTup, iStr, tIfS, tRet, tRetN, tNext, tAsg, gName, tVar, tC, tOp, rI0, rI, tTest, tB, rEq, rNe, tCall, tCons, tNil, tCB, tLst, tTup, tAnd, tOr, tNot, tAndV, tOrV, tNotV, tIf, tDrop, tSl, tPart, tNoPart, tChain, tUn, rU, L2.start, cx_K, bk_K, cx_calm, bk_calm, lenV_str, and_assoc, Option.join, List.length_map, List.length_append, decide_eq_true_eq, Bool.false_eq_true, if_false, if_true, Bool.not_true, Bool.not_false, Bool.not_eq_true', decide_eq_false_iff_not, Bool.true_eq_false, List.length_cons, List.length_nil, List.map_cons, List.map_nil, List.replicate, List.cons_append, List.nil_append, List.append_nil, List.getElem?_cons_zero, List.getElem?_cons_succ, List.set_cons_zero, List.set_cons_succ, Nat.reduceSub, Nat.reduceAdd, Option.some.injEq, V.int.injEq, V.str.injEq, V.bl.injEq, V.ref.injEq, List.cons.injEq, and_true, true_and, exists_eq_left', exists_eq_left, exists_and_left, exists_eq_right, exists_const, tBM, tBM0, rAppend, rPop, rIxL, rIxT, rIxS, rSlL, rSlT, rSlS, rCat, rCatT, tKGet, cx_w, bk_w, tDGet, tDisp, tPairs, tDNewK]
        refine ⟨_, SqT.of ha1, ?_, fun p2 hp2 => ?_⟩
        · have e : HT.sIx (V.str wd :: u :: us).length 0 (some ((2 : Nat) : Int)) = 2 := by rw [HT.sIx_nat, List.length_cons, List.length_cons]; omega
          have e : HT.sIx (V.str wd :: u :: us).length 0 (some 2) = 2 := e
          rw [e]
          omega
        have ec : cutV (V.str wd :: u :: us) (some 2) none = us := by
          unfold cutV
          have e : HT.sIx (V.str wd :: u :: us).length 0 (some ((2 : Nat) : Int)) = 2 := by rw [HT.sIx_nat, List.length_cons, List.length_cons]; omega
          have e : HT.sIx (V.str wd :: u :: us).length 0 (some 2) = 2 := e
          rw [e, HT.sIx_none]
          show (us.take _) = us
          rw [List.take_of_length_le (by rw [List.length_cons, List.length_cons]; omega)]
        rw [ec]
        have e2 := same_new hp2 (.tup us)
        have h2 : upd H1 p2 (.tup us) p2 = some (.tup us) := upd_same
        generalize upd H1 p2 (.tup us) = H2 at e2 h2 ⊢
        refine ⟨⟨_, SqT.of h2⟩, ?_⟩
        have hu2 : TAts H' ts us := hus
        have hul := hu2.length
        rw [wts] at hw
        have hll2 := wts_len ts
        refine fw_tup (xs := us) (fun i σ H3 => Same H2 H3 ∧ ∃ o, σ = [some (V.ref a), some (V.str (toS (jOf wd))), some (V.str (toS (40 :: (wr t ++ tailOf (jOf wd) ((ts.take i).map wr))))), o]) ?_ (fun i σ H3 _ h => SqT.of (h.1 _ _ h2)) (fun i x σ H3 hx h => ?_) (fun σ H3 h => ?_)
        · refine ⟨Same.refl _, none, ?_⟩
          simp [tailOf]
        · obtain ⟨es, o, rfl⟩ := h
          obtain ⟨x', hx1, hx2⟩ := hu2.getV hx
          obtain ⟨m', hm', g1, g2⟩ := part (i + 1) x' (by simpa using hx1)
          cases hm'
          have gl := wrS_len g1
          have tb := tail_bound (j := jOf wd) (by omega) (ts.take i) (fun y hy => lens y (List.mem_of_mem_take hy))
          have wtk : wts (ts.take i) ≤ wts ts := by
            have := wts_append (ts.take i) (ts.drop i)
            rw [List.take_append_drop] at this
            omega
          have il := (List.getElem?_eq_some_iff.mp hx1).1
          simp only [tSeq, tFor_eq, tLC_eq, iRng1, iRng2, iList, iTup, iStr, tIfS, tRet, tRetN, tNext, tAsg, gName, tVar, tC, tOp, rI0, rI, tTest, tB, rEq, rNe, tCall, tCons, tNil, tCB, tLst, tTup, tAnd, tOr, tNot, tAndV, tOrV, tNotV, tIf, tDrop, tSl, tPart, tNoPart, tChain, tUn, rU, L2.start, cx_K, bk_K, cx_calm, bk_calm, lenV_str, and_assoc, Option.join, List.length_map, List.length_append, decide_eq_true_eq, Bool.false_eq_true, if_false, if_true, Bool.not_true, Bool.not_false, Bool.not_eq_true', decide_eq_false_iff_not, Bool.true_eq_false, List.length_cons, List.length_nil, List.map_cons, List.map_nil, List.replicate, List.cons_append, List.nil_append, List.append_nil, List.getElem?_cons_zero, List.getElem?_cons_succ, List.set_cons_zero, List.set_cons_succ, Nat.reduceSub, Nat.reduceAdd, Option.some.injEq, V.int.injEq, V.str.injEq, V.bl.injEq, V.ref.injEq, List.cons.injEq, and_true, true_and, exists_eq_left', exists_eq_left, exists_and_left, exists_eq_right, exists_const, tBM, tBM0, rAppend, rPop, rIxL, rIxT, rIxS, rSlL, rSlT, rSlS, rCat, rCatT, tKGet, cx_w, bk_w, tDGet, tDisp, tPairs, tDNewK, spWr]
          refine ⟨?_, x', TAt.tups ((e1.trans e2).trans es).tups hx2, g1, g2, fun H4 e4 => ⟨?_, es.trans e4, ?_⟩⟩
          · rw [toS_len, toS_len, List.length_cons, List.length_append]
            unfold wrS at hl1
            rw [toS_len] at hl1
            exact big (by omega)
          · unfold wrS at hl1 gl ⊢
            rw [toS_app, toS_len, toS_len, List.length_append, List.length_cons, List.length_append]
            rw [toS_len] at hl1 gl
            exact big (by omega)
          · refine ⟨?_, _, rfl⟩
            unfold wrS
            rw [toS_app, toS_app]
            congr 1
            have il' : (ts.map wr).take (i + 1) = (ts.map wr).take i ++ [wr x'] := by
              rw [List.take_succ_eq_append_getElem (by rw [List.length_map]; exact il)]
              congr 2
              rw [List.getElem_map]
              congr 1
              exact (List.getElem?_eq_some_iff.mp hx1).2
            rw [List.map_take, List.map_take, il', tail_snoc]
            simp
        · obtain ⟨es, o, rfl⟩ := h
          rw [List.take_of_length_le (by omega)]
          exact hN _ _ ⟨(e1.trans e2).trans es, _, rfl⟩
      · obtain ⟨es, o, rfl⟩ := h
        simp only [tSeq, tFor_eq, tLC_eq, iRng1, iRng2, iList, iTup, iStr, tIfS, tRet, tRetN, tNext, tAsg, gName, tVar, tC, tOp, rI0, rI, tTest, tB, rEq, rNe, tCall, tCons, tNil, tCB, tLst, tTup, tAnd, tOr, tNot, tAndV, tOrV, tNotV, tIf, tDrop, tSl, tPart, tNoPart, tChain, tUn, rU, L2.start, cx_K, bk_K, cx_calm, bk_calm, lenV_str, and_assoc, Option.join, List.length_map, List.length_append, decide_eq_true_eq, Bool.false_eq_true, if_false, if_true, Bool.not_true, Bool.not_false, Bool.not_eq_true', decide_eq_false_iff_not, Bool.true_eq_false, List.length_cons, List.length_nil, List.map_cons, List.map_nil, List.replicate, List.cons_append, List.nil_append, List.append_nil, List.getElem?_cons_zero, List.getElem?_cons_succ, List.set_cons_zero, List.set_cons_succ, Nat.reduceSub, Nat.reduceAdd, Option.some.injEq, V.int.injEq, V.str.injEq, V.bl.injEq, V.ref.injEq, List.cons.injEq, and_true, true_and, exists_eq_left', exists_eq_left, exists_and_left, exists_eq_right, exists_const, tBM, tBM0, rAppend, rPop, rIxL, rIxT, rIxS, rSlL, rSlT, rSlS, rCat, rCatT, tKGet, cx_w, bk_w, tDGet, tDisp, tPairs, tDNewK]
        have e41 : toS (40 :: (wr t ++ tailOf (jOf wd) (ts.map wr))) ++ (")" : Str) = wrS (.node wd (t :: ts)) := by
          unfold wrS
          rw [wr_many hbe (by simp), List.map_cons, glue_tail, s_close, toS_app]
          rfl
        rw [e41]
        refine ⟨?_, q _ es⟩
        have tb := tail_bound (j := jOf wd) (by omega) ts lens
        have hq2 : (")" : Str).length = 1 := by decide +kernel
        unfold wrS at hl1
        rw [toS_len] at hl1
        rw [wts] at hw
        rw [toS_len, List.length_cons, List.length_append, hq2]
        exact big (by omega)
theorem ok_written_saying (bi : Bi mg) (h_law_written : Has P w K mg base 21 "_law_written" ["t"] (spWr 21)) (F : Fun K "_law_written_saying" "_law_written_saying" s_law_written_saying f fd) : FnOk P w K mg base CX0 22 f fd ["saying"] spWrS := by
  refine F.ok sc_law_written_saying (fun vs H Q E h => ?_) (fun cdv A outer s H vs Q E hr h => ?_)
  · obtain ⟨v, t, rfl, _⟩ := h
    rfl
  obtain ⟨v, p, rfl, hp, hf, q⟩ := h
  obtain ⟨a, v1, v2, rfl, ha, h1, h2⟩ := hp.out
  have l1 := wrS_len hf.1.1
  have l2 := wrS_len hf.2.1
  have w1 := hf.1.2
  have w2 := hf.2.2
  have l3 : (" < " : Str).length = 3 := by decide +kernel
  refine ⟨_, (pss_one (ps_ret (pe_op op_add_str (pe_op op_add_str (pe_callH h_law_written (hr.mono (by omega)) rfl (pa_cons (pe_ix ix_tup (pv 0) pe_int (fun _ _ => rfl)) pa_nil)) pe_str) (pe_callH h_law_written (hr.mono (by omega)) rfl (pa_cons (pe_ix ix_tup (pv 0) pe_int (fun _ _ => rfl)) pa_nil))))), ?_⟩
  simp only [tSeq, tFor_eq, tLC_eq, iRng1, iRng2, iList, iTup, iStr, tIfS, tRet, tRetN, tNext, tAsg, gName, tVar, tC, tOp, rI0, rI, tTest, tB, rEq, rNe, tCall, tCons, tNil, tCB, tLst, tTup, tAnd, tOr, tNot, tAndV, tOrV, tNotV, tIf, tDrop, tSl, tPart, tNoPart, tChain, tUn, rU, L2.start, cx_K, bk_K, cx_calm, bk_calm, lenV_str, and_assoc, Option.join, List.length_map, List.length_append, decide_eq_true_eq, Bool.false_eq_true, if_false, if_true, Bool.not_true, Bool.not_false, Bool.not_eq_true', decide_eq_false_iff_not, Bool.true_eq_false, List.length_cons, List.length_nil, List.map_cons, List.map_nil, List.replicate, List.cons_append, List.nil_append, List.append_nil, List.getElem?_cons_zero, List.getElem?_cons_succ, List.set_cons_zero, List.set_cons_succ, Nat.reduceSub, Nat.reduceAdd, Option.some.injEq, V.int.injEq, V.str.injEq, V.bl.injEq, V.ref.injEq, List.cons.injEq, and_true, true_and, exists_eq_left', exists_eq_left, exists_and_left, exists_eq_right, exists_const, tBM, tBM0, rAppend, rPop, rIxL, rIxT, rIxS, rSlL, rSlT, rSlS, rCat, rCatT, tKGet, cx_w, bk_w, tDGet, tDisp, tPairs, tDNewK, spWr]
  refine ⟨_, SqT.of ha, v1, at0, _, h1, hf.1.1, hf.1.2, fun H1 e1 => ⟨big (by omega), _, SqT.of (e1 _ _ ha), v2, at1, _, TAt.tups e1.tups h2, hf.2.1, hf.2.2, fun H2 e2 => ⟨big (by rw [len_app]; omega), ?_⟩⟩⟩
  rw [← sayS_eq]
  exact q _ (e1.trans e2)
theorem ok_written_rule (bi : Bi mg) (h_law_written_saying : Has P w K mg base 22 "_law_written_saying" ["saying"] spWrS) (F : Fun K "_law_written_rule" "_law_written_rule" s_law_written_rule f fd) : FnOk P w K mg base CX0 23 f fd ["rule"] spWrR := by
  refine F.ok sc_law_written_rule (fun vs H Q E h => ?_) (fun cdv A outer s H vs Q E hr h => ?_)
  · obtain ⟨v, t, rfl, _⟩ := h
    rfl
  obtain ⟨v, r, rfl, hr', hlen, hf1, hf2, q⟩ := h
  obtain ⟨a, l, sv, us, rfl, ha, hl, hu, hs⟩ := hr'.out
  have hul := SAts.length hu
  have sl : ∀ p, FitS 20 900 p → 3 ≤ (sayS p).length ∧ (sayS p).length ≤ 24000 := fun p hp => by
    have := sayS_len hp.1.1 hp.2.1
    have := hp.1.2
    have := hp.2.2
    omega
  refine ⟨_, (pss_cons (ps_set (i := 1) sc_law_written_rule.nd rfl (Or.inl rfl) pe_str) (pss_cons (ps_for PassesOwn.never rfl (pi_list (pe_ix ix_tup (pv 0) pe_int (fun _ _ => rfl))) (pg_name (i := 2) sc_law_written_rule.nd rfl (Or.inl rfl)) (pss_cons (ps_if (pt_cmpR op_ne (pv 1) pe_str (nomark _)) (pss_one (ps_set (i := 1) sc_law_written_rule.nd rfl (Or.inl rfl) (pe_op op_add_str (pv 1) pe_str))) pss_nil) (pss_one (ps_set (i := 1) sc_law_written_rule.nd rfl (Or.inl rfl) (pe_op op_add_str (pv 1) (pe_callH h_law_written_saying (hr.mono (by omega)) rfl (pa_cons (pv 2) pa_nil))))))) (pss_cons (ps_if (pt_cmpR op_gt (pe_callB call_len rfl bi.len bt_len (pa_cons (pe_ix ix_tup (pv 0) pe_int (fun _ _ => rfl)) pa_nil)) pe_int (nomark _)) (pss_one (ps_set (i := 1) sc_law_written_rule.nd rfl (Or.inl rfl) (pe_op op_add_str (pv 1) pe_str))) pss_nil) (pss_one (ps_ret (pe_op op_add_str (pv 1) (pe_callH h_law_written_saying (hr.mono (by omega)) rfl (pa_cons (pe_ix ix_tup (pv 0) pe_int (fun _ _ => rfl)) pa_nil)))))))), ?_⟩
  refine seq_abs fun N hN => ?_
  simp only [tSeq, tFor_eq, tLC_eq, iRng1, iRng2, iList, iTup, iStr, tIfS, tRet, tRetN, tNext, tAsg, gName, tVar, tC, tOp, rI0, rI, tTest, tB, rEq, rNe, tCall, tCons, tNil, tCB, tLst, tTup, tAnd, tOr, tNot, tAndV, tOrV, tNotV, tIf, tDrop, tSl, tPart, tNoPart, tChain, tUn, rU, L2.start, cx_K, bk_K, cx_calm, bk_calm, lenV_str, and_assoc, Option.join, List.length_map, List.length_append, decide_eq_true_eq, Bool.false_eq_true, if_false, if_true, Bool.not_true, Bool.not_false, Bool.not_eq_true', decide_eq_false_iff_not, Bool.true_eq_false, List.length_cons, List.length_nil, List.map_cons, List.map_nil, List.replicate, List.cons_append, List.nil_append, List.append_nil, List.getElem?_cons_zero, List.getElem?_cons_succ, List.set_cons_zero, List.set_cons_succ, Nat.reduceSub, Nat.reduceAdd, Option.some.injEq, V.int.injEq, V.str.injEq, V.bl.injEq, V.ref.injEq, List.cons.injEq, and_true, true_and, exists_eq_left', exists_eq_left, exists_and_left, exists_eq_right, exists_const, tBM, tBM0, rAppend, rPop, rIxL, rIxT, rIxS, rSlL, rSlT, rSlS, rCat, rCatT, tKGet, cx_w, bk_w, tDGet, tDisp, tPairs, tDNewK]
  refine hN _ _ ?_
  refine seq_join (fun σ H' => Same H H' ∧ ∃ o, σ = [some (V.ref a), some (V.str (prS r.1)), o]) (fun N hN => ?_) (fun σ H' h => ?_)
  · simp only [tSeq, tFor_eq, tLC_eq, iRng1, iRng2, iList, iTup, iStr, tIfS, tRet, tRetN, tNext, tAsg, gName, tVar, tC, tOp, rI0, rI, tTest, tB, rEq, rNe, tCall, tCons, tNil, tCB, tLst, tTup, tAnd, tOr, tNot, tAndV, tOrV, tNotV, tIf, tDrop, tSl, tPart, tNoPart, tChain, tUn, rU, L2.start, cx_K, bk_K, cx_calm, bk_calm, lenV_str, and_assoc, Option.join, List.length_map, List.length_append, decide_eq_true_eq, Bool.false_eq_true, if_false, if_true, Bool.not_true, Bool.not_false, Bool.not_eq_true', decide_eq_false_iff_not, Bool.true_eq_false, List.length_cons, List.length_nil, List.map_cons, List.map_nil, List.replicate, List.cons_append, List.nil_append, List.append_nil, List.getElem?_cons_zero, List.getElem?_cons_succ, List.set_cons_zero, List.set_cons_succ, Nat.reduceSub, Nat.reduceAdd, Option.some.injEq, V.int.injEq, V.str.injEq, V.bl.injEq, V.ref.injEq, List.cons.injEq, and_true, true_and, exists_eq_left', exists_eq_left, exists_and_left, exists_eq_right, exists_const, tBM, tBM0, rAppend, rPop, rIxL, rIxT, rIxS, rSlL, rSlT, rSlS, rCat, rCatT, tKGet, cx_w, bk_w, tDGet, tDisp, tPairs, tDNewK]
    refine ⟨_, SqT.of ha, .ref l, at0, l, rfl, ⟨_, SqL.of hl⟩, ?_⟩
    refine fw_list (xs := us) (fun i σ H' => Same H H' ∧ ∃ o, σ = [some (V.ref a), some (V.str (prS (r.1.take i))), o]) ⟨Same.refl _, _, rfl⟩ (fun i σ H' _ h => SqL.of (h.1 _ _ hl)) (fun i x σ H' hx h => ?_) (fun σ H' h => ?_)
    · obtain ⟨es, o, rfl⟩ := h
      obtain ⟨p, hp1, hp2⟩ := SAts.getV hu hx
      have hpf := hf1 p (List.mem_of_getElem? hp1)
      obtain ⟨il, ie⟩ := List.getElem?_eq_some_iff.mp hp1
      have pl := prS_len (m := 24000) (r.1.take i) fun y hy => (sl y (hf1 y (List.mem_of_mem_take hy))).2
      have tl : (r.1.take i).length ≤ 10 := by rw [List.length_take]; omega
      have tb : (r.1.take i).length * (24000 + 2) ≤ 10 * 24002 := Nat.mul_le_mul_right _ tl
      have sp := sl p hpf
      have l2 : (", " : Str).length = 2 := by decide +kernel
      have tk : r.1.take (i + 1) = r.1.take i ++ [p] := by rw [List.take_succ_eq_append_getElem il, ie]
      simp only [gName]
      refine seq_join (fun σ H2 => H2 = H' ∧ σ = [some (V.ref a), some (V.str (if i = 0 then "" else prS (r.1.take i) ++ ", ")), some x]) (fun N hN => ?_) (fun σ H2 h => ?_)
      · simp only [tSeq, tFor_eq, tLC_eq, iRng1, iRng2, iList, iTup, iStr, tIfS, tRet, tRetN, tNext, tAsg, gName, tVar, tC, tOp, rI0, rI, tTest, tB, rEq, rNe, tCall, tCons, tNil, tCB, tLst, tTup, tAnd, tOr, tNot, tAndV, tOrV, tNotV, tIf, tDrop, tSl, tPart, tNoPart, tChain, tUn, rU, L2.start, cx_K, bk_K, cx_calm, bk_calm, lenV_str, and_assoc, Option.join, List.length_map, List.length_append, decide_eq_true_eq, Bool.false_eq_true, if_false, if_true, Bool.not_true, Bool.not_false, Bool.not_eq_true', decide_eq_false_iff_not, Bool.true_eq_false, List.length_cons, List.length_nil, List.map_cons, List.map_nil, List.replicate, List.cons_append, List.nil_append, List.append_nil, List.getElem?_cons_zero, List.getElem?_cons_succ, List.set_cons_zero, List.set_cons_succ, Nat.reduceSub, Nat.reduceAdd, Option.some.injEq, V.int.injEq, V.str.injEq, V.bl.injEq, V.ref.injEq, List.cons.injEq, and_true, true_and, exists_eq_left', exists_eq_left, exists_and_left, exists_eq_right, exists_const, tBM, tBM0, rAppend, rPop, rIxL, rIxT, rIxS, rSlL, rSlT, rSlS, rCat, rCatT, tKGet, cx_w, bk_w, tDGet, tDisp, tPairs, tDNewK]
        refine ⟨rfl, ?_⟩
        by_cases h0 : i = 0
        · subst h0
          rw [if_neg (by simp [prS, glue, s_empty])]
          exact hN _ _ ⟨rfl, by rw [if_pos rfl]; rfl⟩
        · have hne : prS (r.1.take i) ≠ "" := fun e => by
            have e2 := congrArg Str.length e
            unfold prS at e2
            rw [toS_len, s_empty, toS_len] at e2
            match hh : r.1.take i with
            | [] =>
              have := congrArg List.length hh
              rw [List.length_take, List.length_nil] at this
              omega
            | y :: z =>
              rw [hh, List.map_cons, glue_tail, List.length_append] at e2
              have hy : y ∈ r.1 := List.mem_of_mem_take (by rw [hh]; simp)
              have := (sl y (hf1 y hy)).1
              unfold sayS at this
              rw [toS_len] at this
              rw [List.length_nil] at e2
              omega
          rw [if_pos (by simpa using hne)]
          refine ⟨big (by omega), hN _ _ ⟨rfl, by rw [if_neg h0]⟩⟩
      · obtain ⟨rfl, rfl⟩ := h
        simp only [tSeq, tFor_eq, tLC_eq, iRng1, iRng2, iList, iTup, iStr, tIfS, tRet, tRetN, tNext, tAsg, gName, tVar, tC, tOp, rI0, rI, tTest, tB, rEq, rNe, tCall, tCons, tNil, tCB, tLst, tTup, tAnd, tOr, tNot, tAndV, tOrV, tNotV, tIf, tDrop, tSl, tPart, tNoPart, tChain, tUn, rU, L2.start, cx_K, bk_K, cx_calm, bk_calm, lenV_str, and_assoc, Option.join, List.length_map, List.length_append, decide_eq_true_eq, Bool.false_eq_true, if_false, if_true, Bool.not_true, Bool.not_false, Bool.not_eq_true', decide_eq_false_iff_not, Bool.true_eq_false, List.length_cons, List.length_nil, List.map_cons, List.map_nil, List.replicate, List.cons_append, List.nil_append, List.append_nil, List.getElem?_cons_zero, List.getElem?_cons_succ, List.set_cons_zero, List.set_cons_succ, Nat.reduceSub, Nat.reduceAdd, Option.some.injEq, V.int.injEq, V.str.injEq, V.bl.injEq, V.ref.injEq, List.cons.injEq, and_true, true_and, exists_eq_left', exists_eq_left, exists_and_left, exists_eq_right, exists_const, tBM, tBM0, rAppend, rPop, rIxL, rIxT, rIxS, rSlL, rSlT, rSlS, rCat, rCatT, tKGet, cx_w, bk_w, tDGet, tDisp, tPairs, tDNewK, spWrS]
        refine ⟨p, DAt.same es hp2, hpf, fun H3 e3 => ⟨?_, es.trans e3, ?_⟩⟩
        · split
          · have : ("" : Str).length = 0 := by decide +kernel
            exact big (by omega)
          · rw [len_app]
            exact big (by omega)
        · refine ⟨?_, _, rfl⟩
          rw [tk]
          by_cases h0 : i = 0
          · subst h0
            rw [if_pos rfl, s_empty]
            unfold sayS
            rw [toS_app]
            rfl
          · rw [if_neg h0]
            unfold prS sayS
            rw [s_comma, toS_app, toS_app, List.map_append]
            congr 1
            rw [show [p].map wrSay = [wrSay p] from rfl, glue_snoc]
            · simp
            · intro z
              have := congrArg List.length z
              rw [List.length_map, List.length_take, List.length_nil] at this
              omega
    · obtain ⟨es, o, rfl⟩ := h
      rw [List.take_of_length_le (by omega)]
      exact hN _ _ ⟨es, _, rfl⟩
  · obtain ⟨es, o, rfl⟩ := h
    have pl := prS_len (m := 24000) r.1 fun y hy => (sl y (hf1 y hy)).2
    have tb : r.1.length * (24000 + 2) ≤ 10 * 24002 := Nat.mul_le_mul_right _ hlen
    have s2 := sl _ hf2
    have l4 : (" => " : Str).length = 4 := by decide +kernel
    refine seq_join (fun σ H2 => H2 = H' ∧ ∃ o, σ = [some (V.ref a), some (V.str (if r.1 = [] then "" else prS r.1 ++ " => ")), o]) (fun N hN => ?_) (fun σ H2 h => ?_)
    · simp only [tSeq, tFor_eq, tLC_eq, iRng1, iRng2, iList, iTup, iStr, tIfS, tRet, tRetN, tNext, tAsg, gName, tVar, tC, tOp, rI0, rI, tTest, tB, rEq, rNe, tCall, tCons, tNil, tCB, tLst, tTup, tAnd, tOr, tNot, tAndV, tOrV, tNotV, tIf, tDrop, tSl, tPart, tNoPart, tChain, tUn, rU, L2.start, cx_K, bk_K, cx_calm, bk_calm, lenV_str, and_assoc, Option.join, List.length_map, List.length_append, decide_eq_true_eq, Bool.false_eq_true, if_false, if_true, Bool.not_true, Bool.not_false, Bool.not_eq_true', decide_eq_false_iff_not, Bool.true_eq_false, List.length_cons, List.length_nil, List.map_cons, List.map_nil, List.replicate, List.cons_append, List.nil_append, List.append_nil, List.getElem?_cons_zero, List.getElem?_cons_succ, List.set_cons_zero, List.set_cons_succ, Nat.reduceSub, Nat.reduceAdd, Option.some.injEq, V.int.injEq, V.str.injEq, V.bl.injEq, V.ref.injEq, List.cons.injEq, and_true, true_and, exists_eq_left', exists_eq_left, exists_and_left, exists_eq_right, exists_const, tBM, tBM0, rAppend, rPop, rIxL, rIxT, rIxS, rSlL, rSlT, rSlS, rCat, rCatT, tKGet, cx_w, bk_w, tDGet, tDisp, tPairs, tDNewK]
      refine ⟨_, SqT.of (es _ _ ha), .ref l, at0, _, .inl ⟨_, SqL.of (es _ _ hl), rfl⟩, ?_⟩
      by_cases h0 : r.1 = []
      · rw [if_neg (by rw [hul, h0]; decide)]
        refine hN _ _ ⟨rfl, o, ?_⟩
        rw [if_pos h0, h0]
        rfl
      · rw [if_pos (by have := List.length_pos_iff.mpr h0; omega)]
        exact ⟨big (by omega), hN _ _ ⟨rfl, _, by rw [if_neg h0]⟩⟩
    · obtain ⟨rfl, o2, rfl⟩ := h
      simp only [tSeq, tFor_eq, tLC_eq, iRng1, iRng2, iList, iTup, iStr, tIfS, tRet, tRetN, tNext, tAsg, gName, tVar, tC, tOp, rI0, rI, tTest, tB, rEq, rNe, tCall, tCons, tNil, tCB, tLst, tTup, tAnd, tOr, tNot, tAndV, tOrV, tNotV, tIf, tDrop, tSl, tPart, tNoPart, tChain, tUn, rU, L2.start, cx_K, bk_K, cx_calm, bk_calm, lenV_str, and_assoc, Option.join, List.length_map, List.length_append, decide_eq_true_eq, Bool.false_eq_true, if_false, if_true, Bool.not_true, Bool.not_false, Bool.not_eq_true', decide_eq_false_iff_not, Bool.true_eq_false, List.length_cons, List.length_nil, List.map_cons, List.map_nil, List.replicate, List.cons_append, List.nil_append, List.append_nil, List.getElem?_cons_zero, List.getElem?_cons_succ, List.set_cons_zero, List.set_cons_succ, Nat.reduceSub, Nat.reduceAdd, Option.some.injEq, V.int.injEq, V.str.injEq, V.bl.injEq, V.ref.injEq, List.cons.injEq, and_true, true_and, exists_eq_left', exists_eq_left, exists_and_left, exists_eq_right, exists_const, tBM, tBM0, rAppend, rPop, rIxL, rIxT, rIxS, rSlL, rSlT, rSlS, rCat, rCatT, tKGet, cx_w, bk_w, tDGet, tDisp, tPairs, tDNewK, spWrS]
      refine ⟨_, SqT.of (es _ _ ha), sv, at1, _, DAt.same es hs, hf2, fun H3 e3 => ?_⟩
      by_cases h0 : r.1 = []
      · rw [if_pos h0]
        have : ("" : Str).length = 0 := by decide +kernel
        refine ⟨big (by omega), ?_⟩
        have er : ruleS r = "" ++ sayS r.2 := by
          obtain ⟨r1, r2⟩ := r
          simp only at h0
          subst h0
          rw [ruleS_nil, s_empty]
          unfold sayS
          rw [toS_app]
          rfl
        rw [← er]
        exact q _ (es.trans e3)
      · rw [if_neg h0]
        refine ⟨big (by rw [len_app]; omega), ?_⟩
        rw [← ruleS_cons _ h0]
        exact q _ (es.trans e3)
theorem ok_rule (bi : Bi mg) (h_law_cell_at : Has P w K mg base 1 "_law_cell_at" ["script", "k"] (spCell K)) (h_law_stack : Has P w K mg base 2 "_law_stack" ["cells", "pool"] (spStack K)) (h_law_whole_term : Has P w K mg base 1 "_law_whole_term" ["stack"] spWhole)
    (F : Fun K "_law_rule" "_law_rule" s_law_rule f fd) : FnOk P w K mg base CX0 3 f fd ["script", "pool", "at"] (spRule K) := by
  refine F.ok sc_law_rule (fun vs H Q E h => ?_) (fun cdv A outer s H vs Q E hr h => ?_)
  · obtain ⟨a, p, ns, k, rfl, _⟩ := h
    rfl
  obtain ⟨a, p, ns, k, rfl, hS, hP, q⟩ := h
  refine ⟨_, (pss_cons (ps_set (i := 3) sc_law_rule.nd rfl (Or.inl rfl) (pe_op op_mod (pe_callH h_law_cell_at (hr.mono (by omega)) rfl (pa_cons (pv 0) (pa_cons (pv 2) pa_nil))) pe_int)) (pss_cons (ps_set (i := 4) sc_law_rule.nd rfl (Or.inr rfl) (pe_lst pa_nil)) (pss_cons (ps_for PassesOwn.never rfl (pi_range1 rfl bi.range (pa_cons (pe_op op_add (pe_op op_mul pe_int (pv 3)) pe_int) pa_nil)) (pg_name (i := 5) sc_law_rule.nd rfl (Or.inl rfl)) (pss_cons (ps_set (i := 6) sc_law_rule.nd rfl (Or.inr rfl) (pe_op op_add (pe_op op_add (pv 2) pe_int) (pe_op op_mul pe_int (pv 5)))) (pss_one (ps_expr (pe_bm PySem.F.plainAttrs_list PySem.F.slot_list_append PySem.F.type_list_append mt_append (pv 4) (pa_cons (pe_callH h_law_whole_term (hr.mono (by omega)) rfl (pa_cons (pe_callH h_law_stack (hr.mono (by omega)) rfl (pa_cons (pe_comp ["j"] ["script", "low"] [0, 6] (pi_range1 rfl bi.range (pa_cons pe_int pa_nil)) (fun _ _ _ _ nd => pg_name (i := 0) nd rfl (Or.inl rfl)) (fun _ _ _ _ => pif_nil) (fun _ _ _ _ => (pe_callH h_law_cell_at (hr.mono (by omega)) rfl (pa_cons (pv 1) (pa_cons (pe_op op_add (pv 2) (pv 0)) pa_nil))))) (pa_cons (pv 1) pa_nil))) pa_nil)) pa_nil)))))) (pss_cons (ps_comp (i := 7) ["k"] ["some"] [4] sc_law_rule.nd rfl (pi_range1 rfl bi.range (pa_cons (pv 3) pa_nil)) (fun _ _ _ _ nd => pg_name (i := 0) nd rfl (Or.inl rfl)) (fun _ _ _ _ => pif_nil) (fun _ _ _ _ => (pe_tup (pa_cons (pe_ix (ix_listK K) (pv 1) (pe_op op_mul pe_int (pv 0)) (fun _ _ => rfl)) (pa_cons (pe_ix (ix_listK K) (pv 1) (pe_op op_add (pe_op op_mul pe_int (pv 0)) pe_int) (fun _ _ => rfl)) pa_nil))))) (pss_one (ps_ret (pe_tup (pa_cons (pv 7) (pa_cons (pe_tup (pa_cons (pe_ix ix_list (pv 4) (pe_op op_mul pe_int (pv 3)) (fun _ _ => rfl)) (pa_cons (pe_ix ix_list (pv 4) (pe_op op_add (pe_op op_mul pe_int (pv 3)) pe_int) (fun _ _ => rfl)) pa_nil))) pa_nil))))))))), ?_⟩
  refine seq_abs fun N hN => ?_
  simp only [tSeq, tFor_eq, tLC_eq, iRng1, iRng2, iList, iTup, iStr, tIfS, tRet, tRetN, tNext, tAsg, gName, tVar, tC, tOp, rI0, rI, tTest, tB, rEq, rNe, tCall, tCons, tNil, tCB, tLst, tTup, tAnd, tOr, tNot, tAndV, tOrV, tNotV, tIf, tDrop, tSl, tPart, tNoPart, tChain, tUn, rU, L2.start, cx_K, bk_K, cx_calm, bk_calm, lenV_str, and_assoc, Option.join, List.length_map, List.length_append, decide_eq_true_eq, Bool.false_eq_true, if_false, if_true, Bool.not_true, Bool.not_false, Bool.not_eq_true', decide_eq_false_iff_not, Bool.true_eq_false, List.length_cons, List.length_nil, List.map_cons, List.map_nil, List.replicate, List.cons_append, List.nil_append, List.append_nil, List.getElem?_cons_zero, List.getElem?_cons_succ, List.set_cons_zero, List.set_cons_succ, Nat.reduceSub, Nat.reduceAdd, Option.some.injEq, V.int.injEq, V.str.injEq, V.bl.injEq, V.ref.injEq, List.cons.injEq, and_true, true_and, exists_eq_left', exists_eq_left, exists_and_left, exists_eq_right, exists_const, tBM, tBM0, rAppend, rPop, rIxL, rIxT, rIxS, rSlL, rSlT, rSlS, rCat, rCatT, tKGet, cx_w, bk_w, tDGet, tDisp, tPairs, tDNewK, spCell]
  refine ⟨ns, k, rfl, hS, by decide, hN _ _ ?_⟩
  have h6 : 0 ≤ ns.getD k 0 % 6 ∧ ns.getD k 0 % 6 < 6 := by omega
  generalize ns.getD k 0 % 6 = size at h6
  refine seq_abs fun N hN => ?_
  simp only [tSeq, tFor_eq, tLC_eq, iRng1, iRng2, iList, iTup, iStr, tIfS, tRet, tRetN, tNext, tAsg, gName, tVar, tC, tOp, rI0, rI, tTest, tB, rEq, rNe, tCall, tCons, tNil, tCB, tLst, tTup, tAnd, tOr, tNot, tAndV, tOrV, tNotV, tIf, tDrop, tSl, tPart, tNoPart, tChain, tUn, rU, L2.start, cx_K, bk_K, cx_calm, bk_calm, lenV_str, and_assoc, Option.join, List.length_map, List.length_append, decide_eq_true_eq, Bool.false_eq_true, if_false, if_true, Bool.not_true, Bool.not_false, Bool.not_eq_true', decide_eq_false_iff_not, Bool.true_eq_false, List.length_cons, List.length_nil, List.map_cons, List.map_nil, List.replicate, List.cons_append, List.nil_append, List.append_nil, List.getElem?_cons_zero, List.getElem?_cons_succ, List.set_cons_zero, List.set_cons_succ, Nat.reduceSub, Nat.reduceAdd, Option.some.injEq, V.int.injEq, V.str.injEq, V.bl.injEq, V.ref.injEq, List.cons.injEq, and_true, true_and, exists_eq_left', exists_eq_left, exists_and_left, exists_eq_right, exists_const, tBM, tBM0, rAppend, rPop, rIxL, rIxT, rIxS, rSlL, rSlT, rSlS, rCat, rCatT, tKGet, cx_w, bk_w, tDGet, tDisp, tPairs, tDNewK]
  refine ⟨small (by decide), fun ps hps => hN _ _ ?_⟩
  refine seq_join (fun σ H' => Same H H' ∧ ∃ (ys : List V) (tl : List Tm) (o1 o2 : Option V), H' ps = some (.lst ys) ∧ TAts H' tl ys ∧ (ys.length : Int) = 2 * size + 2 ∧ (∀ t ∈ tl, Fit 18 t ∧ wt t ≤ 6) ∧ σ = [some (V.ref a), some (V.ref p), some (V.int k), some (V.int size), some (V.ref ps), o1, o2, none]) (fun N hN => ?_) (fun σ H' h => ?_)
  · simp only [tSeq, tFor_eq, tLC_eq, iRng1, iRng2, iList, iTup, iStr, tIfS, tRet, tRetN, tNext, tAsg, gName, tVar, tC, tOp, rI0, rI, tTest, tB, rEq, rNe, tCall, tCons, tNil, tCB, tLst, tTup, tAnd, tOr, tNot, tAndV, tOrV, tNotV, tIf, tDrop, tSl, tPart, tNoPart, tChain, tUn, rU, L2.start, cx_K, bk_K, cx_calm, bk_calm, lenV_str, and_assoc, Option.join, List.length_map, List.length_append, decide_eq_true_eq, Bool.false_eq_true, if_false, if_true, Bool.not_true, Bool.not_false, Bool.not_eq_true', decide_eq_false_iff_not, Bool.true_eq_false, List.length_cons, List.length_nil, List.map_cons, List.map_nil, List.replicate, List.cons_append, List.nil_append, List.append_nil, List.getElem?_cons_zero, List.getElem?_cons_succ, List.set_cons_zero, List.set_cons_succ, Nat.reduceSub, Nat.reduceAdd, Option.some.injEq, V.int.injEq, V.str.injEq, V.bl.injEq, V.ref.injEq, List.cons.injEq, and_true, true_and, exists_eq_left', exists_eq_left, exists_and_left, exists_eq_right, exists_const, tBM, tBM0, rAppend, rPop, rIxL, rIxT, rIxS, rSlL, rSlT, rSlS, rCat, rCatT, tKGet, cx_w, bk_w, tDGet, tDisp, tPairs, tDNewK]
    have es0 := same_new hps (.lst [])
    refine ⟨.inl ⟨by decide, by decide⟩, by omega, by omega, ?_⟩
    refine fw_range (lo := 0) (n := (2 * size + 2).toNat) (fun i σ H' => Same H H' ∧ ∃ (ys : List V) (tl : List Tm) (o1 o2 : Option V), H' ps = some (.lst ys) ∧ TAts H' tl ys ∧ ys.length = i ∧ (∀ t ∈ tl, Fit 18 t ∧ wt t ≤ 6) ∧ σ = [some (V.ref a), some (V.ref p), some (V.int k), some (V.int size), some (V.ref ps), o1, o2, none]) ?_ (fun i σ H' hi h => ?_) (fun σ H' h => ?_)
    · exact ⟨es0, [], [], _, _, upd_same, rfl, rfl, (fun _ z => nomatch z), rfl⟩
    · obtain ⟨es, ys, tl, o1, o2, hy, htl, hyl, hf, rfl⟩ := h
      have hll := htl.length
      simp only [gName]
      refine seq_abs fun N hN => ?_
      simp only [tSeq, tFor_eq, tLC_eq, iRng1, iRng2, iList, iTup, iStr, tIfS, tRet, tRetN, tNext, tAsg, gName, tVar, tC, tOp, rI0, rI, tTest, tB, rEq, rNe, tCall, tCons, tNil, tCB, tLst, tTup, tAnd, tOr, tNot, tAndV, tOrV, tNotV, tIf, tDrop, tSl, tPart, tNoPart, tChain, tUn, rU, L2.start, cx_K, bk_K, cx_calm, bk_calm, lenV_str, and_assoc, Option.join, List.length_map, List.length_append, decide_eq_true_eq, Bool.false_eq_true, if_false, if_true, Bool.not_true, Bool.not_false, Bool.not_eq_true', decide_eq_false_iff_not, Bool.true_eq_false, List.length_cons, List.length_nil, List.map_cons, List.map_nil, List.replicate, List.cons_append, List.nil_append, List.append_nil, List.getElem?_cons_zero, List.getElem?_cons_succ, List.set_cons_zero, List.set_cons_succ, Nat.reduceSub, Nat.reduceAdd, Option.some.injEq, V.int.injEq, V.str.injEq, V.bl.injEq, V.ref.injEq, List.cons.injEq, and_true, true_and, exists_eq_left', exists_eq_left, exists_and_left, exists_eq_right, exists_const, tBM, tBM0, rAppend, rPop, rIxL, rIxT, rIxS, rSlL, rSlT, rSlS, rCat, rCatT, tKGet, cx_w, bk_w, tDGet, tDisp, tPairs, tDNewK]
      refine ⟨.inl ⟨by decide, by decide⟩, hN _ _ ?_⟩
      rw [show (k : Int) + 1 + 4 * (0 + (i : Int)) = ((k + 1 + 4 * i : Nat) : Int) by omega]
      generalize k + 1 + 4 * i = lo
      simp only [tSeq, tFor_eq, tLC_eq, iRng1, iRng2, iList, iTup, iStr, tIfS, tRet, tRetN, tNext, tAsg, gName, tVar, tC, tOp, rI0, rI, tTest, tB, rEq, rNe, tCall, tCons, tNil, tCB, tLst, tTup, tAnd, tOr, tNot, tAndV, tOrV, tNotV, tIf, tDrop, tSl, tPart, tNoPart, tChain, tUn, rU, L2.start, cx_K, bk_K, cx_calm, bk_calm, lenV_str, and_assoc, Option.join, List.length_map, List.length_append, decide_eq_true_eq, Bool.false_eq_true, if_false, if_true, Bool.not_true, Bool.not_false, Bool.not_eq_true', decide_eq_false_iff_not, Bool.true_eq_false, List.length_cons, List.length_nil, List.map_cons, List.map_nil, List.replicate, List.cons_append, List.nil_append, List.append_nil, List.getElem?_cons_zero, List.getElem?_cons_succ, List.set_cons_zero, List.set_cons_succ, Nat.reduceSub, Nat.reduceAdd, Option.some.injEq, V.int.injEq, V.str.injEq, V.bl.injEq, V.ref.injEq, List.cons.injEq, and_true, true_and, exists_eq_left', exists_eq_left, exists_and_left, exists_eq_right, exists_const, tBM, tBM0, rAppend, rPop, rIxL, rIxT, rIxS, rSlL, rSlT, rSlS, rCat, rCatT, tKGet, cx_w, bk_w, tDGet, tDisp, tPairs, tDNewK]
      refine ⟨.inl ⟨rfl, _, SqL.of hy⟩, by decide, by decide, ?_⟩
      refine lc_range (lo := 0) (n := Int.toNat 4) (fun j zs σ H2 => H2 = H' ∧ (∃ cs : List Int, cs.length = j ∧ zs = cs.map V.int) ∧ ∃ o, σ = [o, some (V.ref a), some (V.int lo)]) ⟨rfl, ⟨[], rfl, rfl⟩, _, rfl⟩ (small (by decide)) (fun j zs σ H2 e => ?_) (fun j zs σ H2 C hj e hC => ?_) (fun zs σ H2 e p3 hp3 => ?_)
      · obtain ⟨_, ⟨cs, h1, rfl⟩, _⟩ := e
        rw [List.length_map]
        omega
      · obtain ⟨rfl, ⟨cs, h1, rfl⟩, o, rfl⟩ := e
        simp only [tSeq, tFor_eq, tLC_eq, iRng1, iRng2, iList, iTup, iStr, tIfS, tRet, tRetN, tNext, tAsg, gName, tVar, tC, tOp, rI0, rI, tTest, tB, rEq, rNe, tCall, tCons, tNil, tCB, tLst, tTup, tAnd, tOr, tNot, tAndV, tOrV, tNotV, tIf, tDrop, tSl, tPart, tNoPart, tChain, tUn, rU, L2.start, cx_K, bk_K, cx_calm, bk_calm, lenV_str, and_assoc, Option.join, List.length_map, List.length_append, decide_eq_true_eq, Bool.false_eq_true, if_false, if_true, Bool.not_true, Bool.not_false, Bool.not_eq_true', decide_eq_false_iff_not, Bool.true_eq_false, List.length_cons, List.length_nil, List.map_cons, List.map_nil, List.replicate, List.cons_append, List.nil_append, List.append_nil, List.getElem?_cons_zero, List.getElem?_cons_succ, List.set_cons_zero, List.set_cons_succ, Nat.reduceSub, Nat.reduceAdd, Option.some.injEq, V.int.injEq, V.str.injEq, V.bl.injEq, V.ref.injEq, List.cons.injEq, and_true, true_and, exists_eq_left', exists_eq_left, exists_and_left, exists_eq_right, exists_const, tBM, tBM0, rAppend, rPop, rIxL, rIxT, rIxS, rSlL, rSlT, rSlS, rCat, rCatT, tKGet, cx_w, bk_w, tDGet, tDisp, tPairs, tDNewK, spCell]
        refine ⟨ns, lo + j, by omega, Same.seq es hS, hC _ _ _ ⟨rfl, ⟨cs ++ [_], by rw [List.length_append, h1]; rfl, by rw [List.map_append]; rfl⟩, _, rfl⟩⟩
      · obtain ⟨rfl, ⟨cs, h1, rfl⟩, o, rfl⟩ := e
        have e3 := same_new hp3 (.lst (cs.map V.int))
        simp only [spStack]
        refine ⟨p3, p, cs, rfl, SqL.of upd_same, by omega, Pool.same (es.trans e3) hP, fun sa us ts H3 e4 hsa hts hne hf' hw => ?_⟩
        simp only [spWhole]
        have e34 := e3.trans e4
        refine ⟨sa, us, ts, _, rfl, hsa, hts, hne, hf', hw, by omega, fun tv H5 e5 ht fit wtb => ⟨ys, (e34.trans e5) _ _ hy, small1000 (by omega), ?_⟩⟩
        have e05 := (es.trans e34).trans e5
        have tu : TupSame H5 (upd H5 ps (.lst (ys ++ [tv]))) := (TupSame.refl _).upd_lst ((e34.trans e5) _ _ hy)
        refine ⟨e05.upd hps, ys ++ [tv], upd_same, tl ++ [whole ts], TAts.append (TAts.tups ((e34.trans e5).tups.trans tu) htl) (TAts.one (TAt.tups tu ht)), by rw [List.length_append, hyl]; rfl, fun t ht' => ?_, _, rfl⟩
        rcases List.mem_append.mp ht' with h | h
        · exact hf t h
        · rw [List.mem_singleton.mp h]
          exact ⟨fit, by omega⟩
    · obtain ⟨es, ys, tl, o1, o2, hy, htl, hyl, hf, rfl⟩ := h
      exact hN _ _ ⟨es, ys, tl, _, _, hy, htl, by omega, hf, rfl⟩
  · obtain ⟨es, ys, tl, o1, o2, hy, htl, hyl, hf, rfl⟩ := h
    refine seq_abs fun N hN => ?_
    simp only [tSeq, tFor_eq, tLC_eq, iRng1, iRng2, iList, iTup, iStr, tIfS, tRet, tRetN, tNext, tAsg, gName, tVar, tC, tOp, rI0, rI, tTest, tB, rEq, rNe, tCall, tCons, tNil, tCB, tLst, tTup, tAnd, tOr, tNot, tAndV, tOrV, tNotV, tIf, tDrop, tSl, tPart, tNoPart, tChain, tUn, rU, L2.start, cx_K, bk_K, cx_calm, bk_calm, lenV_str, and_assoc, Option.join, List.length_map, List.length_append, decide_eq_true_eq, Bool.false_eq_true, if_false, if_true, Bool.not_true, Bool.not_false, Bool.not_eq_true', decide_eq_false_iff_not, Bool.true_eq_false, List.length_cons, List.length_nil, List.map_cons, List.map_nil, List.replicate, List.cons_append, List.nil_append, List.append_nil, List.getElem?_cons_zero, List.getElem?_cons_succ, List.set_cons_zero, List.set_cons_succ, Nat.reduceSub, Nat.reduceAdd, Option.some.injEq, V.int.injEq, V.str.injEq, V.bl.injEq, V.ref.injEq, List.cons.injEq, and_true, true_and, exists_eq_left', exists_eq_left, exists_and_left, exists_eq_right, exists_const, tBM, tBM0, rAppend, rPop, rIxL, rIxT, rIxS, rSlL, rSlT, rSlS, rCat, rCatT, tKGet, cx_w, bk_w, tDGet, tDisp, tPairs, tDNewK]
    have hll := htl.length
    have at7 : ∀ k : Nat, k < ys.length → ∃ t v, ys[k]? = some v ∧ TAt H' t v ∧ Fit 18 t ∧ wt t ≤ 6 := fun k hk => by
      obtain ⟨t, h1, h2⟩ := htl.getV (List.getElem?_eq_getElem hk)
      have := hf t (List.mem_of_getElem? h1)
      exact ⟨t, _, List.getElem?_eq_getElem hk, h2, this⟩
    refine ⟨by omega, by omega, ?_⟩
    refine lc_range (lo := 0) (n := size.toNat) (fun i zs σ H2 => Same H' H2 ∧ (∃ qs : List (Tm × Tm), qs.length = i ∧ SAts H2 qs zs ∧ ∀ p ∈ qs, FitS 18 6 p) ∧ ∃ o, σ = [o, some (V.ref ps)]) ⟨Same.refl _, ⟨[], rfl, rfl, (fun _ z => nomatch z)⟩, _, rfl⟩ (small (by omega)) (fun i zs σ H2 e => ?_) (fun i zs σ H2 C hi e hC => ?_) (fun zs σ H2 e p4 hp4 => ?_)
    · obtain ⟨_, ⟨qs, h1, h2, _⟩, _⟩ := e
      have := SAts.length h2
      omega
    · obtain ⟨e2, ⟨qs, h1, h2, h3⟩, o, rfl⟩ := e
      obtain ⟨t1, v1, i1, a1, f1⟩ := at7 (2 * i) (by omega)
      obtain ⟨t2, v2, i2, a2, f2⟩ := at7 (2 * i + 1) (by omega)
      simp only [tSeq, tFor_eq, tLC_eq, iRng1, iRng2, iList, iTup, iStr, tIfS, tRet, tRetN, tNext, tAsg, gName, tVar, tC, tOp, rI0, rI, tTest, tB, rEq, rNe, tCall, tCons, tNil, tCB, tLst, tTup, tAnd, tOr, tNot, tAndV, tOrV, tNotV, tIf, tDrop, tSl, tPart, tNoPart, tChain, tUn, rU, L2.start, cx_K, bk_K, cx_calm, bk_calm, lenV_str, and_assoc, Option.join, List.length_map, List.length_append, decide_eq_true_eq, Bool.false_eq_true, if_false, if_true, Bool.not_true, Bool.not_false, Bool.not_eq_true', decide_eq_false_iff_not, Bool.true_eq_false, List.length_cons, List.length_nil, List.map_cons, List.map_nil, List.replicate, List.cons_append, List.nil_append, List.append_nil, List.getElem?_cons_zero, List.getElem?_cons_succ, List.set_cons_zero, List.set_cons_succ, Nat.reduceSub, Nat.reduceAdd, Option.some.injEq, V.int.injEq, V.str.injEq, V.bl.injEq, V.ref.injEq, List.cons.injEq, and_true, true_and, exists_eq_left', exists_eq_left, exists_and_left, exists_eq_right, exists_const, tBM, tBM0, rAppend, rPop, rIxL, rIxT, rIxS, rSlL, rSlT, rSlS, rCat, rCatT, tKGet, cx_w, bk_w, tDGet, tDisp, tPairs, tDNewK]
      refine ⟨.inl ⟨by decide, by decide⟩, _, SqL.of (e2 _ _ hy), v1, by rw [show (2 : Int) * (0 + i) = ((2 * i : Nat) : Int) by omega]; exact atI_nat i1, .inl ⟨by decide, by decide⟩, _, SqL.of (e2 _ _ hy), v2, by rw [show (2 : Int) * (0 + i) + 1 = ((2 * i + 1 : Nat) : Int) by omega]; exact atI_nat i2, small (by decide), fun p5 hp5 => hC _ _ _ ?_⟩
      have e5 := same_new hp5 (.tup [v1, v2])
      refine ⟨e2.trans e5, ⟨qs ++ [(t1, t2)], by rw [List.length_append, h1]; rfl, ?_, fun p hp => ?_⟩, _, rfl⟩
      · unfold SAts
        rw [List.map_append]
        exact DAts.append (DAts.same e5 h2) (DAts.one (SAt.mk upd_same (TAt.tups (e2.trans e5).tups a1) (TAt.tups (e2.trans e5).tups a2)))
      · rcases List.mem_append.mp hp with hp | hp
        · exact h3 p hp
        · rw [List.mem_singleton.mp hp]
          exact ⟨f1, f2⟩
    obtain ⟨e2, ⟨qs, hql, hqs, hqf⟩, o, rfl⟩ := e
    refine hN _ _ ?_
    have e8 := same_new hp4 (.lst zs)
    have h84 : upd H2 p4 (.lst zs) p4 = some (.lst zs) := upd_same
    have e28 := e2.trans e8
    have hqs8 := DAts.same e8 hqs
    generalize upd H2 p4 (.lst zs) = H8 at e8 h84 e28 hqs8 ⊢
    obtain ⟨t1, v1, i1, a1, f1⟩ := at7 (2 * size.toNat) (by omega)
    obtain ⟨t2, v2, i2, a2, f2⟩ := at7 (2 * size.toNat + 1) (by omega)
    simp only [tSeq, tFor_eq, tLC_eq, iRng1, iRng2, iList, iTup, iStr, tIfS, tRet, tRetN, tNext, tAsg, gName, tVar, tC, tOp, rI0, rI, tTest, tB, rEq, rNe, tCall, tCons, tNil, tCB, tLst, tTup, tAnd, tOr, tNot, tAndV, tOrV, tNotV, tIf, tDrop, tSl, tPart, tNoPart, tChain, tUn, rU, L2.start, cx_K, bk_K, cx_calm, bk_calm, lenV_str, and_assoc, Option.join, List.length_map, List.length_append, decide_eq_true_eq, Bool.false_eq_true, if_false, if_true, Bool.not_true, Bool.not_false, Bool.not_eq_true', decide_eq_false_iff_not, Bool.true_eq_false, List.length_cons, List.length_nil, List.map_cons, List.map_nil, List.replicate, List.cons_append, List.nil_append, List.append_nil, List.getElem?_cons_zero, List.getElem?_cons_succ, List.set_cons_zero, List.set_cons_succ, Nat.reduceSub, Nat.reduceAdd, Option.some.injEq, V.int.injEq, V.str.injEq, V.bl.injEq, V.ref.injEq, List.cons.injEq, and_true, true_and, exists_eq_left', exists_eq_left, exists_and_left, exists_eq_right, exists_const, tBM, tBM0, rAppend, rPop, rIxL, rIxT, rIxS, rSlL, rSlT, rSlS, rCat, rCatT, tKGet, cx_w, bk_w, tDGet, tDisp, tPairs, tDNewK]
    refine ⟨.inl ⟨by decide, by decide⟩, _, SqL.of (e28 _ _ hy), v1, by rw [show (2 : Int) * size = ((2 * size.toNat : Nat) : Int) by omega]; exact atI_nat i1, .inl ⟨by decide, by decide⟩, _, SqL.of (e28 _ _ hy), v2, by rw [show (2 : Int) * size + 1 = ((2 * size.toNat + 1 : Nat) : Int) by omega]; exact atI_nat i2, small (by decide), fun p5 hp5 => ⟨small (by decide), fun p6 hp6 => ?_⟩⟩
    have e5 := same_new hp5 (.tup [v1, v2])
    have h55 : upd H8 p5 (.tup [v1, v2]) p5 = some (.tup [v1, v2]) := upd_same
    generalize upd H8 p5 (.tup [v1, v2]) = H9 at e5 h55 hp6 ⊢
    have e6 := same_new hp6 (.tup [.ref p4, .ref p5])
    have e810 := e5.trans e6
    have ea := e28.trans e810
    exact q _ (qs, (t1, t2)) _ (es.trans ea) (RAt.mk upd_same (e810 _ _ h84) (DAts.same e810 hqs8) (SAt.mk (e6 _ _ h55) (TAt.tups ea.tups a1) (TAt.tups ea.tups a2))) (by show qs.length ≤ 5; omega) hqf ⟨f1, f2⟩
end

end C
set_option Elab.async false
set_option linter.all false
set_option maxRecDepth 100000
set_option maxHeartbeats 8000000
namespace C
open PySem L2
seal PE PT PW PA PS PSs PG PGs PI PPs PO PSet PIf
abbrev s_shown : Stmt := top 20
theorem sc_shown : FnScope ["t", "joint"] ["t"] (defScope s_shown) := ⟨rfl, rfl, rfl, by decide +kernel, rfl, by decide +kernel, by decide +kernel⟩
abbrev s_shown_saying : Stmt := top 21
theorem sc_shown_saying : FnScope ["saying"] ["saying"] (defScope s_shown_saying) := ⟨rfl, rfl, rfl, by decide +kernel, rfl, by decide +kernel, by decide +kernel⟩
abbrev s_shown_rule : Stmt := top 22
theorem sc_shown_rule : FnScope ["rule", "said"] ["rule"] (defScope s_shown_rule) := ⟨rfl, rfl, rfl, by decide +kernel, rfl, by decide +kernel, by decide +kernel⟩
def jKV : List (Key × V) := [(.inr "both", .str " & "), (.inr "either", .str " | ")]
theorem j_val {w : Str} (h : w = "both" ∨ w = "either") : valV jKV (.inr w) = some (.str (toS (jOf w))) := by
  rcases h with rfl | rfl <;> decide +kernel
theorem join_toS (j : Cs) (ss : List Cs) : Txt.join (toS j) (ss.map toS) = toS (glue j ss) := glued_toS j ss
section
variable {P : Program} {w : World} {K : PySem.W.Frag} {mg : Str → Option Value} {base : Heap} {f : Addr} {fd : FuncData}
theorem ok_shown (bi : Bi mg) {aW aJ : Addr} (g_WORDS : Gc mg "WORDS" (.ref aW)) (sW : ∀ H, SqT K H aW [.str "none", .str "all"]) (g_JOINTS : Gc mg "JOINTS" (.ref aJ)) (kd : KD w K aJ jKV) (F : Fun K "shown" "shown" s_shown f fd) (b : Binds K fd ["t"] []) (m : mg "shown" = some (.ref f)) : ∀ n, FnOk P w K mg base CX0 n f fd ["t"] (spWr n) := by
  refine rec_ok F b m (fun vs H Q E h => h) (fun n h_shown => ?_)
  refine F.ok sc_shown (fun vs H Q E h => ?_) (fun cdv A outer s H vs Q E hr h => ?_)
  · obtain ⟨v, t, rfl, _⟩ := h
    rfl
  obtain ⟨v, t, rfl, ht, hf, hw, q⟩ := h
  refine ⟨_, (pss_cons (ps_if (pt_cmpR op_eq (pe_ix ix_tup (pv 0) pe_int (fun _ _ => rfl)) pe_str (nomark _)) (pss_one (ps_ret (pe_ix ix_tup (pv 0) pe_int (fun _ _ => rfl)))) pss_nil) (pss_cons (ps_if (pt_cmpR op_eq (pe_ix ix_tup (pv 0) pe_int (fun _ _ => rfl)) pe_str (nomark _)) (pss_one (ps_ret (pe_op op_add_str pe_str (pe_callH h_shown hr rfl (pa_cons (pe_ix ix_tup (pv 0) pe_int (fun _ _ => rfl)) pa_nil))))) pss_nil) (pss_cons (ps_if (pt_cmpR op_in_seq (pe_ix ix_tup (pv 0) pe_int (fun _ _ => rfl)) (pe_gc g_WORDS rfl) (by with_unfolding_all rfl)) (pss_one (ps_ret (pe_ix ix_tup (pv 0) pe_int (fun _ _ => rfl)))) pss_nil) (pss_cons (ps_set (i := 1) sc_shown.nd rfl (Or.inl rfl) (pe_kdget (pe_gc g_JOINTS rfl) (pe_ix ix_tup (pv 0) pe_int (fun _ _ => rfl)) (fun _ _ => rfl))) (pss_one (ps_ret (pe_op op_add_str (pe_op op_add_str pe_str (pe_bm PySem.F.plainAttrs_str PySem.F.slot_str_join PySem.F.type_str_join mt_join (pv 1) (pa_cons (pe_comp ["part"] [] [] (pi_tup (pe_slice sl_tup (pv 0) (po_some pe_int) po_none)) (fun _ _ _ _ nd => pg_name (i := 0) nd rfl (Or.inl rfl)) (fun _ _ _ _ => pif_nil) (fun _ _ _ _ => (pe_callH h_shown hr rfl (pa_cons (pv 0) pa_nil)))) pa_nil))) pe_str))))))), ?_⟩
  cases t with
  | name x =>
    obtain ⟨a, rfl, ha⟩ := TAt.name ht
    simp only [tSeq, tFor_eq, tLC_eq, iRng1, iRng2, iList, iTup, iStr, tIfS, tRet, tRetN, tNext, tAsg, gName, tVar, tC, tOp, rI0, rI, tTest, tB, rEq, rNe, tCall, tCons, tNil, tCB, tLst, tTup, tAnd, tOr, tNot, tAndV, tOrV, tNotV, tIf, tDrop, tSl, tPart, tNoPart, tChain, tUn, rU, L2.start, cx_K, bk_K, cx_calm, bk_calm, lenV_str, and_assoc, Option.join, List.length_map, List.length_append, decide_eq_true_eq, Bool.false_eq_true, if_false, if_true, Bool.not_true, Bool.not_false, Bool.not_eq_true', decide_eq_false_iff_not, Bool.true_eq_false, List.length_cons, List.length_nil, List.map_cons, List.map_nil, List.replicate, List.cons_append, List.nil_append, List.append_nil, List.getElem?_cons_zero, List.getElem?_cons_succ, List.set_cons_zero, List.set_cons_succ, Nat.reduceSub, Nat.reduceAdd, Option.some.injEq, V.int.injEq, V.str.injEq, V.bl.injEq, V.ref.injEq, List.cons.injEq, and_true, true_and, exists_eq_left', exists_eq_left, exists_and_left, exists_eq_right, exists_const, tBM, tBM0, rAppend, rPop, rIxL, rIxT, rIxS, rSlL, rSlT, rSlS, rCat, rCatT, tKGet, cx_w, bk_w, tDGet, tDisp, tPairs, tDNewK]
    refine ⟨_, SqT.of ha, .str "name", at0, rfl, ?_⟩
    rw [if_pos rfl]
    rw [wrS_name] at q
    exact ⟨_, SqT.of ha, .str x, at1, q _ (Same.refl _)⟩
  | node wd ts =>
    obtain ⟨a, us, rfl, ha, hu⟩ := TAt.node ht
    have hwd := hf.wrd
    have hl := hu.length
    have hll := wts_len ts
    have hsh := hf.sh
    rw [wt] at hw
    have part : ∀ (i : Nat) (t : Tm), ts[i]? = some t → ∃ m, n = m + 1 ∧ Fit m t ∧ wt t ≤ 900 := fun i t hi => by
      have hm := List.mem_of_getElem? hi
      have := wts_mem hm
      cases n with
      | zero => rw [hf.2] at hm; cases hm
      | succ n => exact ⟨n, rfl, hf.part hm, by omega⟩
    refine seq_abs fun N hN => ?_
    simp only [tSeq, tFor_eq, tLC_eq, iRng1, iRng2, iList, iTup, iStr, tIfS, tRet, tRetN, tNext, tAsg, gName, tVar, tC, tOp, rI0, rI, tTest, tB, rEq, rNe, tCall, tCons, tNil, tCB, tLst, tTup, tAnd, tOr, tNot, tAndV, tOrV, tNotV, tIf, tDrop, tSl, tPart, tNoPart, tChain, tUn, rU, L2.start, cx_K, bk_K, cx_calm, bk_calm, lenV_str, and_assoc, Option.join, List.length_map, List.length_append, decide_eq_true_eq, Bool.false_eq_true, if_false, if_true, Bool.not_true, Bool.not_false, Bool.not_eq_true', decide_eq_false_iff_not, Bool.true_eq_false, List.length_cons, List.length_nil, List.map_cons, List.map_nil, List.replicate, List.cons_append, List.nil_append, List.append_nil, List.getElem?_cons_zero, List.getElem?_cons_succ, List.set_cons_zero, List.set_cons_succ, Nat.reduceSub, Nat.reduceAdd, Option.some.injEq, V.int.injEq, V.str.injEq, V.bl.injEq, V.ref.injEq, List.cons.injEq, and_true, true_and, exists_eq_left', exists_eq_left, exists_and_left, exists_eq_right, exists_const, tBM, tBM0, rAppend, rPop, rIxL, rIxT, rIxS, rSlL, rSlT, rSlS, rCat, rCatT, tKGet, cx_w, bk_w, tDGet, tDisp, tPairs, tDNewK]
    refine ⟨_, SqT.of ha, .str wd, at0, rfl, ?_⟩
    rw [if_neg (fun e => hwd.ne (V.str.inj e))]
    refine hN _ _ ?_
    refine seq_abs fun N hN => ?_
    simp only [tSeq, tFor_eq, tLC_eq, iRng1, iRng2, iList, iTup, iStr, tIfS, tRet, tRetN, tNext, tAsg, gName, tVar, tC, tOp, rI0, rI, tTest, tB, rEq, rNe, tCall, tCons, tNil, tCB, tLst, tTup, tAnd, tOr, tNot, tAndV, tOrV, tNotV, tIf, tDrop, tSl, tPart, tNoPart, tChain, tUn, rU, L2.start, cx_K, bk_K, cx_calm, bk_calm, lenV_str, and_assoc, Option.join, List.length_map, List.length_append, decide_eq_true_eq, Bool.false_eq_true, if_false, if_true, Bool.not_true, Bool.not_false, Bool.not_eq_true', decide_eq_false_iff_not, Bool.true_eq_false, List.length_cons, List.length_nil, List.map_cons, List.map_nil, List.replicate, List.cons_append, List.nil_append, List.append_nil, List.getElem?_cons_zero, List.getElem?_cons_succ, List.set_cons_zero, List.set_cons_succ, Nat.reduceSub, Nat.reduceAdd, Option.some.injEq, V.int.injEq, V.str.injEq, V.bl.injEq, V.ref.injEq, List.cons.injEq, and_true, true_and, exists_eq_left', exists_eq_left, exists_and_left, exists_eq_right, exists_const, tBM, tBM0, rAppend, rPop, rIxL, rIxT, rIxS, rSlL, rSlT, rSlS, rCat, rCatT, tKGet, cx_w, bk_w, tDGet, tDisp, tPairs, tDNewK]
    refine ⟨_, SqT.of ha, .str wd, at0, rfl, ?_⟩
    by_cases hnot : wd = "not"
    · subst hnot
      rw [if_pos rfl]
      have h1 : ts.length = 1 := by
        rcases hsh with ⟨h, _⟩ | ⟨h, _⟩ | ⟨_, h⟩ | ⟨h, _⟩ | ⟨h, _⟩
        · exact absurd h (by decide +kernel)
        · exact absurd h (by decide +kernel)
        · exact h
        · exact absurd h (by decide +kernel)
        · exact absurd h (by decide +kernel)
      match ts, h1 with
      | [t], _ =>
        obtain ⟨u, r, e1, e2, e3⟩ := hu
        have e3 : r = [] := e3
        subst e3; subst e1
        obtain ⟨m, rfl, f1, f2⟩ := part 0 t rfl
        refine ⟨_, SqT.of ha, u, at1, ?_⟩
        simp only [spWr]
        refine ⟨u, t, rfl, e2, f1, f2, fun H1 e => ⟨_, rfl, ?_, ?_⟩⟩
        · have := wrS_len f1
          have : ("!" : Str).length = 1 := by decide +kernel
          exact big (by omega)
        · rw [← wrS_not]
          exact q _ e
    rw [if_neg (fun e => hnot (V.str.inj e))]
    refine hN _ _ ?_
    refine seq_abs fun N hN => ?_
    simp only [tSeq, tFor_eq, tLC_eq, iRng1, iRng2, iList, iTup, iStr, tIfS, tRet, tRetN, tNext, tAsg, gName, tVar, tC, tOp, rI0, rI, tTest, tB, rEq, rNe, tCall, tCons, tNil, tCB, tLst, tTup, tAnd, tOr, tNot, tAndV, tOrV, tNotV, tIf, tDrop, tSl, tPart, tNoPart, tChain, tUn, rU, L2.start, cx_K, bk_K, cx_calm, bk_calm, lenV_str, and_assoc, Option.join, List.length_map, List.length_append, decide_eq_true_eq, Bool.false_eq_true, if_false, if_true, Bool.not_true, Bool.not_false, Bool.not_eq_true', decide_eq_false_iff_not, Bool.true_eq_false, List.length_cons, List.length_nil, List.map_cons, List.map_nil, List.replicate, List.cons_append, List.nil_append, List.append_nil, List.getElem?_cons_zero, List.getElem?_cons_succ, List.set_cons_zero, List.set_cons_succ, Nat.reduceSub, Nat.reduceAdd, Option.some.injEq, V.int.injEq, V.str.injEq, V.bl.injEq, V.ref.injEq, List.cons.injEq, and_true, true_and, exists_eq_left', exists_eq_left, exists_and_left, exists_eq_right, exists_const, tBM, tBM0, rAppend, rPop, rIxL, rIxT, rIxS, rSlL, rSlT, rSlS, rCat, rCatT, tKGet, cx_w, bk_w, tDGet, tDisp, tPairs, tDNewK, rIn]
    refine ⟨_, SqT.of ha, .str wd, at0, _, .inr (sW H), rfl, rfl, ?_⟩
    have ein : inV (V.str wd) [V.str "none", V.str "all"] = (decide (wd = "none") || decide (wd = "all")) := by
      simp only [inV, List.any_cons, List.any_nil, eqV_str, Bool.or_false]
    rw [ein]
    by_cases hleaf : wd = "none" ∨ wd = "all"
    · rw [if_pos (by simpa using hleaf)]
      have h0 : ts = [] := by
        rcases hsh with ⟨_, h⟩ | ⟨_, h⟩ | ⟨h, _⟩ | ⟨h, _⟩ | ⟨h, _⟩
        · exact List.eq_nil_of_length_eq_zero h
        · exact List.eq_nil_of_length_eq_zero h
        · exact absurd h hnot
        · subst h
          rcases hleaf with h | h <;> exact absurd h (by decide +kernel)
        · subst h
          rcases hleaf with h | h <;> exact absurd h (by decide +kernel)
      subst h0
      have e : wrS (.node wd []) = wd := by
        rcases hleaf with rfl | rfl
        · exact wrS_none
        · exact wrS_all
      rw [e] at q
      exact ⟨_, SqT.of ha, .str wd, at0, q _ (Same.refl _)⟩
    rw [if_neg (by simpa using hleaf)]
    refine hN _ _ ?_
    have hbe : wd = "both" ∨ wd = "either" := by
      rcases hsh with ⟨h, _⟩ | ⟨h, _⟩ | ⟨h, _⟩ | ⟨h, _⟩ | ⟨h, _⟩
      · exact absurd (.inl h) hleaf
      · exact absurd (.inr h) hleaf
      · exact absurd h hnot
      · exact .inl h
      · exact .inr h
    have h0 : ts ≠ [] := fun z => by
      subst z
      rcases hsh with ⟨h, _⟩ | ⟨h, _⟩ | ⟨h, _⟩ | ⟨_, h⟩ | ⟨_, h⟩
      · exact absurd (.inl h) hleaf
      · exact absurd (.inr h) hleaf
      · exact absurd h hnot
      · simp at h
      · simp at h
    refine seq_abs fun N hN => ?_
    simp only [tSeq, tFor_eq, tLC_eq, iRng1, iRng2, iList, iTup, iStr, tIfS, tRet, tRetN, tNext, tAsg, gName, tVar, tC, tOp, rI0, rI, tTest, tB, rEq, rNe, tCall, tCons, tNil, tCB, tLst, tTup, tAnd, tOr, tNot, tAndV, tOrV, tNotV, tIf, tDrop, tSl, tPart, tNoPart, tChain, tUn, rU, L2.start, cx_K, bk_K, cx_calm, bk_calm, lenV_str, and_assoc, Option.join, List.length_map, List.length_append, decide_eq_true_eq, Bool.false_eq_true, if_false, if_true, Bool.not_true, Bool.not_false, Bool.not_eq_true', decide_eq_false_iff_not, Bool.true_eq_false, List.length_cons, List.length_nil, List.map_cons, List.map_nil, List.replicate, List.cons_append, List.nil_append, List.append_nil, List.getElem?_cons_zero, List.getElem?_cons_succ, List.set_cons_zero, List.set_cons_succ, Nat.reduceSub, Nat.reduceAdd, Option.some.injEq, V.int.injEq, V.str.injEq, V.bl.injEq, V.ref.injEq, List.cons.injEq, and_true, true_and, exists_eq_left', exists_eq_left, exists_and_left, exists_eq_right, exists_const, tBM, tBM0, rAppend, rPop, rIxL, rIxT, rIxS, rSlL, rSlT, rSlS, rCat, rCatT, tKGet, cx_w, bk_w, tDGet, tDisp, tPairs, tDNewK]
    refine ⟨_, SqT.of ha, .str wd, at0, jKV, .inr wd, rfl, kd, _, j_val hbe, hN _ _ ?_⟩
    simp only [tSeq, tFor_eq, tLC_eq, iRng1, iRng2, iList, iTup, iStr, tIfS, tRet, tRetN, tNext, tAsg, gName, tVar, tC, tOp, rI0, rI, tTest, tB, rEq, rNe, tCall, tCons, tNil, tCB, tLst, tTup, tAnd, tOr, tNot, tAndV, tOrV, tNotV, tIf, tDrop, tSl, tPart, tNoPart, tChain, tUn, rU, L2.start, cx_K, bk_K, cx_calm, bk_calm, lenV_str, and_assoc, Option.join, List.length_map, List.length_append, decide_eq_true_eq, Bool.false_eq_true, if_false, if_true, Bool.not_true, Bool.not_false, Bool.not_eq_true', decide_eq_false_iff_not, Bool.true_eq_false, List.length_cons, List.length_nil, List.map_cons, List.map_nil, List.replicate, List.cons_append, List.nil_append, List.append_nil, List.getElem?_cons_zero, List.getElem?_cons_succ, List.set_cons_zero, List.set_cons_succ, Nat.reduceSub, Nat.reduceAdd, Option.some.injEq, V.int.injEq, V.str.injEq, V.bl.injEq, V.ref.injEq, List.cons.injEq, and_true, true_and, exists_eq_left', exists_eq_left, exists_and_left, exists_eq_right, exists_const, tBM, tBM0, rAppend, rPop, rIxL, rIxT, rIxS, rSlL, rSlT, rSlS, rCat, rCatT, tKGet, cx_w, bk_w, tDGet, tDisp, tPairs, tDNewK]
    refine ⟨rfl, _, SqT.of ha, tail_not_whole _ _, fun p2 hp2 => ?_⟩
    rw [cut_tail]
    have e2 : Same H (upd H p2 (.tup us)) := same_new hp2 _
    have h2 : upd H p2 (.tup us) p2 = some (.tup us) := upd_same
    generalize upd H p2 (.tup us) = H2 at e2 h2 ⊢
    refine ⟨⟨_, SqT.of h2⟩, ?_⟩
    refine lc_tup (xs := us) (fun i ys σ H' => Same H2 H' ∧ ys = ((ts.take i).map wrS).map V.str ∧ ∃ o, σ = [o]) ⟨Same.refl _, rfl, _, rfl⟩ (small (by omega)) (fun i ys σ H' e => ?_) (fun i ys σ H' e => SqT.of (e.1 _ _ h2)) (fun i x ys σ H' C hx e hC => ?_) (fun ys σ H' e p3 hp3 => ?_)
    · rw [e.2.1, List.length_map, List.length_map, List.length_take]
      omega
    · obtain ⟨es, hys, o, rfl⟩ := e
      obtain ⟨t, ht', hx'⟩ := hu.getV hx
      obtain ⟨m', rfl, f1, f2⟩ := part i t ht'
      simp only [tSeq, tFor_eq, tLC_eq, iRng1, iRng2, iList, iTup, iStr, tIfS, tRet, tRetN, tNext, tAsg, gName, tVar, tC, tOp, rI0, rI, tTest, tB, rEq, rNe, tCall, tCons, tNil, tCB, tLst, tTup, tAnd, tOr, tNot, tAndV, tOrV, tNotV, tIf, tDrop, tSl, tPart, tNoPart, tChain, tUn, rU, L2.start, cx_K, bk_K, cx_calm, bk_calm, lenV_str, and_assoc, Option.join, List.length_map, List.length_append, decide_eq_true_eq, Bool.false_eq_true, if_false, if_true, Bool.not_true, Bool.not_false, Bool.not_eq_true', decide_eq_false_iff_not, Bool.true_eq_false, List.length_cons, List.length_nil, List.map_cons, List.map_nil, List.replicate, List.cons_append, List.nil_append, List.append_nil, List.getElem?_cons_zero, List.getElem?_cons_succ, List.set_cons_zero, List.set_cons_succ, Nat.reduceSub, Nat.reduceAdd, Option.some.injEq, V.int.injEq, V.str.injEq, V.bl.injEq, V.ref.injEq, List.cons.injEq, and_true, true_and, exists_eq_left', exists_eq_left, exists_and_left, exists_eq_right, exists_const, tBM, tBM0, rAppend, rPop, rIxL, rIxT, rIxS, rSlL, rSlT, rSlS, rCat, rCatT, tKGet, cx_w, bk_w, tDGet, tDisp, tPairs, tDNewK, spWr]
      refine ⟨t, TAt.tups (e2.trans es).tups hx', f1, f2, fun H3 e3 => hC _ _ _ ⟨es.trans e3, ?_, _, rfl⟩⟩
      obtain ⟨il, ie⟩ := List.getElem?_eq_some_iff.mp ht'
      rw [hys, List.take_succ_eq_append_getElem il, ie, List.map_append, List.map_append]
      rfl
    · obtain ⟨es, hys, o, rfl⟩ := e
      rw [List.take_of_length_le (by omega)] at hys
      subst hys
      have ej : Txt.join (toS (jOf wd)) (ts.map wrS) = toS (glue (jOf wd) (ts.map wr)) := by
        have : ts.map wrS = (ts.map wr).map toS := by rw [List.map_map]; rfl
        rw [this]
        exact join_toS _ _
      have ew : ("(" : Str) ++ toS (glue (jOf wd) (ts.map wr)) ++ (")" : Str) = wrS (.node wd ts) := by
        unfold wrS
        rw [wr_many hbe h0, s_open, s_close, toS_app, toS_app]
        rfl
      have hwl := wr_len _ _ hf
      rw [wr_many hbe h0, wt, List.length_cons, List.length_append, List.length_singleton] at hwl
      have l1 : ("(" : Str).length = 1 := by decide +kernel
      have l2 : (")" : Str).length = 1 := by decide +kernel
      have hsum : ((ts.map wrS).map (fun x => x.length)).sum ≤ 13 * wts ts := by
        have go : ∀ us : List Tm, (∀ t ∈ us, t ∈ ts) → ((us.map wrS).map (fun x => x.length)).sum ≤ 13 * wts us := by
          intro us
          induction us with
          | nil => intro _; simp
          | cons u r ih =>
            intro hu
            obtain ⟨i, hi, e⟩ := List.getElem_of_mem (hu u (by simp))
            obtain ⟨m', _, g1, _⟩ := part i u (by rw [List.getElem?_eq_getElem hi, e])
            have a1 := wrS_len g1
            have a2 := ih fun t ht => hu t (by simp [ht])
            rw [List.map_cons, List.map_cons, List.sum_cons, wts]
            omega
        exact go ts fun _ h => h
      have hjl := j_len wd
      refine ⟨p3, rfl, ts.map wrS, SqL.of upd_same, ?_, ?_⟩
      · rw [toS_len, hjl, List.length_map]
        omega
      · rw [ej, ew, l1, l2, toS_len, len_app, toS_len, l1]
        exact ⟨big (by omega), big (by omega), q _ ((e2.trans es).trans (same_new hp3 _))⟩
theorem ok_shown_saying (bi : Bi mg) (g_UNDER : Gc mg "UNDER" (.str " < ")) (h_shown : Has P w K mg base 21 "shown" ["t"] (spWr 21)) (F : Fun K "shown_saying" "shown_saying" s_shown_saying f fd) : FnOk P w K mg base CX0 22 f fd ["saying"] spWrS := by
  refine F.ok sc_shown_saying (fun vs H Q E h => ?_) (fun cdv A outer s H vs Q E hr h => ?_)
  · obtain ⟨v, t, rfl, _⟩ := h
    rfl
  obtain ⟨v, p, rfl, hp, hf, q⟩ := h
  obtain ⟨a, v1, v2, rfl, ha, h1, h2⟩ := hp.out
  have l1 := wrS_len hf.1.1
  have l2 := wrS_len hf.2.1
  have w1 := hf.1.2
  have w2 := hf.2.2
  have l3 : (" < " : Str).length = 3 := by decide +kernel
  refine ⟨_, (pss_one (ps_ret (pe_op op_add_str (pe_op op_add_str (pe_callH h_shown (hr.mono (by omega)) rfl (pa_cons (pe_ix ix_tup (pv 0) pe_int (fun _ _ => rfl)) pa_nil)) (pe_gc g_UNDER rfl)) (pe_callH h_shown (hr.mono (by omega)) rfl (pa_cons (pe_ix ix_tup (pv 0) pe_int (fun _ _ => rfl)) pa_nil))))), ?_⟩
  simp only [tSeq, tFor_eq, tLC_eq, iRng1, iRng2, iList, iTup, iStr, tIfS, tRet, tRetN, tNext, tAsg, gName, tVar, tC, tOp, rI0, rI, tTest, tB, rEq, rNe, tCall, tCons, tNil, tCB, tLst, tTup, tAnd, tOr, tNot, tAndV, tOrV, tNotV, tIf, tDrop, tSl, tPart, tNoPart, tChain, tUn, rU, L2.start, cx_K, bk_K, cx_calm, bk_calm, lenV_str, and_assoc, Option.join, List.length_map, List.length_append, decide_eq_true_eq, Bool.false_eq_true, if_false, if_true, Bool.not_true, Bool.not_false, Bool.not_eq_true', decide_eq_false_iff_not, Bool.true_eq_false, List.length_cons, List.length_nil, List.map_cons, List.map_nil, List.replicate, List.cons_append, List.nil_append, List.append_nil, List.getElem?_cons_zero, List.getElem?_cons_succ, List.set_cons_zero, List.set_cons_succ, Nat.reduceSub, Nat.reduceAdd, Option.some.injEq, V.int.injEq, V.str.injEq, V.bl.injEq, V.ref.injEq, List.cons.injEq, and_true, true_and, exists_eq_left', exists_eq_left, exists_and_left, exists_eq_right, exists_const, tBM, tBM0, rAppend, rPop, rIxL, rIxT, rIxS, rSlL, rSlT, rSlS, rCat, rCatT, tKGet, cx_w, bk_w, tDGet, tDisp, tPairs, tDNewK, spWr]
  refine ⟨_, SqT.of ha, v1, at0, _, h1, hf.1.1, hf.1.2, fun H1 e1 => ⟨big (by omega), _, SqT.of (e1 _ _ ha), v2, at1, _, TAt.tups e1.tups h2, hf.2.1, hf.2.2, fun H2 e2 => ⟨big (by rw [len_app]; omega), ?_⟩⟩⟩
  rw [← sayS_eq]
  exact q _ (e1.trans e2)
theorem ok_shown_rule (bi : Bi mg) (g_COMMA : Gc mg "COMMA" (.str ", ")) (g_ARROW : Gc mg "ARROW" (.str " => ")) (h_shown_saying : Has P w K mg base 22 "shown_saying" ["saying"] spWrS) (F : Fun K "shown_rule" "shown_rule" s_shown_rule f fd) : FnOk P w K mg base CX0 23 f fd ["rule"] spWrR := by
  refine F.ok sc_shown_rule (fun vs H Q E h => ?_) (fun cdv A outer s H vs Q E hr h => ?_)
  · obtain ⟨v, t, rfl, _⟩ := h
    rfl
  obtain ⟨v, r, rfl, hr', hlen, hf1, hf2, q⟩ := h
  obtain ⟨a, l, sv, us, rfl, ha, hl, hu, hs⟩ := hr'.out
  have hul := SAts.length hu
  have sl : ∀ p, FitS 20 900 p → 3 ≤ (sayS p).length ∧ (sayS p).length ≤ 24000 := fun p hp => by
    have := sayS_len hp.1.1 hp.2.1
    have := hp.1.2
    have := hp.2.2
    omega
  refine ⟨_, (pss_cons (ps_set (i := 1) sc_shown_rule.nd rfl (Or.inl rfl) (pe_callH h_shown_saying (hr.mono (by omega)) rfl (pa_cons (pe_ix ix_tup (pv 0) pe_int (fun _ _ => rfl)) pa_nil))) (pss_cons (ps_if (pt_not (pt_truth (pe_ix ix_tup (pv 0) pe_int (fun _ _ => rfl)) (fun _ => rfl))) (pss_one (ps_ret (pv 1))) pss_nil) (pss_one (ps_ret (pe_op op_add_str (pe_op op_add_str (pe_bm PySem.F.plainAttrs_str PySem.F.slot_str_join PySem.F.type_str_join mt_join (pe_gc g_COMMA rfl) (pa_cons (pe_comp ["premise"] [] [] (pi_list (pe_ix ix_tup (pv 0) pe_int (fun _ _ => rfl))) (fun _ _ _ _ nd => pg_name (i := 0) nd rfl (Or.inl rfl)) (fun _ _ _ _ => pif_nil) (fun _ _ _ _ => (pe_callH h_shown_saying (hr.mono (by omega)) rfl (pa_cons (pv 0) pa_nil)))) pa_nil)) (pe_gc g_ARROW rfl)) (pv 1)))))), ?_⟩
  refine seq_abs fun N hN => ?_
  simp only [tSeq, tFor_eq, tLC_eq, iRng1, iRng2, iList, iTup, iStr, tIfS, tRet, tRetN, tNext, tAsg, gName, tVar, tC, tOp, rI0, rI, tTest, tB, rEq, rNe, tCall, tCons, tNil, tCB, tLst, tTup, tAnd, tOr, tNot, tAndV, tOrV, tNotV, tIf, tDrop, tSl, tPart, tNoPart, tChain, tUn, rU, L2.start, cx_K, bk_K, cx_calm, bk_calm, lenV_str, and_assoc, Option.join, List.length_map, List.length_append, decide_eq_true_eq, Bool.false_eq_true, if_false, if_true, Bool.not_true, Bool.not_false, Bool.not_eq_true', decide_eq_false_iff_not, Bool.true_eq_false, List.length_cons, List.length_nil, List.map_cons, List.map_nil, List.replicate, List.cons_append, List.nil_append, List.append_nil, List.getElem?_cons_zero, List.getElem?_cons_succ, List.set_cons_zero, List.set_cons_succ, Nat.reduceSub, Nat.reduceAdd, Option.some.injEq, V.int.injEq, V.str.injEq, V.bl.injEq, V.ref.injEq, List.cons.injEq, and_true, true_and, exists_eq_left', exists_eq_left, exists_and_left, exists_eq_right, exists_const, tBM, tBM0, rAppend, rPop, rIxL, rIxT, rIxS, rSlL, rSlT, rSlS, rCat, rCatT, tKGet, cx_w, bk_w, tDGet, tDisp, tPairs, tDNewK, spWrS]
  refine ⟨_, SqT.of ha, sv, at1, _, hs, hf2, fun H1 e1 => hN _ _ ?_⟩
  refine seq_abs fun N hN => ?_
  simp only [tSeq, tFor_eq, tLC_eq, iRng1, iRng2, iList, iTup, iStr, tIfS, tRet, tRetN, tNext, tAsg, gName, tVar, tC, tOp, rI0, rI, tTest, tB, rEq, rNe, tCall, tCons, tNil, tCB, tLst, tTup, tAnd, tOr, tNot, tAndV, tOrV, tNotV, tIf, tDrop, tSl, tPart, tNoPart, tChain, tUn, rU, L2.start, cx_K, bk_K, cx_calm, bk_calm, lenV_str, and_assoc, Option.join, List.length_map, List.length_append, decide_eq_true_eq, Bool.false_eq_true, if_false, if_true, Bool.not_true, Bool.not_false, Bool.not_eq_true', decide_eq_false_iff_not, Bool.true_eq_false, List.length_cons, List.length_nil, List.map_cons, List.map_nil, List.replicate, List.cons_append, List.nil_append, List.append_nil, List.getElem?_cons_zero, List.getElem?_cons_succ, List.set_cons_zero, List.set_cons_succ, Nat.reduceSub, Nat.reduceAdd, Option.some.injEq, V.int.injEq, V.str.injEq, V.bl.injEq, V.ref.injEq, List.cons.injEq, and_true, true_and, exists_eq_left', exists_eq_left, exists_and_left, exists_eq_right, exists_const, tBM, tBM0, rAppend, rPop, rIxL, rIxT, rIxS, rSlL, rSlT, rSlS, rCat, rCatT, tKGet, cx_w, bk_w, tDGet, tDisp, tPairs, tDNewK]
  refine ⟨_, SqT.of (e1 _ _ ha), .ref l, at0, !us.isEmpty, .inl ⟨_, SqL.of (e1 _ _ hl), rfl⟩, ?_⟩
  by_cases h0 : r.1 = []
  · have hus : us = [] := List.eq_nil_of_length_eq_zero (by rw [hul, h0]; rfl)
    subst hus
    rw [if_pos (by rfl)]
    have er : ruleS r = sayS r.2 := by
      obtain ⟨r1, r2⟩ := r
      simp only at h0
      subst h0
      exact ruleS_nil r2
    rw [← er]
    exact q _ e1
  have hus : us ≠ [] := fun z => h0 (List.eq_nil_of_length_eq_zero (by rw [← hul, z]; rfl))
  rw [if_neg (by cases us with | nil => exact absurd rfl hus | cons x y => simp)]
  refine hN _ _ ?_
  simp only [tSeq, tFor_eq, tLC_eq, iRng1, iRng2, iList, iTup, iStr, tIfS, tRet, tRetN, tNext, tAsg, gName, tVar, tC, tOp, rI0, rI, tTest, tB, rEq, rNe, tCall, tCons, tNil, tCB, tLst, tTup, tAnd, tOr, tNot, tAndV, tOrV, tNotV, tIf, tDrop, tSl, tPart, tNoPart, tChain, tUn, rU, L2.start, cx_K, bk_K, cx_calm, bk_calm, lenV_str, and_assoc, Option.join, List.length_map, List.length_append, decide_eq_true_eq, Bool.false_eq_true, if_false, if_true, Bool.not_true, Bool.not_false, Bool.not_eq_true', decide_eq_false_iff_not, Bool.true_eq_false, List.length_cons, List.length_nil, List.map_cons, List.map_nil, List.replicate, List.cons_append, List.nil_append, List.append_nil, List.getElem?_cons_zero, List.getElem?_cons_succ, List.set_cons_zero, List.set_cons_succ, Nat.reduceSub, Nat.reduceAdd, Option.some.injEq, V.int.injEq, V.str.injEq, V.bl.injEq, V.ref.injEq, List.cons.injEq, and_true, true_and, exists_eq_left', exists_eq_left, exists_and_left, exists_eq_right, exists_const, tBM, tBM0, rAppend, rPop, rIxL, rIxT, rIxS, rSlL, rSlT, rSlS, rCat, rCatT, tKGet, cx_w, bk_w, tDGet, tDisp, tPairs, tDNewK]
  refine ⟨rfl, _, SqT.of (e1 _ _ ha), .ref l, at0, l, rfl, ⟨_, SqL.of (e1 _ _ hl)⟩, ?_⟩
  refine lc_list (xs := us) (fun i ys σ H' => Same H1 H' ∧ ys = ((r.1.take i).map sayS).map V.str ∧ ∃ o, σ = [o]) ⟨Same.refl _, rfl, _, rfl⟩ (small (by omega)) (fun i ys σ H' e => ?_) (fun i ys σ H' e => SqL.of ((e1.trans e.1) _ _ hl)) (fun i x ys σ H' C hx e hC => ?_) (fun ys σ H' e p3 hp3 => ?_)
  · rw [e.2.1, List.length_map, List.length_map, List.length_take]
    omega
  · obtain ⟨es, hys, o, rfl⟩ := e
    obtain ⟨p, hp, hx'⟩ := SAts.getV hu hx
    simp only [tSeq, tFor_eq, tLC_eq, iRng1, iRng2, iList, iTup, iStr, tIfS, tRet, tRetN, tNext, tAsg, gName, tVar, tC, tOp, rI0, rI, tTest, tB, rEq, rNe, tCall, tCons, tNil, tCB, tLst, tTup, tAnd, tOr, tNot, tAndV, tOrV, tNotV, tIf, tDrop, tSl, tPart, tNoPart, tChain, tUn, rU, L2.start, cx_K, bk_K, cx_calm, bk_calm, lenV_str, and_assoc, Option.join, List.length_map, List.length_append, decide_eq_true_eq, Bool.false_eq_true, if_false, if_true, Bool.not_true, Bool.not_false, Bool.not_eq_true', decide_eq_false_iff_not, Bool.true_eq_false, List.length_cons, List.length_nil, List.map_cons, List.map_nil, List.replicate, List.cons_append, List.nil_append, List.append_nil, List.getElem?_cons_zero, List.getElem?_cons_succ, List.set_cons_zero, List.set_cons_succ, Nat.reduceSub, Nat.reduceAdd, Option.some.injEq, V.int.injEq, V.str.injEq, V.bl.injEq, V.ref.injEq, List.cons.injEq, and_true, true_and, exists_eq_left', exists_eq_left, exists_and_left, exists_eq_right, exists_const, tBM, tBM0, rAppend, rPop, rIxL, rIxT, rIxS, rSlL, rSlT, rSlS, rCat, rCatT, tKGet, cx_w, bk_w, tDGet, tDisp, tPairs, tDNewK, spWrS]
    refine ⟨p, DAt.same (e1.trans es) hx', hf1 p (List.mem_of_getElem? hp), fun H3 e3 => hC _ _ _ ⟨es.trans e3, ?_, _, rfl⟩⟩
    obtain ⟨il, ie⟩ := List.getElem?_eq_some_iff.mp hp
    rw [hys, List.take_succ_eq_append_getElem il, ie, List.map_append, List.map_append]
    rfl
  · obtain ⟨es, hys, o, rfl⟩ := e
    rw [List.take_of_length_le (by omega)] at hys
    subst hys
    have ej : Txt.join ", " (r.1.map sayS) = prS r.1 := by
      have : r.1.map sayS = (r.1.map wrSay).map toS := by rw [List.map_map]; rfl
      rw [this, s_comma]
      exact join_toS _ _
    have pl := prS_len (m := 24000) r.1 fun y hy => (sl y (hf1 y hy)).2
    have tb : r.1.length * (24000 + 2) ≤ 10 * 24002 := Nat.mul_le_mul_right _ hlen
    have s2 := sl _ hf2
    have l4 : (" => " : Str).length = 4 := by decide +kernel
    have l2 : (", " : Str).length = 2 := by decide +kernel
    have hsum : ((r.1.map sayS).map (fun x => x.length)).sum ≤ 24000 * r.1.length := by
      have go : ∀ us : List (Tm × Tm), (∀ t ∈ us, t ∈ r.1) → ((us.map sayS).map (fun x => x.length)).sum ≤ 24000 * us.length := by
        intro us
        induction us with
        | nil => intro _; simp
        | cons u r' ih =>
          intro hu
          have a1 := (sl u (hf1 u (hu u (by simp)))).2
          have a2 := ih fun t ht => hu t (by simp [ht])
          rw [List.map_cons, List.map_cons, List.sum_cons, List.length_cons]
          omega
      exact go r.1 fun _ h => h
    refine ⟨p3, rfl, r.1.map sayS, SqL.of upd_same, ?_, ?_⟩
    · rw [l2, List.length_map]
      omega
    · rw [ej, l4, len_app, l4, ← ruleS_cons _ h0]
      exact ⟨big (by omega), big (by omega), q _ ((e1.trans es).trans (same_new hp3 _))⟩
end

end C
set_option Elab.async false
set_option linter.all false
set_option maxRecDepth 100000
set_option maxHeartbeats 8000000
namespace C
open PySem L2
seal PE PT PW PA PS PSs PG PGs PI PPs PO PSet PIf
abbrev s_need : Stmt := top 23
theorem sc_need : FnScope ["held", "words"] ["held", "words"] (defScope s_need) := ⟨rfl, rfl, rfl, by decide +kernel, rfl, by decide +kernel, by decide +kernel⟩
abbrev s_is_name : Stmt := top 7
theorem sc_is_name : FnScope ["text"] ["text"] (defScope s_is_name) := ⟨rfl, rfl, rfl, by decide +kernel, rfl, by decide +kernel, by decide +kernel⟩
abbrev s_Reader_init : Stmt := inClass (top 24) 0
theorem sc_Reader_init : FnScope ["self", "text"] ["self", "text"] (defScope s_Reader_init) := ⟨rfl, rfl, rfl, by decide +kernel, rfl, by decide +kernel, by decide +kernel⟩
abbrev s_Reader_take : Stmt := inClass (top 24) 1
theorem sc_Reader_take : FnScope ["self", "signs"] ["self", "signs"] (defScope s_Reader_take) := ⟨rfl, rfl, rfl, by decide +kernel, rfl, by decide +kernel, by decide +kernel⟩
abbrev s_Reader_leaf : Stmt := inClass (top 24) 4
theorem sc_Reader_leaf : FnScope ["self", "start", "word"] ["self"] (defScope s_Reader_leaf) := ⟨rfl, rfl, rfl, by decide +kernel, rfl, by decide +kernel, by decide +kernel⟩
def inL (c : Nat) : Bool := !(Builtin.Str.occurrences "abcdefghijklmnopqrstuvwxyz" ⟨#[c]⟩ 0 ("abcdefghijklmnopqrstuvwxyz" : Str).length 1).isEmpty
theorem inL_eq (c : Nat) : inL c = isL c := by
  have e : ("abcdefghijklmnopqrstuvwxyz" : Str).cps.toList = (List.range 26).map (· + 97) := by decide +kernel
  rw [Bool.eq_iff_iff]
  unfold inL
  rw [StrLaws.found_iff, isL_iff]
  constructor
  · rintro ⟨i, h1, h2⟩
    have := (StrLaws.subAt_one "abcdefghijklmnopqrstuvwxyz" c i).mp ⟨h1, h2⟩
    rw [e] at this
    have hm := List.mem_of_getElem? this
    obtain ⟨j, hj, rfl⟩ := List.mem_map.mp hm
    have := List.mem_range.mp hj
    omega
  · intro h
    refine ⟨c - 97, (StrLaws.subAt_one "abcdefghijklmnopqrstuvwxyz" c (c - 97)).mpr ?_⟩
    rw [e, List.getElem?_map, List.getElem?_range (by omega)]
    show some (c - 97 + 97) = some c
    rw [Nat.sub_add_cancel h.1]
def isN (x : Str) : Bool := decide (1 ≤ x.length) && decide (x.length ≤ 8) && x.cps.toList.all inL && !decide (x = "none") && !decide (x = "all")
def spIs : Sp := fun vs H Q _ => ∃ x : Str, vs = [.str x] ∧ x.length ≤ 5000 ∧ ∀ H', Same H H' → Q (.bl (isN x)) H'
def spNeed : Sp := fun vs H Q _ => ∃ x : Str, vs = [.bl true, .str x] ∧ Q .non H
def spRInit (C : Addr) : Sp := fun vs H Q _ => ∃ (r dx : Addr) (x : Cs), vs = [.ref r, .str (toS x)] ∧ H r = some (.ins C dx []) ∧ ∀ H', SameX r H H' → RdAt C H' r x 0 → Q .non H'
def spTake (C : Addr) : Sp := fun vs H Q _ => ∃ (r : Addr) (x y : Cs) (k : Nat), vs = [.ref r, .str (toS y)] ∧ RdAt C H r x k ∧ k ≤ x.length ∧ x.length ≤ 5000 ∧ y.length ≤ 10 ∧
  (y.isPrefixOf (x.drop k) = true → ∀ H', SameX r H H' → RdAt C H' r x (k + y.length) → Q (.bl true) H') ∧ (y.isPrefixOf (x.drop k) = false → Q (.bl false) H)
def spLeafR (C : Addr) : Sp := fun vs H Q _ => ∃ (r : Addr) (x : Cs) (k : Nat) (t : Tm) (rest : Cs), vs = [.ref r] ∧ RdAt C H r x k ∧ k ≤ x.length ∧ x.length ≤ 5000 ∧ pLeaf (x.drop k) = some (t, rest) ∧
  ∀ v H', SameX r H H' → RdAt C H' r x (x.length - rest.length) → TAt H' t v → Q v H'
/-- the class as the top has made it -/
structure RdC (K : PySem.W.Frag) (C : Addr) : Prop where
  cl : Cls K C
  nT : NoAttr K C "text"
  nA : NoAttr K C "at"
theorem isN_no {x : Str} (h : ¬ (1 ≤ x.length ∧ x.length ≤ 8)) : isN x = false := by
  unfold isN
  by_cases h1 : 1 ≤ x.length
  · have h2 : ¬ x.length ≤ 8 := fun z => h ⟨h1, z⟩
    simp [h2]
  · simp [h1]
section
variable {P : Program} {w : World} {K : PySem.W.Frag} {mg : Str → Option Value} {base : Heap} {f : Addr} {fd : FuncData}
theorem ok_need (F : Fun K "need" "need" s_need f fd) : FnOk P w K mg base CX0 1 f fd ["held", "words"] spNeed := by
  refine F.ok sc_need (fun vs H Q E h => ?_) (fun cdv A outer s H vs Q E hr h => ?_)
  · obtain ⟨x, rfl, _⟩ := h
    rfl
  obtain ⟨x, rfl, q⟩ := h
  refine ⟨_, (pss_one (ps_if (pt_not (pt_val (pv 0))) (pss_one ps_never) pss_nil)), ?_⟩
  simp only [tSeq, tFor_eq, tLC_eq, iRng1, iRng2, iList, iTup, iStr, tIfS, tRet, tRetN, tNext, tAsg, gName, tVar, tC, tOp, rI0, rI, tTest, tB, rEq, rNe, tCall, tCons, tNil, tCB, tLst, tTup, tAnd, tOr, tNot, tAndV, tOrV, tNotV, tIf, tDrop, tSl, tPart, tNoPart, tChain, tUn, rU, L2.start, cx_K, bk_K, cx_calm, bk_calm, lenV_str, and_assoc, Option.join, List.length_map, List.length_append, decide_eq_true_eq, Bool.false_eq_true, if_false, if_true, Bool.not_true, Bool.not_false, Bool.not_eq_true', decide_eq_false_iff_not, Bool.true_eq_false, List.length_cons, List.length_nil, List.map_cons, List.map_nil, List.replicate, List.cons_append, List.nil_append, List.append_nil, List.getElem?_cons_zero, List.getElem?_cons_succ, List.set_cons_zero, List.set_cons_succ, Nat.reduceSub, Nat.reduceAdd, Option.some.injEq, V.int.injEq, V.str.injEq, V.bl.injEq, V.ref.injEq, List.cons.injEq, and_true, true_and, exists_eq_left', exists_eq_left, exists_and_left, exists_eq_right, exists_const, tBM, tBM0, rAppend, rPop, rIxL, rIxT, rIxS, rSlL, rSlT, rSlS, rCat, rCatT, tKGet, cx_w, bk_w, tDGet, tDisp, tPairs, tDNewK]
  exact q
theorem ok_is_name (bi : Bi mg) {aW : Addr} (g_LETTERS : Gc mg "LETTERS" (.str "abcdefghijklmnopqrstuvwxyz")) (g_LONGEST_NAME : Gc mg "LONGEST_NAME" (.int 8)) (g_WORDS : Gc mg "WORDS" (.ref aW)) (sW : ∀ H, SqT K H aW [.str "none", .str "all"])
    (F : Fun K "is_name" "is_name" s_is_name f fd) : FnOk P w K mg base CX0 1 f fd ["text"] spIs := by
  refine F.ok sc_is_name (fun vs H Q E h => ?_) (fun cdv A outer s H vs Q E hr h => ?_)
  · obtain ⟨x, rfl, _⟩ := h
    rfl
  obtain ⟨x, rfl, hx, q⟩ := h
  refine ⟨_, (pss_cons (ps_if (PW.pt (pw_or (pt_not (pt_chain op_le op_le pe_int (pe_callB call_len rfl bi.len bt_len (pa_cons (pv 0) pa_nil)) (pe_gc g_LONGEST_NAME rfl))) (pw_or1 (pt_cmpR op_in_seq (pv 0) (pe_gc g_WORDS rfl) (by with_unfolding_all rfl))))) (pss_one (ps_ret pe_bl)) pss_nil) (pss_one (ps_ret (pe_callB call_all rfl bi.all bt_all (pa_cons (pe_comp ["sign"] [] [] (pi_str (pv 0)) (fun _ _ _ _ nd => pg_name (i := 0) nd rfl (Or.inl rfl)) (fun _ _ _ _ => pif_nil) (fun _ _ _ _ => (pe_cmpR op_in_str (pv 0) (pe_gc g_LETTERS rfl) (by with_unfolding_all rfl)))) pa_nil))))), ?_⟩
  simp only [tSeq, tFor_eq, tLC_eq, iRng1, iRng2, iList, iTup, iStr, tIfS, tRet, tRetN, tNext, tAsg, gName, tVar, tC, tOp, rI0, rI, tTest, tB, rEq, rNe, tCall, tCons, tNil, tCB, tLst, tTup, tAnd, tOr, tNot, tAndV, tOrV, tNotV, tIf, tDrop, tSl, tPart, tNoPart, tChain, tUn, rU, L2.start, cx_K, bk_K, cx_calm, bk_calm, lenV_str, and_assoc, Option.join, List.length_map, List.length_append, decide_eq_true_eq, Bool.false_eq_true, if_false, if_true, Bool.not_true, Bool.not_false, Bool.not_eq_true', decide_eq_false_iff_not, Bool.true_eq_false, List.length_cons, List.length_nil, List.map_cons, List.map_nil, List.replicate, List.cons_append, List.nil_append, List.append_nil, List.getElem?_cons_zero, List.getElem?_cons_succ, List.set_cons_zero, List.set_cons_succ, Nat.reduceSub, Nat.reduceAdd, Option.some.injEq, V.int.injEq, V.str.injEq, V.bl.injEq, V.ref.injEq, List.cons.injEq, and_true, true_and, exists_eq_left', exists_eq_left, exists_and_left, exists_eq_right, exists_const]
  refine ⟨big (by omega), ?_⟩
  have no : ¬ (1 ≤ x.length ∧ x.length ≤ 8) → Q (.bl false) H := fun h => by rw [← isN_no h]; exact q H (Same.refl H)
  split
  · rename_i h1
    split
    · rename_i h2
      exact no (fun z => h2 (by omega))
    · rename_i h2
      refine ⟨aW, _, rfl, .inr (sW H), rfl, rfl, _, rfl, ?_⟩
      have e : (if false = true then !inV (V.str x) [V.str "none", V.str "all"] else inV (V.str x) [V.str "none", V.str "all"]) = (decide (x = "none") || decide (x = "all")) := by
        simp only [Bool.false_eq_true, if_false, inV, List.any_cons, List.any_nil, eqV_str, Bool.or_false]
      rw [e]
      split
      · rename_i h3
        have e2 : isN x = false := by
          unfold isN
          rcases (Bool.or_eq_true _ _).mp h3 with h3 | h3
          · rw [h3, Bool.not_true, Bool.and_false, Bool.false_and]
          · rw [h3, Bool.not_true, Bool.and_false]
        rw [← e2]
        exact q H (Same.refl H)
      · rename_i h3
        refine lc_str (z := x) (fun i ys σ H' => H' = H ∧ ys = ((x.cps.toList.take i).map inL).map V.bl ∧ ∃ o, σ = [o]) ⟨rfl, rfl, none, rfl⟩ (big (show x.length ≤ 1000000 by omega)) (fun i ys σ H' e => ?_) (fun i c ys σ H' C hc e hC => ?_) (fun ys σ H' e p hp => ?_)
        · rw [e.2.1, List.length_map, List.length_map, List.length_take]
          omega
        · obtain ⟨eH, e, o, rfl⟩ := e
          simp only [tSeq, tFor_eq, tLC_eq, iRng1, iRng2, iList, iTup, iStr, tIfS, tRet, tRetN, tNext, tAsg, gName, tVar, tC, tOp, rI0, rI, tTest, tB, rEq, rNe, tCall, tCons, tNil, tCB, tLst, tTup, tAnd, tOr, tNot, tAndV, tOrV, tNotV, tIf, tDrop, tSl, tPart, tNoPart, tChain, tUn, rU, L2.start, cx_K, bk_K, cx_calm, bk_calm, lenV_str, and_assoc, Option.join, List.length_map, List.length_append, decide_eq_true_eq, Bool.false_eq_true, if_false, if_true, Bool.not_true, Bool.not_false, Bool.not_eq_true', decide_eq_false_iff_not, Bool.true_eq_false, List.length_cons, List.length_nil, List.map_cons, List.map_nil, List.replicate, List.cons_append, List.nil_append, List.append_nil, List.getElem?_cons_zero, List.getElem?_cons_succ, List.set_cons_zero, List.set_cons_succ, Nat.reduceSub, Nat.reduceAdd, Option.some.injEq, V.int.injEq, V.str.injEq, V.bl.injEq, V.ref.injEq, List.cons.injEq, and_true, true_and, exists_eq_left', exists_eq_left, exists_and_left, exists_eq_right, exists_const]
          refine hC _ _ _ ⟨eH, ?_, _, rfl⟩
          have hi : i < x.cps.toList.length := by simpa using (Array.getElem?_eq_some_iff.mp hc).1
          have hc' : x.cps.toList[i] = c := by simpa using (Array.getElem?_eq_some_iff.mp hc).2
          rw [e, List.take_succ_eq_append_getElem hi, List.map_append, List.map_append, hc']
          rfl
        · obtain ⟨rfl, e, _⟩ := e
          refine ⟨p, rfl, x.cps.toList.map inL, SqL.of ?_, ?_⟩
          · rw [upd_same, e, List.take_of_length_le (by simp)]
          · have e2 : isN x = (x.cps.toList.map inL).all id := by
              have h4 := Bool.or_eq_false_iff.mp (Bool.eq_false_iff.mpr h3)
              unfold isN
              rw [h4.1, h4.2, decide_eq_true (show 1 ≤ x.length by omega), decide_eq_true (show x.length ≤ 8 by omega), List.all_map]
              simp only [Bool.true_and, Bool.not_false, Bool.and_true]
              rfl
            rw [← e2]
            exact q _ (same_new hp _)
  · rename_i h1
    exact no (fun z => h1 (by omega))
theorem ok_rinit {C : Addr} (T : RdC K C) (F : Fun K "__init__" "Reader.__init__" s_Reader_init f fd) : FnOk P w K mg base CX0 1 f fd ["self", "text"] (spRInit C) := by
  refine F.ok sc_Reader_init (fun vs H Q E h => ?_) (fun cdv A outer s H vs Q E hr h => ?_)
  · obtain ⟨r, dx, x, rfl, _⟩ := h
    rfl
  obtain ⟨r, dx, x, rfl, hr', q⟩ := h
  refine ⟨_, (pss_cons (ps_fld (pv 0) (pv 1) rfl) (pss_one (ps_fld (pv 0) pe_int rfl))), ?_⟩
  simp only [tSeq, tFor_eq, tLC_eq, iRng1, iRng2, iList, iTup, iStr, tIfS, tRet, tRetN, tNext, tAsg, gName, tVar, tC, tOp, rI0, rI, tTest, tB, rEq, rNe, tCall, tCons, tNil, tCB, tLst, tTup, tAnd, tOr, tNot, tAndV, tOrV, tNotV, tIf, tDrop, tSl, tPart, tNoPart, tChain, tUn, rU, L2.start, cx_K, bk_K, cx_calm, bk_calm, lenV_str, and_assoc, Option.join, List.length_map, List.length_append, decide_eq_true_eq, Bool.false_eq_true, if_false, if_true, Bool.not_true, Bool.not_false, Bool.not_eq_true', decide_eq_false_iff_not, Bool.true_eq_false, List.length_cons, List.length_nil, List.map_cons, List.map_nil, List.replicate, List.cons_append, List.nil_append, List.append_nil, List.getElem?_cons_zero, List.getElem?_cons_succ, List.set_cons_zero, List.set_cons_succ, Nat.reduceSub, Nat.reduceAdd, Option.some.injEq, V.int.injEq, V.str.injEq, V.bl.injEq, V.ref.injEq, List.cons.injEq, and_true, true_and, exists_eq_left', exists_eq_left, exists_and_left, exists_eq_right, exists_const, tBM, tBM0, rAppend, rPop, rIxL, rIxT, rIxS, rSlL, rSlT, rSlS, rCat, rCatT, tKGet, cx_w, bk_w, tDGet, tDisp, tPairs, tDNewK, sFld]
  refine ⟨C, dx, [], hr', T.cl, T.nT, by decide, C, dx, _, upd_same, T.cl, T.nA, by show 1 < 1000; decide, ?_⟩
  rw [rd_new]
  exact q _ ((SameX.refl r H).upd.upd) ⟨dx, upd_same⟩
theorem ok_take (bi : Bi mg) {C : Addr} (T : RdC K C) (F : Fun K "take" "Reader.take" s_Reader_take f fd) : FnOk P w K mg base CX0 1 f fd ["self", "signs"] (spTake C) := by
  refine F.ok sc_Reader_take (fun vs H Q E h => ?_) (fun cdv A outer s H vs Q E hr h => ?_)
  · obtain ⟨r, x, y, k, rfl, _⟩ := h
    rfl
  obtain ⟨r, x, y, k, rfl, ⟨dx, hr'⟩, hk, hx, hy, q1, q2⟩ := h
  refine ⟨_, (pss_cons (ps_if (pt_not (pt_val (pe_bm PySem.F.plainAttrs_str PySem.F.slot_str_startswith PySem.F.type_str_startswith mt_starts3 (pe_fld (pv 0) rfl) (pa_cons (pv 1) (pa_cons (pe_fld (pv 0) rfl) pa_nil))))) (pss_one (ps_ret pe_bl)) pss_nil) (pss_cons (ps_fldaug (pv 0) (pe_callB call_len rfl bi.len bt_len (pa_cons (pv 1) pa_nil)) in_add) (pss_one (ps_ret pe_bl)))), ?_⟩
  simp only [tSeq, tFor_eq, tLC_eq, iRng1, iRng2, iList, iTup, iStr, tIfS, tRet, tRetN, tNext, tAsg, gName, tVar, tC, tOp, rI0, rI, tTest, tB, rEq, rNe, tCall, tCons, tNil, tCB, tLst, tTup, tAnd, tOr, tNot, tAndV, tOrV, tNotV, tIf, tDrop, tSl, tPart, tNoPart, tChain, tUn, rU, L2.start, cx_K, bk_K, cx_calm, bk_calm, lenV_str, and_assoc, Option.join, List.length_map, List.length_append, decide_eq_true_eq, Bool.false_eq_true, if_false, if_true, Bool.not_true, Bool.not_false, Bool.not_eq_true', decide_eq_false_iff_not, Bool.true_eq_false, List.length_cons, List.length_nil, List.map_cons, List.map_nil, List.replicate, List.cons_append, List.nil_append, List.append_nil, List.getElem?_cons_zero, List.getElem?_cons_succ, List.set_cons_zero, List.set_cons_succ, Nat.reduceSub, Nat.reduceAdd, Option.some.injEq, V.int.injEq, V.str.injEq, V.bl.injEq, V.ref.injEq, List.cons.injEq, and_true, true_and, exists_eq_left', exists_eq_left, exists_and_left, exists_eq_right, exists_const, tBM, tBM0, rAppend, rPop, rIxL, rIxT, rIxS, rSlL, rSlT, rSlS, rCat, rCatT, tKGet, cx_w, bk_w, tDGet, tDisp, tPairs, tDNewK, sFld, tFld, sFldAug, rAdd]
  refine ⟨C, dx, _, hr', T.cl, T.nT, _, rd_text x k, rfl, C, dx, _, hr', T.cl, T.nA, _, rd_at x k, _, rfl, _, rfl, ?_⟩
  rw [sw_eq x y k hk]
  by_cases hp : y.isPrefixOf (x.drop k) = true
  · rw [if_neg (by rw [hp]; decide)]
    refine ⟨C, dx, _, hr', T.cl, T.nA, _, rd_at x k, by rw [toS_len]; exact big (by omega), _, rfl, dx, _, hr', by show 2 < 1000; decide, ?_⟩
    rw [toS_len, show (k : Int) + (y.length : Int) = ((k + y.length : Nat) : Int) by omega, rd_put]
    exact q1 hp _ (SameX.refl r H).upd ⟨dx, upd_same⟩
  · rw [if_pos (Bool.eq_false_iff.mpr hp)]
    exact q2 (Bool.eq_false_iff.mpr hp)
theorem ok_leafR (bi : Bi mg) {C aW : Addr} (T : RdC K C) (g_LETTERS : Gc mg "LETTERS" (.str "abcdefghijklmnopqrstuvwxyz")) (g_WORDS : Gc mg "WORDS" (.ref aW)) (sW : ∀ H, SqT K H aW [.str "none", .str "all"])
    (h_need : Has P w K mg base 1 "need" ["held", "words"] spNeed) (h_is_name : Has P w K mg base 1 "is_name" ["text"] spIs) (F : Fun K "leaf" "Reader.leaf" s_Reader_leaf f fd) : FnOk P w K mg base CX0 2 f fd ["self"] (spLeafR C) := by
  refine F.ok sc_Reader_leaf (fun vs H Q E h => ?_) (fun cdv A outer s H vs Q E hr h => ?_)
  · obtain ⟨r, x, k, t, rest, rfl, _⟩ := h
    rfl
  obtain ⟨r, x, k, t, rest, rfl, ⟨dx, hr'⟩, hk, hx, hp, q⟩ := h
  refine ⟨_, (pss_cons (ps_set (i := 1) sc_Reader_leaf.nd rfl (Or.inl rfl) (pe_fld (pv 0) rfl)) (pss_cons (ps_while PassesOwn.never (PW.pt (pw_and (pt_cmpR op_lt (pe_fld (pv 0) rfl) (pe_callB call_len rfl bi.len bt_len (pa_cons (pe_fld (pv 0) rfl) pa_nil)) (nomark _)) (pw_and1 (pt_cmpR op_in_str (pe_ix ix_str (pe_fld (pv 0) rfl) (pe_fld (pv 0) rfl) (fun _ _ => rfl)) (pe_gc g_LETTERS rfl) (by with_unfolding_all rfl))))) (pss_one (ps_fldaug (pv 0) pe_int in_add))) (pss_cons (ps_set (i := 2) sc_Reader_leaf.nd rfl (Or.inl rfl) (pe_slice sl_str (pe_fld (pv 0) rfl) (po_some (pv 1)) (po_some (pe_fld (pv 0) rfl)))) (pss_cons (ps_if (pt_cmpR op_in_seq (pv 2) (pe_gc g_WORDS rfl) (by with_unfolding_all rfl)) (pss_one (ps_ret (pe_tup (pa_cons (pv 2) pa_nil)))) pss_nil) (pss_cons (ps_expr (pe_callH h_need (hr.mono (by omega)) rfl (pa_cons (pe_callH h_is_name (hr.mono (by omega)) rfl (pa_cons (pv 2) pa_nil)) (pa_cons pe_str pa_nil)))) (pss_one (ps_ret (pe_tup (pa_cons pe_str (pa_cons (pv 2) pa_nil)))))))))), ?_⟩
  refine seq_abs fun N hN => ?_
  simp only [tSeq, tFor_eq, tLC_eq, iRng1, iRng2, iList, iTup, iStr, tIfS, tRet, tRetN, tNext, tAsg, gName, tVar, tC, tOp, rI0, rI, tTest, tB, rEq, rNe, tCall, tCons, tNil, tCB, tLst, tTup, tAnd, tOr, tNot, tAndV, tOrV, tNotV, tIf, tDrop, tSl, tPart, tNoPart, tChain, tUn, rU, L2.start, cx_K, bk_K, cx_calm, bk_calm, lenV_str, and_assoc, Option.join, List.length_map, List.length_append, decide_eq_true_eq, Bool.false_eq_true, if_false, if_true, Bool.not_true, Bool.not_false, Bool.not_eq_true', decide_eq_false_iff_not, Bool.true_eq_false, List.length_cons, List.length_nil, List.map_cons, List.map_nil, List.replicate, List.cons_append, List.nil_append, List.append_nil, List.getElem?_cons_zero, List.getElem?_cons_succ, List.set_cons_zero, List.set_cons_succ, Nat.reduceSub, Nat.reduceAdd, Option.some.injEq, V.int.injEq, V.str.injEq, V.bl.injEq, V.ref.injEq, List.cons.injEq, and_true, true_and, exists_eq_left', exists_eq_left, exists_and_left, exists_eq_right, exists_const, tBM, tBM0, rAppend, rPop, rIxL, rIxT, rIxS, rSlL, rSlT, rSlS, rCat, rCatT, tKGet, cx_w, bk_w, tDGet, tDisp, tPairs, tDNewK, tFld]
  refine ⟨C, dx, _, hr', T.cl, T.nA, _, rd_at x k, hN _ _ ?_⟩
  have hwl : ((x.drop k).takeWhile isL).length ≤ x.length - k := by
    have := tw_le (p := isL) (x.drop k)
    rw [List.length_drop] at this
    exact this
  have hxl : (toS x).length = x.length := toS_len x
  refine seq_join (fun σ H' => SameX r H H' ∧ RdAt C H' r x (k + ((x.drop k).takeWhile isL).length) ∧ σ = [some (V.ref r), some (V.int k), none]) (fun N hN => ?_) (fun σ H' h => ?_)
  · refine ⟨fun m σ H' => SameX r H H' ∧ (∃ j, j + m = ((x.drop k).takeWhile isL).length ∧ RdAt C H' r x (k + j)) ∧ σ = [some (V.ref r), some (V.int k), none], ⟨((x.drop k).takeWhile isL).length, SameX.refl r H, ⟨0, by omega, dx, hr'⟩, rfl⟩, fun m σ H' h => ?_⟩
    obtain ⟨es, ⟨j, hj, dj, hrj⟩, rfl⟩ := h
    simp only [tSeq, tFor_eq, tLC_eq, iRng1, iRng2, iList, iTup, iStr, tIfS, tRet, tRetN, tNext, tAsg, gName, tVar, tC, tOp, rI0, rI, tTest, tB, rEq, rNe, tCall, tCons, tNil, tCB, tLst, tTup, tAnd, tOr, tNot, tAndV, tOrV, tNotV, tIf, tDrop, tSl, tPart, tNoPart, tChain, tUn, rU, L2.start, cx_K, bk_K, cx_calm, bk_calm, lenV_str, and_assoc, Option.join, List.length_map, List.length_append, decide_eq_true_eq, Bool.false_eq_true, if_false, if_true, Bool.not_true, Bool.not_false, Bool.not_eq_true', decide_eq_false_iff_not, Bool.true_eq_false, List.length_cons, List.length_nil, List.map_cons, List.map_nil, List.replicate, List.cons_append, List.nil_append, List.append_nil, List.getElem?_cons_zero, List.getElem?_cons_succ, List.set_cons_zero, List.set_cons_succ, Nat.reduceSub, Nat.reduceAdd, Option.some.injEq, V.int.injEq, V.str.injEq, V.bl.injEq, V.ref.injEq, List.cons.injEq, and_true, true_and, exists_eq_left', exists_eq_left, exists_and_left, exists_eq_right, exists_const, tBM, tBM0, rAppend, rPop, rIxL, rIxT, rIxS, rSlL, rSlT, rSlS, rCat, rCatT, tKGet, cx_w, bk_w, tDGet, tDisp, tPairs, tDNewK, tFld, sFldAug, rAdd]
    refine ⟨C, dj, _, hrj, T.cl, T.nA, _, rd_at x _, C, dj, _, hrj, T.cl, T.nT, _, rd_text x _, _, ⟨by rw [hxl]; exact big (by omega), rfl⟩, _, rfl, ?_⟩
    rw [hxl]
    by_cases hlt : k + j < x.length
    · rw [if_pos (by omega)]
      refine ⟨C, dj, _, hrj, T.cl, T.nT, _, rd_text x _, C, dj, _, hrj, T.cl, T.nA, _, rd_at x _, ?_⟩
      have hc : x[k + j]? = some x[k + j] := List.getElem?_eq_getElem hlt
      have hci : atI (toS x).cps.toList ((k + j : Nat) : Int) = some x[k + j] := atI_nat (by simpa [toS] using hc)
      refine ⟨_, rfl, _, rfl, by rw [hxl]; exact big (by omega), x[k + j], hci, ?_⟩
      have ein : (!(Builtin.Str.occurrences "abcdefghijklmnopqrstuvwxyz" ⟨#[x[k + j]]⟩ 0 ("abcdefghijklmnopqrstuvwxyz" : Str).length 1).isEmpty) = isL x[k + j] := inL_eq x[k + j]
      have hdj : (x.drop k)[j]? = some x[k + j] := by rw [List.getElem?_drop]; exact hc
      by_cases hL : isL x[k + j] = true
      · rw [if_pos (by rw [hL] at ein; simpa using ein)]
        have hjL : j < ((x.drop k).takeWhile isL).length := by
          by_cases z : j < ((x.drop k).takeWhile isL).length
          · exact z
          · have ej : j = ((x.drop k).takeWhile isL).length := by omega
            obtain ⟨c, h1, h2⟩ := tw_out (p := isL) (s := x.drop k) (by rw [List.length_drop]; omega)
            rw [← ej, hdj] at h1
            cases h1
            rw [hL] at h2
            cases h2
        refine ⟨fun σ' H2 => SameX r H H2 ∧ RdAt C H2 r x (k + (j + 1)) ∧ σ' = [some (V.ref r), some (V.int k), none], fun σ' H2 h => ⟨m - 1, by omega, h.1, ⟨j + 1, by omega, h.2.1⟩, h.2.2⟩, C, dj, _, hrj, T.cl, T.nA, _, rd_at x _, _, rfl, dj, _, hrj, by show 2 < 1000; decide, ?_⟩
        rw [show ((k + j : Nat) : Int) + 1 = ((k + (j + 1) : Nat) : Int) by omega, rd_put]
        exact ⟨es.upd, ⟨dj, upd_same⟩, rfl⟩
      · rw [if_neg (by rw [Bool.eq_false_iff.mpr hL] at ein; simpa using ein)]
        have ej : j = ((x.drop k).takeWhile isL).length := by
          by_cases z : j < ((x.drop k).takeWhile isL).length
          · obtain ⟨c, h1, h2⟩ := tw_in (p := isL) (s := x.drop k) z
            rw [hdj] at h1
            cases h1
            exact absurd h2 hL
          · omega
        refine hN _ _ ⟨es, ⟨dj, ?_⟩, rfl⟩
        rw [← ej]
        exact hrj
    · rw [if_neg (by omega)]
      refine hN _ _ ⟨es, ⟨dj, ?_⟩, rfl⟩
      rw [show k + ((x.drop k).takeWhile isL).length = k + j by omega]
      exact hrj
  · obtain ⟨es, ⟨dx', hr2⟩, rfl⟩ := h
    simp only [tSeq, tFor_eq, tLC_eq, iRng1, iRng2, iList, iTup, iStr, tIfS, tRet, tRetN, tNext, tAsg, gName, tVar, tC, tOp, rI0, rI, tTest, tB, rEq, rNe, tCall, tCons, tNil, tCB, tLst, tTup, tAnd, tOr, tNot, tAndV, tOrV, tNotV, tIf, tDrop, tSl, tPart, tNoPart, tChain, tUn, rU, L2.start, cx_K, bk_K, cx_calm, bk_calm, lenV_str, and_assoc, Option.join, List.length_map, List.length_append, decide_eq_true_eq, Bool.false_eq_true, if_false, if_true, Bool.not_true, Bool.not_false, Bool.not_eq_true', decide_eq_false_iff_not, Bool.true_eq_false, List.length_cons, List.length_nil, List.map_cons, List.map_nil, List.replicate, List.cons_append, List.nil_append, List.append_nil, List.getElem?_cons_zero, List.getElem?_cons_succ, List.set_cons_zero, List.set_cons_succ, Nat.reduceSub, Nat.reduceAdd, Option.some.injEq, V.int.injEq, V.str.injEq, V.bl.injEq, V.ref.injEq, List.cons.injEq, and_true, true_and, exists_eq_left', exists_eq_left, exists_and_left, exists_eq_right, exists_const, tBM, tBM0, rAppend, rPop, rIxL, rIxT, rIxS, rSlL, rSlT, rSlS, rCat, rCatT, tKGet, cx_w, bk_w, tDGet, tDisp, tPairs, tDNewK, tFld, rIn]
    refine ⟨C, dx', _, hr2, T.cl, T.nT, _, rd_text x _, C, dx', _, hr2, T.cl, T.nA, _, rd_at x _, _, rfl, _, rfl, by rw [hxl]; exact big (by omega), ?_⟩
    have esl : Txt.slice (toS x) (some (k : Int)) (some ((k + ((x.drop k).takeWhile isL).length : Nat) : Int)) = toS ((x.drop k).takeWhile isL) := by
      rw [slice_toS x (by omega) (by omega), show k + ((x.drop k).takeWhile isL).length - k = ((x.drop k).takeWhile isL).length by omega, tw_take]
    rw [esl]
    refine ⟨_, .inr (sW H'), rfl, rfl, ?_⟩
    have hwd : ∀ c ∈ (x.drop k).takeWhile isL, isL c = true := fun c hc => List.all_eq_true.mp (List.all_takeWhile (p := isL) (l := x.drop k)) c hc
    have hdl := dw_len (p := isL) (x.drop k)
    rw [List.length_drop] at hdl
    have hrd : rest = (x.drop k).dropWhile isL := by
      unfold pLeaf at hp
      simp only at hp
      split at hp
      · cases hp; rfl
      · split at hp
        · cases hp; rfl
        · split at hp
          · cases hp; rfl
          · cases hp
    have hrl : x.length - rest.length = k + ((x.drop k).takeWhile isL).length := by rw [hrd]; omega
    have rd2 : ∀ H2, Same H' H2 → RdAt C H2 r x (x.length - rest.length) := fun H2 e => by rw [hrl]; exact ⟨dx', e _ _ hr2⟩
    unfold pLeaf at hp
    simp only at hp
    generalize (x.drop k).takeWhile isL = wd at hp hwd
    have ein : inV (V.str (toS wd)) [V.str "none", V.str "all"] = (decide (toS wd = "none") || decide (toS wd = "all")) := by
      simp only [inV, List.any_cons, List.any_nil, eqV_str, Bool.or_false]
    rw [ein]
    have s0 : ("none" : Str) = toS cNone := by decide +kernel
    have s1 : ("all" : Str) = toS cAll := by decide +kernel
    by_cases h0 : wd = cNone
    · rw [if_pos h0] at hp
      cases hp
      subst h0
      rw [if_pos (by rw [s0]; simp)]
      refine ⟨small (by decide), fun p hp2 => q _ _ (es.trans (same_new hp2 _).x) (rd2 _ (same_new hp2 _)) (TAt.mkNode (vs := []) ?_ rfl)⟩
      rw [upd_same, s0]
    · rw [if_neg h0] at hp
      by_cases h1 : wd = cAll
      · rw [if_pos h1] at hp
        cases hp
        subst h1
        rw [if_pos (by rw [s1]; simp)]
        refine ⟨small (by decide), fun p hp2 => q _ _ (es.trans (same_new hp2 _).x) (rd2 _ (same_new hp2 _)) (TAt.mkNode (vs := []) ?_ rfl)⟩
        rw [upd_same, s1]
      · rw [if_neg h1] at hp
        by_cases h2 : nmOk wd = true
        · rw [if_pos h2] at hp
          cases hp
          have n0 : toS wd ≠ "none" := fun e => h0 (toS_inj (e.trans s0))
          have n1 : toS wd ≠ "all" := fun e => h1 (toS_inj (e.trans s1))
          rw [if_neg (by simp [n0, n1])]
          unfold nmOk at h2
          simp only [Bool.and_eq_true, decide_eq_true_eq] at h2
          have eN : isN (toS wd) = true := by
            unfold isN
            rw [toS_len, decide_eq_true h2.1, decide_eq_true h2.2, decide_eq_false n0, decide_eq_false n1]
            have : (toS wd).cps.toList.all inL = true := by
              rw [List.all_eq_true]
              intro c hc
              rw [inL_eq]
              exact hwd c (by simpa [toS] using hc)
            rw [this]
            rfl
          simp only [spIs, spNeed]
          refine ⟨_, rfl, by rw [toS_len]; omega, fun H2 e2 => ⟨_, by rw [eN], small (by decide), fun p hp2 => ?_⟩⟩
          refine q _ _ ((es.trans e2.x).trans (same_new hp2 _).x) (rd2 _ (e2.trans (same_new hp2 _))) ?_
          exact TAt.mkName upd_same
        · rw [if_neg h2] at hp
          cases hp
end

end C
set_option Elab.async false
set_option linter.all false
set_option maxRecDepth 100000
set_option maxHeartbeats 8000000
namespace C
open PySem L2
seal PE PT PW PA PS PSs PG PGs PI PPs PO PSet PIf
abbrev s_Reader_term : Stmt := inClass (top 24) 2
theorem sc_Reader_term : FnScope ["self", "room"] ["self", "room"] (defScope s_Reader_term) := ⟨rfl, rfl, rfl, by decide +kernel, rfl, by decide +kernel, by decide +kernel⟩
abbrev s_Reader_bracket : Stmt := inClass (top 24) 3
theorem sc_Reader_bracket : FnScope ["self", "room", "parts", "kind"] ["self", "room"] (defScope s_Reader_bracket) := ⟨rfl, rfl, rfl, by decide +kernel, rfl, by decide +kernel, by decide +kernel⟩
def spTermR (C : Addr) (n : Nat) : Sp := fun vs H Q _ => ∃ (r : Addr) (x : Cs) (k : Nat) (t : Tm) (rest : Cs), vs = [.ref r, .int ((n : Int) - 1)] ∧ RdAt C H r x k ∧ k ≤ x.length ∧ x.length ≤ 5000 ∧ pTerm n (x.drop k) = some (t, rest) ∧
  ∀ v H', SameX r H H' → RdAt C H' r x (x.length - rest.length) → TAt H' t v → Q v H'
def spBr (C : Addr) (n : Nat) : Sp := fun vs H Q _ => ∃ (r : Addr) (x : Cs) (k : Nat) (t : Tm) (r1 : Cs) (u : Tm) (us : List Tm) (r3 : Cs), vs = [.ref r, .int ((n : Int) - 1)] ∧ RdAt C H r x k ∧ k ≤ x.length ∧ x.length ≤ 5000 ∧ pTerm n (x.drop k) = some (t, r1) ∧
  pMore (pTerm n) (jOf (kindAt r1)) (r1.length + 1) r1 = some (u :: us, 41 :: r3) ∧ ∀ v H', SameX r H H' → RdAt C H' r x (x.length - r3.length) → TAt H' (.node (kindAt r1) (t :: u :: us)) v → Q v H'
theorem pTerm_len {n : Nat} {s r : Cs} {t : Tm} (h : pTerm n s = some (t, r)) : ∃ m, n = m + 1 ∧ s = wr t ++ r ∧ Fit m t := by
  cases n with
  | zero => rw [pTerm] at h; cases h
  | succ n =>
    obtain ⟨a, b⟩ := pTerm_sound n s t r h
    exact ⟨n, rfl, a, b⟩
/-- what is left of a text, by its length -/
theorem drop_rest {x s : Cs} {k : Nat} (hk : k ≤ x.length) (h : x.drop k = s) {a r : Cs} (e : s = a ++ r) : x.drop (x.length - r.length) = r ∧ x.length - r.length = k + a.length ∧ r.length ≤ x.length := by
  have l1 := congrArg List.length h
  have l2 := congrArg List.length e
  rw [List.length_drop] at l1
  rw [List.length_append] at l2
  have e2 : x.length - r.length = k + a.length := by omega
  refine ⟨?_, e2, by omega⟩
  rw [e2, ← List.drop_drop, h, e, List.drop_left]
section
variable {P : Program} {w : World} {K : PySem.W.Frag} {mg : Str → Option Value} {base : Heap} {f : Addr} {fd : FuncData}
theorem ok_termR (bi : Bi mg) {C : Addr} (cl_Reader : Cls K C) (n : Nat) (h_need : Has P w K mg base 1 "need" ["held", "words"] spNeed) (h_Reader_take : HasM P w K mg base 1 C "take" ["self", "signs"] (spTake C)) (h_Reader_leaf : HasM P w K mg base 2 C "leaf" ["self"] (spLeafR C))
    (h_Reader_term : HasM P w K mg base (2 * n + 3) C "term" ["self", "room"] (spTermR C n)) (h_Reader_bracket : HasM P w K mg base (2 * n + 4) C "bracket" ["self", "room"] (spBr C n)) (F : Fun K "term" "Reader.term" s_Reader_term f fd) : FnOk P w K mg base CX0 (2 * n + 5) f fd ["self", "room"] (spTermR C (n + 1)) := by
  refine F.ok sc_Reader_term (fun vs H Q E h => ?_) (fun cdv A outer s H vs Q E hr h => ?_)
  · obtain ⟨r, x, k, t, rest, rfl, _⟩ := h
    rfl
  obtain ⟨r, x, k, t, rest, rfl, hrd, hk, hx, hp, q⟩ := h
  obtain ⟨dx, hr'⟩ := hrd
  have no : ∀ (m : Str), (m == ("text" : Str)) = false → (m == ("at" : Str)) = false → ∀ k, (rdF x k).lookup m = none := fun m h1 h2 k => rd_no x k h1 h2
  refine ⟨_, (pss_cons (ps_expr (pe_callH h_need (hr.mono (by omega)) rfl (pa_cons (pe_cmpR op_ge (pv 1) pe_int (nomark _)) (pa_cons pe_str pa_nil)))) (pss_cons (ps_if (pt_val (pe_methH h_Reader_take cl_Reader (hr.mono (by omega)) (pv 0) (pa_cons pe_str pa_nil))) (pss_one (ps_ret (pe_tup (pa_cons pe_str (pa_cons (pe_methH h_Reader_term cl_Reader (hr.mono (by omega)) (pv 0) (pa_cons (pe_op op_sub (pv 1) pe_int) pa_nil)) pa_nil))))) pss_nil) (pss_cons (ps_if (pt_val (pe_methH h_Reader_take cl_Reader (hr.mono (by omega)) (pv 0) (pa_cons pe_str pa_nil))) (pss_one (ps_ret (pe_methH h_Reader_bracket cl_Reader (hr.mono (by omega)) (pv 0) (pa_cons (pe_op op_sub (pv 1) pe_int) pa_nil)))) pss_nil) (pss_one (ps_ret (pe_methH0 h_Reader_leaf cl_Reader (hr.mono (by omega)) (pv 0))))))), ?_⟩
  refine seq_abs fun N hN => ?_
  simp only [tSeq, tFor_eq, tLC_eq, iRng1, iRng2, iList, iTup, iStr, tIfS, tRet, tRetN, tNext, tAsg, gName, tVar, tC, tOp, rI0, rI, tTest, tB, rEq, rNe, tCall, tCons, tNil, tCB, tLst, tTup, tAnd, tOr, tNot, tAndV, tOrV, tNotV, tIf, tDrop, tSl, tPart, tNoPart, tChain, tUn, rU, L2.start, cx_K, bk_K, cx_calm, bk_calm, lenV_str, and_assoc, Option.join, List.length_map, List.length_append, decide_eq_true_eq, Bool.false_eq_true, if_false, if_true, Bool.not_true, Bool.not_false, Bool.not_eq_true', decide_eq_false_iff_not, Bool.true_eq_false, List.length_cons, List.length_nil, List.map_cons, List.map_nil, List.replicate, List.cons_append, List.nil_append, List.append_nil, List.getElem?_cons_zero, List.getElem?_cons_succ, List.set_cons_zero, List.set_cons_succ, Nat.reduceSub, Nat.reduceAdd, Option.some.injEq, V.int.injEq, V.str.injEq, V.bl.injEq, V.ref.injEq, List.cons.injEq, and_true, true_and, exists_eq_left', exists_eq_left, exists_and_left, exists_eq_right, exists_const, tBM, tBM0, rAppend, rPop, rIxL, rIxT, rIxS, rSlL, rSlT, rSlS, rCat, rCatT, tKGet, cx_w, bk_w, tDGet, tDisp, tPairs, tDNewK, spNeed]
  rw [show (((n + 1 : Nat) : Int) - 1) = (n : Int) by omega]
  refine ⟨by omega, hN _ _ ?_⟩
  refine seq_abs fun N hN => ?_
  simp only [tSeq, tFor_eq, tLC_eq, iRng1, iRng2, iList, iTup, iStr, tIfS, tRet, tRetN, tNext, tAsg, gName, tVar, tC, tOp, rI0, rI, tTest, tB, rEq, rNe, tCall, tCons, tNil, tCB, tLst, tTup, tAnd, tOr, tNot, tAndV, tOrV, tNotV, tIf, tDrop, tSl, tPart, tNoPart, tChain, tUn, rU, L2.start, cx_K, bk_K, cx_calm, bk_calm, lenV_str, and_assoc, Option.join, List.length_map, List.length_append, decide_eq_true_eq, Bool.false_eq_true, if_false, if_true, Bool.not_true, Bool.not_false, Bool.not_eq_true', decide_eq_false_iff_not, Bool.true_eq_false, List.length_cons, List.length_nil, List.map_cons, List.map_nil, List.replicate, List.cons_append, List.nil_append, List.append_nil, List.getElem?_cons_zero, List.getElem?_cons_succ, List.set_cons_zero, List.set_cons_succ, Nat.reduceSub, Nat.reduceAdd, Option.some.injEq, V.int.injEq, V.str.injEq, V.bl.injEq, V.ref.injEq, List.cons.injEq, and_true, true_and, exists_eq_left', exists_eq_left, exists_and_left, exists_eq_right, exists_const, tBM, tBM0, rAppend, rPop, rIxL, rIxT, rIxS, rSlL, rSlT, rSlS, rCat, rCatT, tKGet, cx_w, bk_w, tDGet, tDisp, tPairs, tDNewK, tMeth, spTake, spTermR]
  refine ⟨dx, _, hr', no "take" (by decide +kernel) (by decide +kernel) _, x, [33], s_not, k, ⟨dx, hr'⟩, hk, hx, by decide, fun hpre H1 e1 rd1 => ?_, fun hpre => hN _ _ ?_⟩
  · obtain ⟨s1, hs1⟩ := List.isPrefixOf_iff_prefix.mp hpre
    have hs1 : x.drop k = 33 :: s1 := hs1.symm
    have hl1 : k + 1 ≤ x.length := by
      have := congrArg List.length hs1
      rw [List.length_drop, List.length_cons] at this
      omega
    have hd1 : x.drop (k + 1) = s1 := by rw [← List.drop_drop, hs1]; rfl
    rw [hs1] at hp
    have hp2 : ∃ u, pTerm n s1 = some (u, rest) ∧ t = .node "not" [u] := by
      unfold pTerm at hp
      split at hp
      · rename_i e
        cases e
        split at hp
        · cases hp
        · rename_i u r' e2
          cases hp
          exact ⟨u, e2, rfl⟩
      · rename_i e; cases e
      · rename_i h1 h2; exact absurd rfl (h1 s1)
    obtain ⟨u, hu, rfl⟩ := hp2
    obtain ⟨d1, h1⟩ := rd1
    refine ⟨d1, _, h1, no "term" (by decide +kernel) (by decide +kernel) _, x, k + 1, ⟨d1, h1⟩, hl1, hx, u, rest, by rw [hd1]; exact hu, fun v H2 e2 rd2 tv => ⟨small (by decide), fun p hp3 => ?_⟩⟩
    refine q _ _ ((e1.trans e2).trans (same_new hp3 _).x) (rd2.same (same_new hp3 _)) (TAt.mkNode (vs := [v]) upd_same (TAts.one (TAt.tups (same_new hp3 _).tups tv)))
  have n33 : ∀ s1, x.drop k ≠ 33 :: s1 := fun s1 e => by
    rw [e] at hpre
    simp at hpre
  refine seq_abs fun N hN => ?_
  simp only [tSeq, tFor_eq, tLC_eq, iRng1, iRng2, iList, iTup, iStr, tIfS, tRet, tRetN, tNext, tAsg, gName, tVar, tC, tOp, rI0, rI, tTest, tB, rEq, rNe, tCall, tCons, tNil, tCB, tLst, tTup, tAnd, tOr, tNot, tAndV, tOrV, tNotV, tIf, tDrop, tSl, tPart, tNoPart, tChain, tUn, rU, L2.start, cx_K, bk_K, cx_calm, bk_calm, lenV_str, and_assoc, Option.join, List.length_map, List.length_append, decide_eq_true_eq, Bool.false_eq_true, if_false, if_true, Bool.not_true, Bool.not_false, Bool.not_eq_true', decide_eq_false_iff_not, Bool.true_eq_false, List.length_cons, List.length_nil, List.map_cons, List.map_nil, List.replicate, List.cons_append, List.nil_append, List.append_nil, List.getElem?_cons_zero, List.getElem?_cons_succ, List.set_cons_zero, List.set_cons_succ, Nat.reduceSub, Nat.reduceAdd, Option.some.injEq, V.int.injEq, V.str.injEq, V.bl.injEq, V.ref.injEq, List.cons.injEq, and_true, true_and, exists_eq_left', exists_eq_left, exists_and_left, exists_eq_right, exists_const, tBM, tBM0, rAppend, rPop, rIxL, rIxT, rIxS, rSlL, rSlT, rSlS, rCat, rCatT, tKGet, cx_w, bk_w, tDGet, tDisp, tPairs, tDNewK, tMeth, spTake, spBr]
  refine ⟨dx, _, hr', no "take" (by decide +kernel) (by decide +kernel) _, x, [40], s_open, k, ⟨dx, hr'⟩, hk, hx, by decide, fun hpre2 H1 e1 rd1 => ?_, fun hpre2 => hN _ _ ?_⟩
  · obtain ⟨s1, hs1⟩ := List.isPrefixOf_iff_prefix.mp hpre2
    have hs1 : x.drop k = 40 :: s1 := hs1.symm
    have hl1 : k + 1 ≤ x.length := by
      have := congrArg List.length hs1
      rw [List.length_drop, List.length_cons] at this
      omega
    have hd1 : x.drop (k + 1) = s1 := by rw [← List.drop_drop, hs1]; rfl
    rw [hs1] at hp
    have hp2 : ∃ t1 r1 u us, pTerm n s1 = some (t1, r1) ∧ pMore (pTerm n) (jOf (kindAt r1)) (r1.length + 1) r1 = some (u :: us, 41 :: rest) ∧ t = .node (kindAt r1) (t1 :: u :: us) := by
      unfold pTerm at hp
      split at hp
      · rename_i e; cases e
      · rename_i e
        cases e
        split at hp
        · cases hp
        · rename_i t1 r1 e2
          split at hp
          · cases hp
          · rename_i ts r2 e3
            split at hp
            · cases hp
            · rename_i u us r3
              cases hp
              exact ⟨t1, r1, u, us, e2, e3, rfl⟩
            · cases hp
      · rename_i h1 h2; exact absurd rfl (h2 s1)
    obtain ⟨t1, r1, u, us, hu, hm, rfl⟩ := hp2
    obtain ⟨d1, h1⟩ := rd1
    refine ⟨d1, _, h1, no "bracket" (by decide +kernel) (by decide +kernel) _, x, k + 1, ⟨d1, h1⟩, hl1, hx, t1, r1, by rw [hd1]; exact hu, u, us, rest, hm, fun v H2 e2 rd2 tv => q _ _ (e1.trans e2) rd2 tv⟩
  have n40 : ∀ s1, x.drop k ≠ 40 :: s1 := fun s1 e => by
    rw [e] at hpre2
    simp at hpre2
  have hp2 : pLeaf (x.drop k) = some (t, rest) := by
    unfold pTerm at hp
    split at hp
    · rename_i s1 e; exact absurd e (n33 s1)
    · rename_i s1 e; exact absurd e (n40 s1)
    · exact hp
  simp only [tSeq, tFor_eq, tLC_eq, iRng1, iRng2, iList, iTup, iStr, tIfS, tRet, tRetN, tNext, tAsg, gName, tVar, tC, tOp, rI0, rI, tTest, tB, rEq, rNe, tCall, tCons, tNil, tCB, tLst, tTup, tAnd, tOr, tNot, tAndV, tOrV, tNotV, tIf, tDrop, tSl, tPart, tNoPart, tChain, tUn, rU, L2.start, cx_K, bk_K, cx_calm, bk_calm, lenV_str, and_assoc, Option.join, List.length_map, List.length_append, decide_eq_true_eq, Bool.false_eq_true, if_false, if_true, Bool.not_true, Bool.not_false, Bool.not_eq_true', decide_eq_false_iff_not, Bool.true_eq_false, List.length_cons, List.length_nil, List.map_cons, List.map_nil, List.replicate, List.cons_append, List.nil_append, List.append_nil, List.getElem?_cons_zero, List.getElem?_cons_succ, List.set_cons_zero, List.set_cons_succ, Nat.reduceSub, Nat.reduceAdd, Option.some.injEq, V.int.injEq, V.str.injEq, V.bl.injEq, V.ref.injEq, List.cons.injEq, and_true, true_and, exists_eq_left', exists_eq_left, exists_and_left, exists_eq_right, exists_const, tBM, tBM0, rAppend, rPop, rIxL, rIxT, rIxS, rSlL, rSlT, rSlS, rCat, rCatT, tKGet, cx_w, bk_w, tDGet, tDisp, tPairs, tDNewK, tMeth, spLeafR]
  refine ⟨dx, _, hr', no "leaf" (by decide +kernel) (by decide +kernel) _, x, k, ⟨dx, hr'⟩, hk, hx, t, rest, hp2, q⟩
theorem ok_bracket (bi : Bi mg) {C aJ : Addr} (T : RdC K C) (cl_Reader : Cls K C) (g_JOINTS : Gc mg "JOINTS" (.ref aJ)) (kd : KD w K aJ jKV) (n : Nat) (h_need : Has P w K mg base 1 "need" ["held", "words"] spNeed) (h_Reader_take : HasM P w K mg base 1 C "take" ["self", "signs"] (spTake C))
    (h_Reader_term : HasM P w K mg base (2 * n + 3) C "term" ["self", "room"] (spTermR C n)) (F : Fun K "bracket" "Reader.bracket" s_Reader_bracket f fd) : FnOk P w K mg base CX0 (2 * n + 4) f fd ["self", "room"] (spBr C n) := by
  refine F.ok sc_Reader_bracket (fun vs H Q E h => ?_) (fun cdv A outer s H vs Q E hr h => ?_)
  · obtain ⟨r, x, k, t, r1, u, us, r3, rfl, _⟩ := h
    rfl
  obtain ⟨r, x, k, t, r1, u, us, r3, rfl, hrd, hk, hx, hp, hm, q⟩ := h
  obtain ⟨dx, hr'⟩ := hrd
  have no : ∀ (m : Str), (m == ("text" : Str)) = false → (m == ("at" : Str)) = false → ∀ k, (rdF x k).lookup m = none := fun m h1 h2 k => rd_no x k h1 h2
  obtain ⟨n', rfl, ew, ft⟩ := pTerm_len hp
  obtain ⟨dr1, er1, lr1⟩ := drop_rest hk rfl ew
  refine ⟨_, (pss_cons (ps_set (i := 2) sc_Reader_bracket.nd rfl (Or.inl rfl) (pe_lst (pa_cons (pe_methH h_Reader_term cl_Reader (hr.mono (by omega)) (pv 0) (pa_cons (pv 1) pa_nil)) pa_nil))) (pss_cons (ps_set (i := 3) sc_Reader_bracket.nd rfl (Or.inl rfl) (pe_ifExp (pt_val (pe_bm PySem.F.plainAttrs_str PySem.F.slot_str_startswith PySem.F.type_str_startswith mt_starts3 (pe_fld (pv 0) rfl) (pa_cons (pe_kdget (pe_gc g_JOINTS rfl) pe_str (fun _ _ => rfl)) (pa_cons (pe_fld (pv 0) rfl) pa_nil)))) pe_str pe_str)) (pss_cons (ps_while PassesOwn.never (pt_val (pe_methH h_Reader_take cl_Reader (hr.mono (by omega)) (pv 0) (pa_cons (pe_kdget (pe_gc g_JOINTS rfl) (pv 3) (fun _ _ => rfl)) pa_nil))) (pss_one (ps_expr (pe_bm PySem.F.plainAttrs_list PySem.F.slot_list_append PySem.F.type_list_append mt_append (pv 2) (pa_cons (pe_methH h_Reader_term cl_Reader (hr.mono (by omega)) (pv 0) (pa_cons (pv 1) pa_nil)) pa_nil))))) (pss_cons (ps_expr (pe_callH h_need (hr.mono (by omega)) rfl (pa_cons (pe_cmpR op_gt (pe_callB call_len rfl bi.len bt_len (pa_cons (pv 2) pa_nil)) pe_int (nomark _)) (pa_cons pe_str pa_nil)))) (pss_cons (ps_expr (pe_callH h_need (hr.mono (by omega)) rfl (pa_cons (pe_methH h_Reader_take cl_Reader (hr.mono (by omega)) (pv 0) (pa_cons pe_str pa_nil)) (pa_cons pe_str pa_nil)))) (pss_one (ps_ret (pe_op op_catT (pe_tup (pa_cons (pv 3) pa_nil)) (pe_callTy call_tuple_of rfl bi.tuple bt_tuple (pa_cons (pv 2) pa_nil)))))))))), ?_⟩
  refine seq_abs fun N hN => ?_
  simp only [tSeq, tFor_eq, tLC_eq, iRng1, iRng2, iList, iTup, iStr, tIfS, tRet, tRetN, tNext, tAsg, gName, tVar, tC, tOp, rI0, rI, tTest, tB, rEq, rNe, tCall, tCons, tNil, tCB, tLst, tTup, tAnd, tOr, tNot, tAndV, tOrV, tNotV, tIf, tDrop, tSl, tPart, tNoPart, tChain, tUn, rU, L2.start, cx_K, bk_K, cx_calm, bk_calm, lenV_str, and_assoc, Option.join, List.length_map, List.length_append, decide_eq_true_eq, Bool.false_eq_true, if_false, if_true, Bool.not_true, Bool.not_false, Bool.not_eq_true', decide_eq_false_iff_not, Bool.true_eq_false, List.length_cons, List.length_nil, List.map_cons, List.map_nil, List.replicate, List.cons_append, List.nil_append, List.append_nil, List.getElem?_cons_zero, List.getElem?_cons_succ, List.set_cons_zero, List.set_cons_succ, Nat.reduceSub, Nat.reduceAdd, Option.some.injEq, V.int.injEq, V.str.injEq, V.bl.injEq, V.ref.injEq, List.cons.injEq, and_true, true_and, exists_eq_left', exists_eq_left, exists_and_left, exists_eq_right, exists_const, tBM, tBM0, rAppend, rPop, rIxL, rIxT, rIxS, rSlL, rSlT, rSlS, rCat, rCatT, tKGet, cx_w, bk_w, tDGet, tDisp, tPairs, tDNewK, tMeth, spTermR]
  refine ⟨dx, _, hr', no "term" (by decide +kernel) (by decide +kernel) _, x, k, ⟨dx, hr'⟩, hk, hx, t, r1, hp, fun v H1 e1 rd1 tv => ⟨small (by decide), fun pp hpp => hN _ _ ?_⟩⟩
  have npr : pp ≠ r := fun z => by
    obtain ⟨d1, h1⟩ := rd1
    rw [z, h1] at hpp
    cases hpp
  have e2 := same_new hpp (.lst [v])
  have h2 : upd H1 pp (.lst [v]) pp = some (.lst [v]) := upd_same
  have rd2 := rd1.same e2
  have tv2 := TAt.tups e2.tups tv
  have e02 : SameX r H (upd H1 pp (.lst [v])) := e1.trans e2.x
  have npp : H pp = none := by
    cases z : H pp with
    | none => rfl
    | some o => have := e1 _ _ z npr; rw [hpp] at this; cases this
  generalize upd H1 pp (.lst [v]) = H2 at e2 h2 rd2 tv2 e02 ⊢
  clear e1 rd1 tv hpp e2
  refine seq_abs fun N hN => ?_
  simp only [tSeq, tFor_eq, tLC_eq, iRng1, iRng2, iList, iTup, iStr, tIfS, tRet, tRetN, tNext, tAsg, gName, tVar, tC, tOp, rI0, rI, tTest, tB, rEq, rNe, tCall, tCons, tNil, tCB, tLst, tTup, tAnd, tOr, tNot, tAndV, tOrV, tNotV, tIf, tDrop, tSl, tPart, tNoPart, tChain, tUn, rU, L2.start, cx_K, bk_K, cx_calm, bk_calm, lenV_str, and_assoc, Option.join, List.length_map, List.length_append, decide_eq_true_eq, Bool.false_eq_true, if_false, if_true, Bool.not_true, Bool.not_false, Bool.not_eq_true', decide_eq_false_iff_not, Bool.true_eq_false, List.length_cons, List.length_nil, List.map_cons, List.map_nil, List.replicate, List.cons_append, List.nil_append, List.append_nil, List.getElem?_cons_zero, List.getElem?_cons_succ, List.set_cons_zero, List.set_cons_succ, Nat.reduceSub, Nat.reduceAdd, Option.some.injEq, V.int.injEq, V.str.injEq, V.bl.injEq, V.ref.injEq, List.cons.injEq, and_true, true_and, exists_eq_left', exists_eq_left, exists_and_left, exists_eq_right, exists_const, tBM, tBM0, rAppend, rPop, rIxL, rIxT, rIxS, rSlL, rSlT, rSlS, rCat, rCatT, tKGet, cx_w, bk_w, tDGet, tDisp, tPairs, tDNewK, tFld]
  obtain ⟨d2, hr2⟩ := rd2
  refine ⟨C, d2, _, hr2, T.cl, T.nT, _, rd_text x _, rfl, jKV, .inr "both", rfl, kd, _, j_val (.inl rfl), C, d2, _, hr2, T.cl, T.nA, _, rd_at x _, _, rfl, _, rfl, _, rfl, ?_⟩
  rw [j_both, sw_eq x jAnd _ (by omega), dr1]
  have hkd : ∀ {A B : Prop}, (kindAt r1 = "both" → A) → (kindAt r1 = "either" → B) → if jAnd.isPrefixOf r1 = true then A else B := fun {A B} a b => by
    by_cases z : jAnd.isPrefixOf r1 = true
    · rw [if_pos z]
      exact a (by unfold kindAt; rw [if_pos z])
    · rw [if_neg z]
      exact b (by unfold kindAt; rw [if_neg z])
  have kis := kind_is r1
  suffices hgo : N [some (V.ref r), some (V.int (((n' + 1 : Nat) : Int) - 1)), some (V.ref pp), some (V.str (kindAt r1))] H2 by
    refine hkd (fun z => ?_) (fun z => ?_)
    · rw [z] at hgo; exact hgo
    · rw [z] at hgo; exact hgo
  refine hN _ _ ?_
  have jv := j_val kis
  have jl := j_len (kindAt r1)
  generalize kindAt r1 = kw at kis jv jl hm q
  refine seq_join (fun σ H3 => SameX r H H3 ∧ ∃ ys : List V, H3 pp = some (.lst ys) ∧ TAts H3 (t :: u :: us) ys ∧ RdAt C H3 r x (x.length - (r3.length + 1)) ∧ x.drop (x.length - (r3.length + 1)) = 41 :: r3 ∧ r3.length + 1 ≤ x.length ∧ ys.length ≤ 5001 ∧ σ = [some (V.ref r), some (V.int (((n' + 1 : Nat) : Int) - 1)), some (V.ref pp), some (V.str kw)]) (fun N hN => ?_) (fun σ H3 h => ?_)
  · refine ⟨fun m σ H3 => SameX r H H3 ∧ ∃ (done : List Tm) (ys : List V) (s' : Cs) (ts' : List Tm), done ++ ts' = t :: u :: us ∧ H3 pp = some (.lst ys) ∧ TAts H3 done ys ∧ RdAt C H3 r x (x.length - s'.length) ∧ x.drop (x.length - s'.length) = s' ∧ s'.length ≤ x.length ∧ s'.length < m ∧ done.length + s'.length ≤ 5001 ∧ pMore (pTerm (n' + 1)) (jOf kw) m s' = some (ts', 41 :: r3) ∧ σ = [some (V.ref r), some (V.int (((n' + 1 : Nat) : Int) - 1)), some (V.ref pp), some (V.str kw)],
      ⟨r1.length + 1, e02, [t], [v], r1, u :: us, rfl, h2, TAts.one tv2, ⟨d2, hr2⟩, dr1, lr1, by omega, by rw [List.length_singleton]; omega, hm, rfl⟩, fun m σ H3 h => ?_⟩
    obtain ⟨es, done, ys, s', ts', hdone, hpp, hys, ⟨d3, hr3⟩, hds, hsl, hsm, hdl, hpm, rfl⟩ := h
    have hyl := hys.length
    cases m with
    | zero => omega
    | succ m =>
      simp only [tSeq, tFor_eq, tLC_eq, iRng1, iRng2, iList, iTup, iStr, tIfS, tRet, tRetN, tNext, tAsg, gName, tVar, tC, tOp, rI0, rI, tTest, tB, rEq, rNe, tCall, tCons, tNil, tCB, tLst, tTup, tAnd, tOr, tNot, tAndV, tOrV, tNotV, tIf, tDrop, tSl, tPart, tNoPart, tChain, tUn, rU, L2.start, cx_K, bk_K, cx_calm, bk_calm, lenV_str, and_assoc, Option.join, List.length_map, List.length_append, decide_eq_true_eq, Bool.false_eq_true, if_false, if_true, Bool.not_true, Bool.not_false, Bool.not_eq_true', decide_eq_false_iff_not, Bool.true_eq_false, List.length_cons, List.length_nil, List.map_cons, List.map_nil, List.replicate, List.cons_append, List.nil_append, List.append_nil, List.getElem?_cons_zero, List.getElem?_cons_succ, List.set_cons_zero, List.set_cons_succ, Nat.reduceSub, Nat.reduceAdd, Option.some.injEq, V.int.injEq, V.str.injEq, V.bl.injEq, V.ref.injEq, List.cons.injEq, and_true, true_and, exists_eq_left', exists_eq_left, exists_and_left, exists_eq_right, exists_const, tBM, tBM0, rAppend, rPop, rIxL, rIxT, rIxS, rSlL, rSlT, rSlS, rCat, rCatT, tKGet, cx_w, bk_w, tDGet, tDisp, tPairs, tDNewK, tMeth, spTake, spTermR]
      refine ⟨d3, _, hr3, no "take" (by decide +kernel) (by decide +kernel) _, jKV, .inr kw, rfl, kd, _, jv, x, jOf kw, rfl, x.length - s'.length, ⟨d3, hr3⟩, by omega, hx, by omega, fun hpre H4 e4 rd4 => ?_, fun hpre => ?_⟩
      · rw [hds] at hpre
        obtain ⟨d4, hr4⟩ := rd4
        rw [pMore, if_pos hpre] at hpm
        split at hpm
        · cases hpm
        · rename_i t1 r' e1
          split at hpm
          · cases hpm
          · rename_i ts1 r2 e2
            cases hpm
            have h3l : 3 ≤ s'.length := by
              have := pre_split hpre
              have := congrArg List.length this
              rw [List.length_append, jl] at this
              omega
            have hd4 : x.drop (x.length - s'.length + (jOf kw).length) = s'.drop 3 := by rw [jl, ← List.drop_drop, hds]
            obtain ⟨n2, en2, ew2, ft2⟩ := pTerm_len e1
            have hlr : r'.length + 3 ≤ s'.length := by
              have := congrArg List.length ew2
              rw [List.length_drop, List.length_append] at this
              omega
            obtain ⟨dr2, er2, lr2⟩ := drop_rest (k := x.length - s'.length + (jOf kw).length) (by omega) hd4 ew2
            refine ⟨fun σ' H5 => SameX r H H5 ∧ ∃ (ys' : List V), H5 pp = some (.lst ys') ∧ TAts H5 (done ++ [t1]) ys' ∧ RdAt C H5 r x (x.length - r'.length) ∧ σ' = [some (V.ref r), some (V.int (((n' + 1 : Nat) : Int) - 1)), some (V.ref pp), some (V.str kw)], fun σ' H5 h => ?_, .inl ⟨rfl, _, SqL.of (e4 _ _ hpp npr)⟩, d4, _, hr4, no "term" (by decide +kernel) (by decide +kernel) _, x, _, ⟨d4, hr4⟩, by omega, hx, t1, r', by rw [hd4]; exact e1, fun v1 H5 e5 rd5 tv5 => ⟨ys, e5 _ _ (e4 _ _ hpp npr) npr, big_lt (by omega), ?_⟩⟩
            · obtain ⟨h1, ys', h2', h3, h4, h5⟩ := h
              exact ⟨m, by omega, h1, done ++ [t1], ys', r', ts1, by rw [List.append_assoc]; exact hdone, h2', h3, h4, dr2, lr2, by omega, by rw [List.length_append, List.length_singleton]; omega, e2, h5⟩
            · have hpp5 := e5 _ _ (e4 _ _ hpp npr) npr
              have tu : TupSame H5 (upd H5 pp (.lst (ys ++ [v1]))) := (TupSame.refl _).upd_lst hpp5
              have t34 : TupSame H3 H5 := (SameX.tups e4 ⟨d3, hr3⟩).trans (SameX.tups e5 ⟨d4, hr4⟩)
              obtain ⟨d5, hr5⟩ := rd5
              refine ⟨((es.trans e4).trans e5).new npp, ys ++ [v1], upd_same, TAts.append (TAts.tups (t34.trans tu) hys) (TAts.one (TAt.tups tu tv5)), ⟨d5, ?_⟩, rfl⟩
              rw [upd_ne (Ne.symm npr)]
              exact hr5
      · rw [hds] at hpre
        rw [pMore, if_neg (by rw [hpre]; decide)] at hpm
        cases hpm
        rw [List.append_nil] at hdone
        subst hdone
        exact hN _ _ ⟨es, ys, hpp, hys, ⟨d3, hr3⟩, hds, hsl, by omega, rfl⟩
  · obtain ⟨es, ys, hpp, hys, ⟨d3, hr3⟩, hds, hsl, hy5, rfl⟩ := h
    have hyl := hys.length
    rw [List.length_cons, List.length_cons] at hyl
    refine seq_abs fun N hN => ?_
    simp only [tSeq, tFor_eq, tLC_eq, iRng1, iRng2, iList, iTup, iStr, tIfS, tRet, tRetN, tNext, tAsg, gName, tVar, tC, tOp, rI0, rI, tTest, tB, rEq, rNe, tCall, tCons, tNil, tCB, tLst, tTup, tAnd, tOr, tNot, tAndV, tOrV, tNotV, tIf, tDrop, tSl, tPart, tNoPart, tChain, tUn, rU, L2.start, cx_K, bk_K, cx_calm, bk_calm, lenV_str, and_assoc, Option.join, List.length_map, List.length_append, decide_eq_true_eq, Bool.false_eq_true, if_false, if_true, Bool.not_true, Bool.not_false, Bool.not_eq_true', decide_eq_false_iff_not, Bool.true_eq_false, List.length_cons, List.length_nil, List.map_cons, List.map_nil, List.replicate, List.cons_append, List.nil_append, List.append_nil, List.getElem?_cons_zero, List.getElem?_cons_succ, List.set_cons_zero, List.set_cons_succ, Nat.reduceSub, Nat.reduceAdd, Option.some.injEq, V.int.injEq, V.str.injEq, V.bl.injEq, V.ref.injEq, List.cons.injEq, and_true, true_and, exists_eq_left', exists_eq_left, exists_and_left, exists_eq_right, exists_const, tBM, tBM0, rAppend, rPop, rIxL, rIxT, rIxS, rSlL, rSlT, rSlS, rCat, rCatT, tKGet, cx_w, bk_w, tDGet, tDisp, tPairs, tDNewK, spNeed]
    refine ⟨_, .inl ⟨_, SqL.of hpp, rfl⟩, by omega, hN _ _ ?_⟩
    refine seq_abs fun N hN => ?_
    simp only [tSeq, tFor_eq, tLC_eq, iRng1, iRng2, iList, iTup, iStr, tIfS, tRet, tRetN, tNext, tAsg, gName, tVar, tC, tOp, rI0, rI, tTest, tB, rEq, rNe, tCall, tCons, tNil, tCB, tLst, tTup, tAnd, tOr, tNot, tAndV, tOrV, tNotV, tIf, tDrop, tSl, tPart, tNoPart, tChain, tUn, rU, L2.start, cx_K, bk_K, cx_calm, bk_calm, lenV_str, and_assoc, Option.join, List.length_map, List.length_append, decide_eq_true_eq, Bool.false_eq_true, if_false, if_true, Bool.not_true, Bool.not_false, Bool.not_eq_true', decide_eq_false_iff_not, Bool.true_eq_false, List.length_cons, List.length_nil, List.map_cons, List.map_nil, List.replicate, List.cons_append, List.nil_append, List.append_nil, List.getElem?_cons_zero, List.getElem?_cons_succ, List.set_cons_zero, List.set_cons_succ, Nat.reduceSub, Nat.reduceAdd, Option.some.injEq, V.int.injEq, V.str.injEq, V.bl.injEq, V.ref.injEq, List.cons.injEq, and_true, true_and, exists_eq_left', exists_eq_left, exists_and_left, exists_eq_right, exists_const, tBM, tBM0, rAppend, rPop, rIxL, rIxT, rIxS, rSlL, rSlT, rSlS, rCat, rCatT, tKGet, cx_w, bk_w, tDGet, tDisp, tPairs, tDNewK, spNeed, tMeth, spTake]
    refine ⟨d3, _, hr3, no "take" (by decide +kernel) (by decide +kernel) _, x, [41], s_close, _, ⟨d3, hr3⟩, by omega, hx, by decide, fun hpre H4 e4 rd4 => ?_, fun hpre => ?_⟩
    · refine hN _ _ ?_
      have hpp4 := e4 _ _ hpp npr
      have t34 := SameX.tups e4 ⟨d3, hr3⟩
      simp only [tSeq, tFor_eq, tLC_eq, iRng1, iRng2, iList, iTup, iStr, tIfS, tRet, tRetN, tNext, tAsg, gName, tVar, tC, tOp, rI0, rI, tTest, tB, rEq, rNe, tCall, tCons, tNil, tCB, tLst, tTup, tAnd, tOr, tNot, tAndV, tOrV, tNotV, tIf, tDrop, tSl, tPart, tNoPart, tChain, tUn, rU, L2.start, cx_K, bk_K, cx_calm, bk_calm, lenV_str, and_assoc, Option.join, List.length_map, List.length_append, decide_eq_true_eq, Bool.false_eq_true, if_false, if_true, Bool.not_true, Bool.not_false, Bool.not_eq_true', decide_eq_false_iff_not, Bool.true_eq_false, List.length_cons, List.length_nil, List.map_cons, List.map_nil, List.replicate, List.cons_append, List.nil_append, List.append_nil, List.getElem?_cons_zero, List.getElem?_cons_succ, List.set_cons_zero, List.set_cons_succ, Nat.reduceSub, Nat.reduceAdd, Option.some.injEq, V.int.injEq, V.str.injEq, V.bl.injEq, V.ref.injEq, List.cons.injEq, and_true, true_and, exists_eq_left', exists_eq_left, exists_and_left, exists_eq_right, exists_const, tBM, tBM0, rAppend, rPop, rIxL, rIxT, rIxS, rSlL, rSlT, rSlS, rCat, rCatT, tKGet, cx_w, bk_w, tDGet, tDisp, tPairs, tDNewK]
      refine ⟨small (by decide), fun p5 hp5 => ⟨ys, .inl ⟨SqL.of (same_new hp5 _ _ _ hpp4), fun p6 hp6 => ?_⟩⟩⟩
      have e5 := same_new hp5 (.tup [.str kw])
      have h5 : upd H4 p5 (.tup [.str kw]) p5 = some (.tup [.str kw]) := upd_same
      generalize upd H4 p5 (.tup [.str kw]) = H5 at e5 h5 hp6 ⊢
      have e6 := same_new hp6 (.tup ys)
      have h6 : upd H5 p6 (.tup ys) p6 = some (.tup ys) := upd_same
      generalize upd H5 p6 (.tup ys) = H6 at e6 h6 ⊢
      refine ⟨_, SqT.of (e6 _ _ h5), _, SqT.of h6, by simp, big (by rw [List.length_singleton]; omega), fun z => ?_, fun _ p7 hp7 => ?_⟩
      · subst z; simp at hyl
      have e7 := same_new hp7 (.tup ([V.str kw] ++ ys))
      have e47 := (e5.trans e6).trans e7
      have rd7 := rd4.same e47
      have hl : x.length - (r3.length + 1) + [41].length = x.length - r3.length := by
        show x.length - (r3.length + 1) + 1 = _
        omega
      rw [hl] at rd7
      exact q _ _ ((es.trans e4).trans e47.x) rd7 (TAt.mkNode (vs := ys) upd_same (TAts.tups (t34.trans e47.tups) hys))
    · rw [hds] at hpre
      simp at hpre
end


end C
set_option Elab.async false
set_option linter.all false
set_option maxRecDepth 100000
set_option maxHeartbeats 8000000
namespace C
open PySem L2
seal PE PT PW PA PS PSs PG PGs PI PPs PO PSet PIf
abbrev s_parts_of : Stmt := top 8
theorem sc_parts_of : FnScope ["t"] ["t"] (defScope s_parts_of) := ⟨rfl, rfl, rfl, by decide +kernel, rfl, by decide +kernel, by decide +kernel⟩
abbrev s_leaves : Stmt := top 9
theorem sc_leaves : FnScope ["t", "parts"] ["t"] (defScope s_leaves) := ⟨rfl, rfl, rfl, by decide +kernel, rfl, by decide +kernel, by decide +kernel⟩
def prt : Tm → List Tm
  | .name _ => []
  | .node _ ts => ts
def spPt : Sp := fun vs H Q _ => ∃ (v : V) (t : Tm), vs = [v] ∧ TAt H t v ∧ (∀ w ts, t = .node w ts → Wrd w) ∧ ∀ p us H', Same H H' → H' p = some (.tup us) → TAts H' (prt t) us → Q (.ref p) H'
def spLv : Nat → Sp
  | 0 => fun _ _ _ _ => False
  | 1 => fun _ _ _ _ => False
  | n + 2 => fun vs H Q _ => ∃ (v : V) (t : Tm), vs = [v] ∧ TAt H t v ∧ Fit n t ∧ wt t ≤ 900 ∧ ∀ (m : Nat) H', Same H H' → 1 ≤ m → m ≤ wt t → Q (.int m) H'
theorem nat_sum (ms : List Nat) : (ms.map (fun m : Nat => (m : Int))).sum = (ms.sum : Nat) := by
  induction ms with
  | nil => rfl
  | cons m r ih => rw [List.map_cons, List.sum_cons, List.sum_cons, ih]; omega
theorem sum_take_le (ms : List Nat) (k : Nat) : (ms.take k).sum ≤ ms.sum := by
  have := congrArg List.sum (List.take_append_drop k ms)
  rw [List.sum_append] at this
  omega
theorem mem_sum {ms : List Nat} {m : Nat} (h : m ∈ ms) : m ≤ ms.sum := by
  induction ms with
  | nil => cases h
  | cons a r ih =>
    rw [List.sum_cons]
    rcases List.mem_cons.mp h with rfl | h
    · omega
    · have := ih h; omega
theorem wts_take : ∀ (ts : List Tm) (i : Nat) (t : Tm), ts[i]? = some t → wts (ts.take (i + 1)) = wts (ts.take i) + wt t := fun ts i t h => by
  obtain ⟨il, ie⟩ := List.getElem?_eq_some_iff.mp h
  rw [List.take_succ_eq_append_getElem il, ie, wts_append]
  show _ + (wt t + wts []) = _
  rw [wts]
  omega
section
variable {P : Program} {w : World} {K : PySem.W.Frag} {mg : Str → Option Value} {base : Heap} {f : Addr} {fd : FuncData}
theorem ok_parts_of (bi : Bi mg) (F : Fun K "parts_of" "parts_of" s_parts_of f fd) : FnOk P w K mg base CX0 1 f fd ["t"] spPt := by
  refine F.ok sc_parts_of (fun vs H Q E h => ?_) (fun cdv A outer s H vs Q E hr h => ?_)
  · obtain ⟨v, t, rfl, _⟩ := h
    rfl
  obtain ⟨v, t, rfl, ht, hw, q⟩ := h
  refine ⟨_, (pss_one (ps_ret (pe_ifExp (pt_cmpR op_eq (pe_ix ix_tup (pv 0) pe_int (fun _ _ => rfl)) pe_str (nomark _)) (pe_tup pa_nil) (pe_slice sl_tup (pv 0) (po_some pe_int) po_none)))), ?_⟩
  cases t with
  | name x =>
    obtain ⟨a, rfl, ha⟩ := TAt.name ht
    simp only [tSeq, tFor_eq, tLC_eq, iRng1, iRng2, iList, iTup, iStr, tIfS, tRet, tRetN, tNext, tAsg, gName, tVar, tC, tOp, rI0, rI, tTest, tB, rEq, rNe, tCall, tCons, tNil, tCB, tLst, tTup, tAnd, tOr, tNot, tAndV, tOrV, tNotV, tIf, tDrop, tSl, tPart, tNoPart, tChain, tUn, rU, L2.start, cx_K, bk_K, cx_calm, bk_calm, lenV_str, and_assoc, Option.join, List.length_map, List.length_append, decide_eq_true_eq, Bool.false_eq_true, if_false, if_true, Bool.not_true, Bool.not_false, Bool.not_eq_true', decide_eq_false_iff_not, Bool.true_eq_false, List.length_cons, List.length_nil, List.map_cons, List.map_nil, List.replicate, List.cons_append, List.nil_append, List.append_nil, List.getElem?_cons_zero, List.getElem?_cons_succ, List.set_cons_zero, List.set_cons_succ, Nat.reduceSub, Nat.reduceAdd, Option.some.injEq, V.int.injEq, V.str.injEq, V.bl.injEq, V.ref.injEq, List.cons.injEq, and_true, true_and, exists_eq_left', exists_eq_left, exists_and_left, exists_eq_right, exists_const, tBM, tBM0, rAppend, rPop, rIxL, rIxT, rIxS, rSlL, rSlT, rSlS, rCat, rCatT, tKGet, cx_w, bk_w, tDGet, tDisp, tPairs, tDNewK]
    refine ⟨_, SqT.of ha, .str "name", at0, rfl, ?_⟩
    rw [if_pos rfl]
    exact ⟨small (by decide), fun p hp => q _ [] _ (same_new hp _) upd_same rfl⟩
  | node wd ts =>
    obtain ⟨a, us, rfl, ha, hu⟩ := TAt.node ht
    simp only [tSeq, tFor_eq, tLC_eq, iRng1, iRng2, iList, iTup, iStr, tIfS, tRet, tRetN, tNext, tAsg, gName, tVar, tC, tOp, rI0, rI, tTest, tB, rEq, rNe, tCall, tCons, tNil, tCB, tLst, tTup, tAnd, tOr, tNot, tAndV, tOrV, tNotV, tIf, tDrop, tSl, tPart, tNoPart, tChain, tUn, rU, L2.start, cx_K, bk_K, cx_calm, bk_calm, lenV_str, and_assoc, Option.join, List.length_map, List.length_append, decide_eq_true_eq, Bool.false_eq_true, if_false, if_true, Bool.not_true, Bool.not_false, Bool.not_eq_true', decide_eq_false_iff_not, Bool.true_eq_false, List.length_cons, List.length_nil, List.map_cons, List.map_nil, List.replicate, List.cons_append, List.nil_append, List.append_nil, List.getElem?_cons_zero, List.getElem?_cons_succ, List.set_cons_zero, List.set_cons_succ, Nat.reduceSub, Nat.reduceAdd, Option.some.injEq, V.int.injEq, V.str.injEq, V.bl.injEq, V.ref.injEq, List.cons.injEq, and_true, true_and, exists_eq_left', exists_eq_left, exists_and_left, exists_eq_right, exists_const, tBM, tBM0, rAppend, rPop, rIxL, rIxT, rIxS, rSlL, rSlT, rSlS, rCat, rCatT, tKGet, cx_w, bk_w, tDGet, tDisp, tPairs, tDNewK]
    refine ⟨_, SqT.of ha, .str wd, at0, rfl, ?_⟩
    rw [if_neg (fun e => (hw wd ts rfl).ne (V.str.inj e))]
    refine ⟨_, SqT.of ha, tail_not_whole _ _, fun p hp => ?_⟩
    rw [cut_tail]
    exact q p us _ (same_new hp _) upd_same (TAts.tups (same_new hp _).tups hu)
theorem ok_leaves (bi : Bi mg) (h_parts_of : Has P w K mg base 1 "parts_of" ["t"] spPt) (F : Fun K "leaves" "leaves" s_leaves f fd) (b : Binds K fd ["t"] []) (m : mg "leaves" = some (.ref f)) : ∀ n, FnOk P w K mg base CX0 n f fd ["t"] (spLv n) := by
  refine rec_ok F b m (fun vs H Q E h => h) (fun n h_leaves => ?_)
  cases n with
  | zero => exact ⟨fun vs H Q E h => h.elim, fun A outer s H args us vs Q E _ _ _ _ h => h.elim⟩
  | succ n =>
  refine F.ok sc_leaves (fun vs H Q E h => ?_) (fun cdv A outer s H vs Q E hr h => ?_)
  · obtain ⟨v, t, rfl, _⟩ := h
    rfl
  obtain ⟨v, t, rfl, ht, hf, hw, q⟩ := h
  refine ⟨_, (pss_cons (ps_set (i := 1) sc_leaves.nd rfl (Or.inl rfl) (pe_callH h_parts_of (hr.mono (by omega)) rfl (pa_cons (pv 0) pa_nil))) (pss_one (ps_ret (pe_ifExp (pt_truth (pv 1) (fun _ => rfl)) (pe_callB call_sumI rfl bi.sum bt_sum (pa_cons (pe_comp ["part"] [] [] (pi_tup (pv 1)) (fun _ _ _ _ nd => pg_name (i := 0) nd rfl (Or.inl rfl)) (fun _ _ _ _ => pif_nil) (fun _ _ _ _ => (pe_callH h_leaves hr rfl (pa_cons (pv 0) pa_nil)))) pa_nil)) pe_int)))), ?_⟩
  have hp1 := wt_pos t
  refine seq_abs fun N hN => ?_
  simp only [tSeq, tFor_eq, tLC_eq, iRng1, iRng2, iList, iTup, iStr, tIfS, tRet, tRetN, tNext, tAsg, gName, tVar, tC, tOp, rI0, rI, tTest, tB, rEq, rNe, tCall, tCons, tNil, tCB, tLst, tTup, tAnd, tOr, tNot, tAndV, tOrV, tNotV, tIf, tDrop, tSl, tPart, tNoPart, tChain, tUn, rU, L2.start, cx_K, bk_K, cx_calm, bk_calm, lenV_str, and_assoc, Option.join, List.length_map, List.length_append, decide_eq_true_eq, Bool.false_eq_true, if_false, if_true, Bool.not_true, Bool.not_false, Bool.not_eq_true', decide_eq_false_iff_not, Bool.true_eq_false, List.length_cons, List.length_nil, List.map_cons, List.map_nil, List.replicate, List.cons_append, List.nil_append, List.append_nil, List.getElem?_cons_zero, List.getElem?_cons_succ, List.set_cons_zero, List.set_cons_succ, Nat.reduceSub, Nat.reduceAdd, Option.some.injEq, V.int.injEq, V.str.injEq, V.bl.injEq, V.ref.injEq, List.cons.injEq, and_true, true_and, exists_eq_left', exists_eq_left, exists_and_left, exists_eq_right, exists_const, tBM, tBM0, rAppend, rPop, rIxL, rIxT, rIxS, rSlL, rSlT, rSlS, rCat, rCatT, tKGet, cx_w, bk_w, tDGet, tDisp, tPairs, tDNewK, spPt]
  refine ⟨t, ht, fun wd ts e => by subst e; exact hf.wrd, fun p us H1 e1 hp hu => hN _ _ ?_⟩
  have hl := hu.length
  have part : ∀ (i : Nat) (u : Tm), (prt t)[i]? = some u → ∃ m, n = m + 1 ∧ Fit m u ∧ wt u ≤ 900 := fun i u hi => by
    have hm := List.mem_of_getElem? hi
    cases t with
    | name x => cases hm
    | node wd ts =>
      have hm : u ∈ ts := hm
      have := wts_mem hm
      rw [wt] at hw
      cases n with
      | zero => rw [hf.2] at hm; cases hm
      | succ n => exact ⟨n, rfl, hf.part hm, by omega⟩
  have hwp : wts (prt t) ≤ wt t := by
    cases t with
    | name x => rw [prt, wts]; omega
    | node wd ts => rw [prt, wt]; omega
  have hwl := wts_len (prt t)
  simp only [tSeq, tFor_eq, tLC_eq, iRng1, iRng2, iList, iTup, iStr, tIfS, tRet, tRetN, tNext, tAsg, gName, tVar, tC, tOp, rI0, rI, tTest, tB, rEq, rNe, tCall, tCons, tNil, tCB, tLst, tTup, tAnd, tOr, tNot, tAndV, tOrV, tNotV, tIf, tDrop, tSl, tPart, tNoPart, tChain, tUn, rU, L2.start, cx_K, bk_K, cx_calm, bk_calm, lenV_str, and_assoc, Option.join, List.length_map, List.length_append, decide_eq_true_eq, Bool.false_eq_true, if_false, if_true, Bool.not_true, Bool.not_false, Bool.not_eq_true', decide_eq_false_iff_not, Bool.true_eq_false, List.length_cons, List.length_nil, List.map_cons, List.map_nil, List.replicate, List.cons_append, List.nil_append, List.append_nil, List.getElem?_cons_zero, List.getElem?_cons_succ, List.set_cons_zero, List.set_cons_succ, Nat.reduceSub, Nat.reduceAdd, Option.some.injEq, V.int.injEq, V.str.injEq, V.bl.injEq, V.ref.injEq, List.cons.injEq, and_true, true_and, exists_eq_left', exists_eq_left, exists_and_left, exists_eq_right, exists_const, tBM, tBM0, rAppend, rPop, rIxL, rIxT, rIxS, rSlL, rSlT, rSlS, rCat, rCatT, tKGet, cx_w, bk_w, tDGet, tDisp, tPairs, tDNewK]
  refine ⟨!us.isEmpty, .inr (.inl ⟨_, SqT.of hp, rfl⟩), ?_⟩
  cases us with
  | nil => exact q 1 H1 e1 (by omega) hp1
  | cons u0 us0 =>
    generalize hus : u0 :: us0 = us at hp hu hl
    rw [if_pos (by rw [← hus]; rfl)]
    refine ⟨⟨_, SqT.of hp⟩, ?_⟩
    refine lc_tup (xs := us) (fun i ys σ H' => Same H1 H' ∧ (∃ ms : List Nat, ys = (ms.map (fun m : Nat => (m : Int))).map V.int ∧ ms.length = i ∧ i ≤ ms.sum ∧ ms.sum ≤ wts ((prt t).take i)) ∧ ∃ o, σ = [o]) ⟨Same.refl _, ⟨[], rfl, rfl, Nat.le_refl _, Nat.zero_le _⟩, _, rfl⟩ (small (by omega)) (fun i ys σ H' e => ?_) (fun i ys σ H' e => SqT.of (e.1 _ _ hp)) (fun i x ys σ H' C hx e hC => ?_) (fun ys σ H' e p3 hp3 => ?_)
    · obtain ⟨_, ⟨ms, rfl, h2, _⟩, _⟩ := e
      rw [List.length_map, List.length_map, h2]
      exact Nat.le_refl _
    · obtain ⟨es, ⟨ms, rfl, h2, h3, h4⟩, o, rfl⟩ := e
      obtain ⟨u, hu', hx'⟩ := hu.getV hx
      obtain ⟨m', rfl, f1, f2⟩ := part i u hu'
      simp only [tSeq, tFor_eq, tLC_eq, iRng1, iRng2, iList, iTup, iStr, tIfS, tRet, tRetN, tNext, tAsg, gName, tVar, tC, tOp, rI0, rI, tTest, tB, rEq, rNe, tCall, tCons, tNil, tCB, tLst, tTup, tAnd, tOr, tNot, tAndV, tOrV, tNotV, tIf, tDrop, tSl, tPart, tNoPart, tChain, tUn, rU, L2.start, cx_K, bk_K, cx_calm, bk_calm, lenV_str, and_assoc, Option.join, List.length_map, List.length_append, decide_eq_true_eq, Bool.false_eq_true, if_false, if_true, Bool.not_true, Bool.not_false, Bool.not_eq_true', decide_eq_false_iff_not, Bool.true_eq_false, List.length_cons, List.length_nil, List.map_cons, List.map_nil, List.replicate, List.cons_append, List.nil_append, List.append_nil, List.getElem?_cons_zero, List.getElem?_cons_succ, List.set_cons_zero, List.set_cons_succ, Nat.reduceSub, Nat.reduceAdd, Option.some.injEq, V.int.injEq, V.str.injEq, V.bl.injEq, V.ref.injEq, List.cons.injEq, and_true, true_and, exists_eq_left', exists_eq_left, exists_and_left, exists_eq_right, exists_const, tBM, tBM0, rAppend, rPop, rIxL, rIxT, rIxS, rSlL, rSlT, rSlS, rCat, rCatT, tKGet, cx_w, bk_w, tDGet, tDisp, tPairs, tDNewK, spLv]
      refine ⟨u, TAt.tups es.tups hx', f1, f2, fun k H3 e3 hk1 hk2 => hC _ _ _ ⟨es.trans e3, ⟨ms ++ [k], by rw [List.map_append, List.map_append]; rfl, by rw [List.length_append, h2]; rfl, ?_, ?_⟩, _, rfl⟩⟩
      · rw [List.sum_append]; simp; omega
      · rw [wts_take _ _ _ hu', List.sum_append]; simp; omega
    · obtain ⟨es, ⟨ms, rfl, h2, h3, h4⟩, o, rfl⟩ := e
      rw [List.take_of_length_le (by omega)] at h4
      refine ⟨p3, rfl, _, SqL.of upd_same, fun k _ => ?_, fun k hk => ?_, ?_⟩
      · rw [← List.map_take, nat_sum]
        have := sum_take_le ms k
        constructor <;> omega
      · obtain ⟨m0, hm0, rfl⟩ := List.mem_map.mp hk
        have := mem_sum hm0
        constructor <;> omega
      · rw [nat_sum]
        refine q _ _ ((e1.trans es).trans (same_new hp3 _)) ?_ (by omega)
        have : us.length ≠ 0 := by rw [← hus]; simp
        omega
/-- the reader's term and bracket, level by level -/
theorem ok_terms (bi : Bi mg) {C aJ : Addr} (T : RdC K C) (g_JOINTS : Gc mg "JOINTS" (.ref aJ)) (kd : KD w K aJ jKV) (h_need : Has P w K mg base 1 "need" ["held", "words"] spNeed) (h_take : HasM P w K mg base 1 C "take" ["self", "signs"] (spTake C)) (h_leaf : HasM P w K mg base 2 C "leaf" ["self"] (spLeafR C))
    {f1 f2 : Addr} {fd1 fd2 : FuncData} (F1 : Fun K "term" "Reader.term" s_Reader_term f1 fd1) (F2 : Fun K "bracket" "Reader.bracket" s_Reader_bracket f2 fd2) (b1 : Binds K fd1 ["self", "room"] []) (b2 : Binds K fd2 ["self", "room"] []) (m1 : Meth K C "term" f1) (m2 : Meth K C "bracket" f2) :
    ∀ n, HasM P w K mg base (2 * n + 3) C "term" ["self", "room"] (spTermR C n)
  | 0 => ⟨_, _, ⟨fun vs H Q E h => (by obtain ⟨r, x, k, t, rest, _, _, _, _, z, _⟩ := h; rw [pTerm] at z; cases z), fun A outer s H args us vs Q E _ _ _ _ h => (by obtain ⟨r, x, k, t, rest, _, _, _, _, z, _⟩ := h; rw [pTerm] at z; cases z)⟩, b1, m1⟩
  | n + 1 => by
    have h1 := ok_terms bi T g_JOINTS kd h_need h_take h_leaf F1 F2 b1 b2 m1 m2 n
    have h2 : HasM P w K mg base (2 * n + 4) C "bracket" ["self", "room"] (spBr C n) := ⟨_, _, ok_bracket bi T T.cl g_JOINTS kd n h_need h_take h1 F2, b2, m2⟩
    exact ⟨_, _, ok_termR bi T.cl n h_need h_take h_leaf h1 h2 F1, b1, m1⟩
end

end C
set_option Elab.async false
set_option linter.all false
set_option maxRecDepth 100000
set_option maxHeartbeats 8000000
namespace C
open PySem L2
seal PE PT PW PA PS PSs PG PGs PI PPs PO PSet PIf
abbrev s_read : Stmt := top 25
theorem sc_read : FnScope ["text", "reader", "t"] ["text"] (defScope s_read) := ⟨rfl, rfl, rfl, by decide +kernel, rfl, by decide +kernel, by decide +kernel⟩
abbrev s_read_saying : Stmt := top 26
theorem sc_read_saying : FnScope ["text", "sides"] ["text"] (defScope s_read_saying) := ⟨rfl, rfl, rfl, by decide +kernel, rfl, by decide +kernel, by decide +kernel⟩
abbrev s_read_rule : Stmt := top 27
theorem sc_read_rule : FnScope ["text", "halves", "premises"] ["text"] (defScope s_read_rule) := ⟨rfl, rfl, rfl, by decide +kernel, rfl, by decide +kernel, by decide +kernel⟩
def spRead : Sp := fun vs H Q _ => ∃ t : Tm, vs = [.str (wrS t)] ∧ Fit 20 t ∧ wt t ≤ 30 ∧ ∀ v H', Same H H' → TAt H' t v → Q v H'
def spReadS : Sp := fun vs H Q _ => ∃ p : Tm × Tm, vs = [.str (sayS p)] ∧ FitS 20 30 p ∧ ∀ v H', Same H H' → SAt H' p v → Q v H'
def spReadR : Sp := fun vs H Q _ => ∃ r : List (Tm × Tm) × (Tm × Tm), vs = [.str (ruleS r)] ∧ r.1.length ≤ 5 ∧ (∀ p ∈ r.1, FitS 20 6 p) ∧ FitS 20 6 r.2 ∧ ∀ v H', Same H H' → RAt H' r v → Q v H'
theorem same_make {H H' : Hp} {x dx : Addr} {o : HO} {o2 : HO} (h1 : H x = none) (h2 : H dx = none) (e : SameX x (upd (upd H dx o) x o2) H') : Same H H' := fun b o' h => by
  have n1 : b ≠ x := ne_of_none h h1
  have n2 : b ≠ dx := ne_of_none h h2
  exact e b o' (by rw [upd_ne n1, upd_ne n2]; exact h) n1
section
variable {P : Program} {w : World} {K : PySem.W.Frag} {mg : Str → Option Value} {base : Heap} {f : Addr} {fd : FuncData}
theorem ok_read (bi : Bi mg) {C : Addr} (T : RdC K C) (cl_Reader : Cls K C) (g_MOST_SIGNS_OF_TERM : Gc mg "MOST_SIGNS_OF_TERM" (.int 400)) (g_MOST_DEEP : Gc mg "MOST_DEEP" (.int 20)) (g_MOST_LEAVES : Gc mg "MOST_LEAVES" (.int 60))
    (h_need : Has P w K mg base 1 "need" ["held", "words"] spNeed) (h_Reader_init : HasI P w K mg base 1 C "Reader" ["self", "text"] (spRInit C)) (h_Reader_term : HasM P w K mg base 45 C "term" ["self", "room"] (spTermR C 21)) (h_leaves : Has P w K mg base 22 "leaves" ["t"] (spLv 22))
    (F : Fun K "read" "read" s_read f fd) : FnOk P w K mg base CX0 46 f fd ["text"] spRead := by
  refine F.ok sc_read (fun vs H Q E h => ?_) (fun cdv A outer s H vs Q E hr h => ?_)
  · obtain ⟨t, rfl, _⟩ := h
    rfl
  obtain ⟨t, rfl, hf, hw, q⟩ := h
  have hl := wrS_len hf
  have hl2 := wr_len _ _ hf
  refine ⟨_, (pss_cons (ps_expr (pe_callH h_need (hr.mono (by omega)) rfl (pa_cons (pe_callB (call_isi (T := "str")) rfl bi.isinstance bt_isinstance (pa_cons (pv 0) (pa_cons (pe_ty bi.str bt_str rfl) pa_nil))) (pa_cons pe_str pa_nil)))) (pss_cons (ps_expr (pe_callH h_need (hr.mono (by omega)) rfl (pa_cons (pe_cmpR op_le (pe_callB call_len rfl bi.len bt_len (pa_cons (pv 0) pa_nil)) (pe_gc g_MOST_SIGNS_OF_TERM rfl) (nomark _)) (pa_cons pe_str pa_nil)))) (pss_cons (ps_set (i := 1) sc_read.nd rfl (Or.inl rfl) (pe_makeH h_Reader_init (hr.mono (by omega)) rfl (pa_cons (pv 0) pa_nil))) (pss_cons (ps_set (i := 2) sc_read.nd rfl (Or.inl rfl) (pe_methH h_Reader_term cl_Reader (hr.mono (by omega)) (pv 1) (pa_cons (pe_gc g_MOST_DEEP rfl) pa_nil))) (pss_cons (ps_expr (pe_callH h_need (hr.mono (by omega)) rfl (pa_cons (pe_cmpR op_eq (pe_fld (pv 1) rfl) (pe_callB call_len rfl bi.len bt_len (pa_cons (pv 0) pa_nil)) (nomark _)) (pa_cons pe_str pa_nil)))) (pss_cons (ps_expr (pe_callH h_need (hr.mono (by omega)) rfl (pa_cons (pe_cmpR op_le (pe_callH h_leaves (hr.mono (by omega)) rfl (pa_cons (pv 2) pa_nil)) (pe_gc g_MOST_LEAVES rfl) (nomark _)) (pa_cons pe_str pa_nil)))) (pss_one (ps_ret (pv 2))))))))), ?_⟩
  refine seq_abs fun N hN => ?_
  simp only [tSeq, tFor_eq, tLC_eq, iRng1, iRng2, iList, iTup, iStr, tIfS, tRet, tRetN, tNext, tAsg, gName, tVar, tC, tOp, rI0, rI, tTest, tB, rEq, rNe, tCall, tCons, tNil, tCB, tLst, tTup, tAnd, tOr, tNot, tAndV, tOrV, tNotV, tIf, tDrop, tSl, tPart, tNoPart, tChain, tUn, rU, L2.start, cx_K, bk_K, cx_calm, bk_calm, lenV_str, and_assoc, Option.join, List.length_map, List.length_append, decide_eq_true_eq, Bool.false_eq_true, if_false, if_true, Bool.not_true, Bool.not_false, Bool.not_eq_true', decide_eq_false_iff_not, Bool.true_eq_false, List.length_cons, List.length_nil, List.map_cons, List.map_nil, List.replicate, List.cons_append, List.nil_append, List.append_nil, List.getElem?_cons_zero, List.getElem?_cons_succ, List.set_cons_zero, List.set_cons_succ, Nat.reduceSub, Nat.reduceAdd, Option.some.injEq, V.int.injEq, V.str.injEq, V.bl.injEq, V.ref.injEq, List.cons.injEq, and_true, true_and, exists_eq_left', exists_eq_left, exists_and_left, exists_eq_right, exists_const, tBM, tBM0, rAppend, rPop, rIxL, rIxT, rIxS, rSlL, rSlT, rSlS, rCat, rCatT, tKGet, cx_w, bk_w, tDGet, tDisp, tPairs, tDNewK, spNeed]
  refine ⟨_, .str _, true, kit_same, rfl, hN _ _ ?_⟩
  refine seq_abs fun N hN => ?_
  simp only [tSeq, tFor_eq, tLC_eq, iRng1, iRng2, iList, iTup, iStr, tIfS, tRet, tRetN, tNext, tAsg, gName, tVar, tC, tOp, rI0, rI, tTest, tB, rEq, rNe, tCall, tCons, tNil, tCB, tLst, tTup, tAnd, tOr, tNot, tAndV, tOrV, tNotV, tIf, tDrop, tSl, tPart, tNoPart, tChain, tUn, rU, L2.start, cx_K, bk_K, cx_calm, bk_calm, lenV_str, and_assoc, Option.join, List.length_map, List.length_append, decide_eq_true_eq, Bool.false_eq_true, if_false, if_true, Bool.not_true, Bool.not_false, Bool.not_eq_true', decide_eq_false_iff_not, Bool.true_eq_false, List.length_cons, List.length_nil, List.map_cons, List.map_nil, List.replicate, List.cons_append, List.nil_append, List.append_nil, List.getElem?_cons_zero, List.getElem?_cons_succ, List.set_cons_zero, List.set_cons_succ, Nat.reduceSub, Nat.reduceAdd, Option.some.injEq, V.int.injEq, V.str.injEq, V.bl.injEq, V.ref.injEq, List.cons.injEq, and_true, true_and, exists_eq_left', exists_eq_left, exists_and_left, exists_eq_right, exists_const, tBM, tBM0, rAppend, rPop, rIxL, rIxT, rIxS, rSlL, rSlT, rSlS, rCat, rCatT, tKGet, cx_w, bk_w, tDGet, tDisp, tPairs, tDNewK, spNeed]
  refine ⟨big (by omega), by omega, hN _ _ ?_⟩
  refine seq_abs fun N hN => ?_
  simp only [tSeq, tFor_eq, tLC_eq, iRng1, iRng2, iList, iTup, iStr, tIfS, tRet, tRetN, tNext, tAsg, gName, tVar, tC, tOp, rI0, rI, tTest, tB, rEq, rNe, tCall, tCons, tNil, tCB, tLst, tTup, tAnd, tOr, tNot, tAndV, tOrV, tNotV, tIf, tDrop, tSl, tPart, tNoPart, tChain, tUn, rU, L2.start, cx_K, bk_K, cx_calm, bk_calm, lenV_str, and_assoc, Option.join, List.length_map, List.length_append, decide_eq_true_eq, Bool.false_eq_true, if_false, if_true, Bool.not_true, Bool.not_false, Bool.not_eq_true', decide_eq_false_iff_not, Bool.true_eq_false, List.length_cons, List.length_nil, List.map_cons, List.map_nil, List.replicate, List.cons_append, List.nil_append, List.append_nil, List.getElem?_cons_zero, List.getElem?_cons_succ, List.set_cons_zero, List.set_cons_succ, Nat.reduceSub, Nat.reduceAdd, Option.some.injEq, V.int.injEq, V.str.injEq, V.bl.injEq, V.ref.injEq, List.cons.injEq, and_true, true_and, exists_eq_left', exists_eq_left, exists_and_left, exists_eq_right, exists_const, tBM, tBM0, rAppend, rPop, rIxL, rIxT, rIxS, rSlL, rSlT, rSlS, rCat, rCatT, tKGet, cx_w, bk_w, tDGet, tDisp, tPairs, tDNewK, tMake, spRInit]
  refine fun r dx hr1 hd1 hne => ⟨dx, wr t, rfl, upd_same, fun H1 e1 rd1 => hN _ _ ?_⟩
  have e01 := same_make hr1 hd1 e1
  obtain ⟨d1, hr1'⟩ := rd1
  refine seq_abs fun N hN => ?_
  simp only [tSeq, tFor_eq, tLC_eq, iRng1, iRng2, iList, iTup, iStr, tIfS, tRet, tRetN, tNext, tAsg, gName, tVar, tC, tOp, rI0, rI, tTest, tB, rEq, rNe, tCall, tCons, tNil, tCB, tLst, tTup, tAnd, tOr, tNot, tAndV, tOrV, tNotV, tIf, tDrop, tSl, tPart, tNoPart, tChain, tUn, rU, L2.start, cx_K, bk_K, cx_calm, bk_calm, lenV_str, and_assoc, Option.join, List.length_map, List.length_append, decide_eq_true_eq, Bool.false_eq_true, if_false, if_true, Bool.not_true, Bool.not_false, Bool.not_eq_true', decide_eq_false_iff_not, Bool.true_eq_false, List.length_cons, List.length_nil, List.map_cons, List.map_nil, List.replicate, List.cons_append, List.nil_append, List.append_nil, List.getElem?_cons_zero, List.getElem?_cons_succ, List.set_cons_zero, List.set_cons_succ, Nat.reduceSub, Nat.reduceAdd, Option.some.injEq, V.int.injEq, V.str.injEq, V.bl.injEq, V.ref.injEq, List.cons.injEq, and_true, true_and, exists_eq_left', exists_eq_left, exists_and_left, exists_eq_right, exists_const, tBM, tBM0, rAppend, rPop, rIxL, rIxT, rIxS, rSlL, rSlT, rSlS, rCat, rCatT, tKGet, cx_w, bk_w, tDGet, tDisp, tPairs, tDNewK, tMeth, spTermR]
  refine ⟨d1, _, hr1', rd_no _ _ (by decide +kernel) (by decide +kernel), by decide, wr t, 0, ⟨d1, hr1'⟩, Nat.zero_le _, by omega, t, [], ?_, fun v H2 e2 rd2 tv => hN _ _ ?_⟩
  · have := pTerm_wr 20 t [] hf (fun c q z => by cases z)
    rw [List.append_nil] at this
    exact this
  have e02 : Same H H2 := fun b o h => e2 b o (e01 b o h) (ne_of_none h hr1)
  obtain ⟨d2, hr2⟩ := rd2
  refine seq_abs fun N hN => ?_
  simp only [tSeq, tFor_eq, tLC_eq, iRng1, iRng2, iList, iTup, iStr, tIfS, tRet, tRetN, tNext, tAsg, gName, tVar, tC, tOp, rI0, rI, tTest, tB, rEq, rNe, tCall, tCons, tNil, tCB, tLst, tTup, tAnd, tOr, tNot, tAndV, tOrV, tNotV, tIf, tDrop, tSl, tPart, tNoPart, tChain, tUn, rU, L2.start, cx_K, bk_K, cx_calm, bk_calm, lenV_str, and_assoc, Option.join, List.length_map, List.length_append, decide_eq_true_eq, Bool.false_eq_true, if_false, if_true, Bool.not_true, Bool.not_false, Bool.not_eq_true', decide_eq_false_iff_not, Bool.true_eq_false, List.length_cons, List.length_nil, List.map_cons, List.map_nil, List.replicate, List.cons_append, List.nil_append, List.append_nil, List.getElem?_cons_zero, List.getElem?_cons_succ, List.set_cons_zero, List.set_cons_succ, Nat.reduceSub, Nat.reduceAdd, Option.some.injEq, V.int.injEq, V.str.injEq, V.bl.injEq, V.ref.injEq, List.cons.injEq, and_true, true_and, exists_eq_left', exists_eq_left, exists_and_left, exists_eq_right, exists_const, tBM, tBM0, rAppend, rPop, rIxL, rIxT, rIxS, rSlL, rSlT, rSlS, rCat, rCatT, tKGet, cx_w, bk_w, tDGet, tDisp, tPairs, tDNewK, tFld, spNeed]
  have hx : (wr t).length - ([] : Cs).length = (wr t).length := rfl
  have hwl : (wrS t).length = (wr t).length := toS_len _
  rw [hx] at hr2
  refine ⟨C, d2, _, hr2, T.cl, T.nA, _, rd_at _ _, big (by omega), rfl, by rw [hwl], hN _ _ ?_⟩
  refine seq_abs fun N hN => ?_
  simp only [tSeq, tFor_eq, tLC_eq, iRng1, iRng2, iList, iTup, iStr, tIfS, tRet, tRetN, tNext, tAsg, gName, tVar, tC, tOp, rI0, rI, tTest, tB, rEq, rNe, tCall, tCons, tNil, tCB, tLst, tTup, tAnd, tOr, tNot, tAndV, tOrV, tNotV, tIf, tDrop, tSl, tPart, tNoPart, tChain, tUn, rU, L2.start, cx_K, bk_K, cx_calm, bk_calm, lenV_str, and_assoc, Option.join, List.length_map, List.length_append, decide_eq_true_eq, Bool.false_eq_true, if_false, if_true, Bool.not_true, Bool.not_false, Bool.not_eq_true', decide_eq_false_iff_not, Bool.true_eq_false, List.length_cons, List.length_nil, List.map_cons, List.map_nil, List.replicate, List.cons_append, List.nil_append, List.append_nil, List.getElem?_cons_zero, List.getElem?_cons_succ, List.set_cons_zero, List.set_cons_succ, Nat.reduceSub, Nat.reduceAdd, Option.some.injEq, V.int.injEq, V.str.injEq, V.bl.injEq, V.ref.injEq, List.cons.injEq, and_true, true_and, exists_eq_left', exists_eq_left, exists_and_left, exists_eq_right, exists_const, tBM, tBM0, rAppend, rPop, rIxL, rIxT, rIxS, rSlL, rSlT, rSlS, rCat, rCatT, tKGet, cx_w, bk_w, tDGet, tDisp, tPairs, tDNewK, spNeed, spLv]
  refine ⟨t, tv, hf, by omega, fun m H3 e3 h1 h2 => ⟨by omega, hN _ _ ?_⟩⟩
  simp only [tSeq, tFor_eq, tLC_eq, iRng1, iRng2, iList, iTup, iStr, tIfS, tRet, tRetN, tNext, tAsg, gName, tVar, tC, tOp, rI0, rI, tTest, tB, rEq, rNe, tCall, tCons, tNil, tCB, tLst, tTup, tAnd, tOr, tNot, tAndV, tOrV, tNotV, tIf, tDrop, tSl, tPart, tNoPart, tChain, tUn, rU, L2.start, cx_K, bk_K, cx_calm, bk_calm, lenV_str, and_assoc, Option.join, List.length_map, List.length_append, decide_eq_true_eq, Bool.false_eq_true, if_false, if_true, Bool.not_true, Bool.not_false, Bool.not_eq_true', decide_eq_false_iff_not, Bool.true_eq_false, List.length_cons, List.length_nil, List.map_cons, List.map_nil, List.replicate, List.cons_append, List.nil_append, List.append_nil, List.getElem?_cons_zero, List.getElem?_cons_succ, List.set_cons_zero, List.set_cons_succ, Nat.reduceSub, Nat.reduceAdd, Option.some.injEq, V.int.injEq, V.str.injEq, V.bl.injEq, V.ref.injEq, List.cons.injEq, and_true, true_and, exists_eq_left', exists_eq_left, exists_and_left, exists_eq_right, exists_const, tBM, tBM0, rAppend, rPop, rIxL, rIxT, rIxS, rSlL, rSlT, rSlS, rCat, rCatT, tKGet, cx_w, bk_w, tDGet, tDisp, tPairs, tDNewK]
  exact q _ _ (e02.trans e3) (TAt.tups e3.tups tv)
theorem ok_read_saying (bi : Bi mg) (g_UNDER : Gc mg "UNDER" (.str " < ")) (h_need : Has P w K mg base 1 "need" ["held", "words"] spNeed) (h_read : Has P w K mg base 46 "read" ["text"] spRead) (F : Fun K "read_saying" "read_saying" s_read_saying f fd) : FnOk P w K mg base CX0 47 f fd ["text"] spReadS := by
  refine F.ok sc_read_saying (fun vs H Q E h => ?_) (fun cdv A outer s H vs Q E hr h => ?_)
  · obtain ⟨t, rfl, _⟩ := h
    rfl
  obtain ⟨p, rfl, hf, q⟩ := h
  have hl := sayS_len hf.1.1 hf.2.1
  have w1 := hf.1.2
  have w2 := hf.2.2
  refine ⟨_, (pss_cons (ps_expr (pe_callH h_need (hr.mono (by omega)) rfl (pa_cons (pe_callB (call_isi (T := "str")) rfl bi.isinstance bt_isinstance (pa_cons (pv 0) (pa_cons (pe_ty bi.str bt_str rfl) pa_nil))) (pa_cons pe_str pa_nil)))) (pss_cons (ps_set (i := 1) sc_read_saying.nd rfl (Or.inl rfl) (pe_bm PySem.F.plainAttrs_str PySem.F.slot_str_split PySem.F.type_str_split mt_split (pv 0) (pa_cons (pe_gc g_UNDER rfl) pa_nil))) (pss_cons (ps_expr (pe_callH h_need (hr.mono (by omega)) rfl (pa_cons (pe_cmpR op_eq (pe_callB call_len rfl bi.len bt_len (pa_cons (pv 1) pa_nil)) pe_int (nomark _)) (pa_cons pe_str pa_nil)))) (pss_one (ps_ret (pe_tup (pa_cons (pe_callH h_read (hr.mono (by omega)) rfl (pa_cons (pe_ix ix_list (pv 1) pe_int (fun _ _ => rfl)) pa_nil)) (pa_cons (pe_callH h_read (hr.mono (by omega)) rfl (pa_cons (pe_ix ix_list (pv 1) pe_int (fun _ _ => rfl)) pa_nil)) pa_nil)))))))), ?_⟩
  refine seq_abs fun N hN => ?_
  simp only [tSeq, tFor_eq, tLC_eq, iRng1, iRng2, iList, iTup, iStr, tIfS, tRet, tRetN, tNext, tAsg, gName, tVar, tC, tOp, rI0, rI, tTest, tB, rEq, rNe, tCall, tCons, tNil, tCB, tLst, tTup, tAnd, tOr, tNot, tAndV, tOrV, tNotV, tIf, tDrop, tSl, tPart, tNoPart, tChain, tUn, rU, L2.start, cx_K, bk_K, cx_calm, bk_calm, lenV_str, and_assoc, Option.join, List.length_map, List.length_append, decide_eq_true_eq, Bool.false_eq_true, if_false, if_true, Bool.not_true, Bool.not_false, Bool.not_eq_true', decide_eq_false_iff_not, Bool.true_eq_false, List.length_cons, List.length_nil, List.map_cons, List.map_nil, List.replicate, List.cons_append, List.nil_append, List.append_nil, List.getElem?_cons_zero, List.getElem?_cons_succ, List.set_cons_zero, List.set_cons_succ, Nat.reduceSub, Nat.reduceAdd, Option.some.injEq, V.int.injEq, V.str.injEq, V.bl.injEq, V.ref.injEq, List.cons.injEq, and_true, true_and, exists_eq_left', exists_eq_left, exists_and_left, exists_eq_right, exists_const, tBM, tBM0, rAppend, rPop, rIxL, rIxT, rIxS, rSlL, rSlT, rSlS, rCat, rCatT, tKGet, cx_w, bk_w, tDGet, tDisp, tPairs, tDNewK, spNeed]
  refine ⟨_, .str _, true, kit_same, rfl, hN _ _ ?_⟩
  refine seq_abs fun N hN => ?_
  simp only [tSeq, tFor_eq, tLC_eq, iRng1, iRng2, iList, iTup, iStr, tIfS, tRet, tRetN, tNext, tAsg, gName, tVar, tC, tOp, rI0, rI, tTest, tB, rEq, rNe, tCall, tCons, tNil, tCB, tLst, tTup, tAnd, tOr, tNot, tAndV, tOrV, tNotV, tIf, tDrop, tSl, tPart, tNoPart, tChain, tUn, rU, L2.start, cx_K, bk_K, cx_calm, bk_calm, lenV_str, and_assoc, Option.join, List.length_map, List.length_append, decide_eq_true_eq, Bool.false_eq_true, if_false, if_true, Bool.not_true, Bool.not_false, Bool.not_eq_true', decide_eq_false_iff_not, Bool.true_eq_false, List.length_cons, List.length_nil, List.map_cons, List.map_nil, List.replicate, List.cons_append, List.nil_append, List.append_nil, List.getElem?_cons_zero, List.getElem?_cons_succ, List.set_cons_zero, List.set_cons_succ, Nat.reduceSub, Nat.reduceAdd, Option.some.injEq, V.int.injEq, V.str.injEq, V.bl.injEq, V.ref.injEq, List.cons.injEq, and_true, true_and, exists_eq_left', exists_eq_left, exists_and_left, exists_eq_right, exists_const, tBM, tBM0, rAppend, rPop, rIxL, rIxT, rIxS, rSlL, rSlT, rSlS, rCat, rCatT, tKGet, cx_w, bk_w, tDGet, tDisp, tPairs, tDNewK]
  refine ⟨rfl, by decide +kernel, big (by omega), fun p1 hp1 => hN _ _ ?_⟩
  have es : Txt.split (sayS p) " < " = [wrS p.1, wrS p.2] := by
    rw [s_under]
    exact split_say ⟨hf.1.1, hf.2.1⟩
  rw [es]
  have e1 := same_new hp1 (.lst [.str (wrS p.1), .str (wrS p.2)])
  have h1 : upd H p1 (.lst [.str (wrS p.1), .str (wrS p.2)]) p1 = some (.lst [.str (wrS p.1), .str (wrS p.2)]) := upd_same
  show tSeq _ _ _ [some (V.str (sayS p)), some (V.ref p1)] (upd H p1 (.lst [.str (wrS p.1), .str (wrS p.2)]))
  generalize upd H p1 (.lst [.str (wrS p.1), .str (wrS p.2)]) = H1 at e1 h1 ⊢
  refine seq_abs fun N hN => ?_
  simp only [tSeq, tFor_eq, tLC_eq, iRng1, iRng2, iList, iTup, iStr, tIfS, tRet, tRetN, tNext, tAsg, gName, tVar, tC, tOp, rI0, rI, tTest, tB, rEq, rNe, tCall, tCons, tNil, tCB, tLst, tTup, tAnd, tOr, tNot, tAndV, tOrV, tNotV, tIf, tDrop, tSl, tPart, tNoPart, tChain, tUn, rU, L2.start, cx_K, bk_K, cx_calm, bk_calm, lenV_str, and_assoc, Option.join, List.length_map, List.length_append, decide_eq_true_eq, Bool.false_eq_true, if_false, if_true, Bool.not_true, Bool.not_false, Bool.not_eq_true', decide_eq_false_iff_not, Bool.true_eq_false, List.length_cons, List.length_nil, List.map_cons, List.map_nil, List.replicate, List.cons_append, List.nil_append, List.append_nil, List.getElem?_cons_zero, List.getElem?_cons_succ, List.set_cons_zero, List.set_cons_succ, Nat.reduceSub, Nat.reduceAdd, Option.some.injEq, V.int.injEq, V.str.injEq, V.bl.injEq, V.ref.injEq, List.cons.injEq, and_true, true_and, exists_eq_left', exists_eq_left, exists_and_left, exists_eq_right, exists_const, tBM, tBM0, rAppend, rPop, rIxL, rIxT, rIxS, rSlL, rSlT, rSlS, rCat, rCatT, tKGet, cx_w, bk_w, tDGet, tDisp, tPairs, tDNewK, spNeed]
  refine ⟨_, .inl ⟨_, SqL.of h1, rfl⟩, rfl, rfl, hN _ _ ?_⟩
  simp only [tSeq, tFor_eq, tLC_eq, iRng1, iRng2, iList, iTup, iStr, tIfS, tRet, tRetN, tNext, tAsg, gName, tVar, tC, tOp, rI0, rI, tTest, tB, rEq, rNe, tCall, tCons, tNil, tCB, tLst, tTup, tAnd, tOr, tNot, tAndV, tOrV, tNotV, tIf, tDrop, tSl, tPart, tNoPart, tChain, tUn, rU, L2.start, cx_K, bk_K, cx_calm, bk_calm, lenV_str, and_assoc, Option.join, List.length_map, List.length_append, decide_eq_true_eq, Bool.false_eq_true, if_false, if_true, Bool.not_true, Bool.not_false, Bool.not_eq_true', decide_eq_false_iff_not, Bool.true_eq_false, List.length_cons, List.length_nil, List.map_cons, List.map_nil, List.replicate, List.cons_append, List.nil_append, List.append_nil, List.getElem?_cons_zero, List.getElem?_cons_succ, List.set_cons_zero, List.set_cons_succ, Nat.reduceSub, Nat.reduceAdd, Option.some.injEq, V.int.injEq, V.str.injEq, V.bl.injEq, V.ref.injEq, List.cons.injEq, and_true, true_and, exists_eq_left', exists_eq_left, exists_and_left, exists_eq_right, exists_const, tBM, tBM0, rAppend, rPop, rIxL, rIxT, rIxS, rSlL, rSlT, rSlS, rCat, rCatT, tKGet, cx_w, bk_w, tDGet, tDisp, tPairs, tDNewK, spRead]
  refine ⟨_, SqL.of h1, _, at0, p.1, rfl, hf.1.1, hf.1.2, fun v1 H2 e2 t1 => ⟨_, SqL.of (e2 _ _ h1), _, at1, p.2, rfl, hf.2.1, hf.2.2, fun v2 H3 e3 t2 => ⟨small (by decide), fun p4 hp4 => ?_⟩⟩⟩
  have e4 := same_new hp4 (.tup [v1, v2])
  exact q _ _ (((e1.trans e2).trans e3).trans e4) (SAt.mk upd_same (TAt.tups (e3.trans e4).tups t1) (TAt.tups e4.tups t2))
theorem ok_read_rule (bi : Bi mg) (g_COMMA : Gc mg "COMMA" (.str ", ")) (g_ARROW : Gc mg "ARROW" (.str " => ")) (g_MOST_SIGNS_OF_RULE : Gc mg "MOST_SIGNS_OF_RULE" (.int 3000)) (g_MOST_PREMISES : Gc mg "MOST_PREMISES" (.int 5)) (h_need : Has P w K mg base 1 "need" ["held", "words"] spNeed) (h_read_saying : Has P w K mg base 47 "read_saying" ["text"] spReadS) (F : Fun K "read_rule" "read_rule" s_read_rule f fd) : FnOk P w K mg base CX0 48 f fd ["text"] spReadR := by
  refine F.ok sc_read_rule (fun vs H Q E h => ?_) (fun cdv A outer s H vs Q E hr h => ?_)
  · obtain ⟨t, rfl, _⟩ := h
    rfl
  obtain ⟨r, rfl, h5, hf1, hf2, q⟩ := h
  have sl : ∀ p, FitS 20 6 p → 3 ≤ (sayS p).length ∧ (sayS p).length ≤ 156 := fun p hp => by
    have := sayS_len hp.1.1 hp.2.1
    have := hp.1.2
    have := hp.2.2
    omega
  have f3 : ∀ p, FitS 20 6 p → FitS 20 30 p := fun p hp => hp.mono (by omega) (by omega)
  have fp : ∀ p, FitS 20 6 p → FitP 20 p := fun p hp => ⟨hp.1.1, hp.2.1⟩
  have s2 := sl _ hf2
  have pl := prS_len (m := 156) r.1 fun y hy => (sl y (hf1 y hy)).2
  have tb : r.1.length * (156 + 2) ≤ 5 * 158 := Nat.mul_le_mul_right _ h5
  have hl : (ruleS r).length ≤ 1000 := by
    obtain ⟨ps, c⟩ := r
    by_cases h0 : ps = []
    · subst h0
      rw [ruleS_nil]
      have : (sayS c).length ≤ 156 := s2.2
      omega
    · rw [ruleS_cons _ h0, len_app, len_app]
      have l4 : (" => " : Str).length = 4 := by decide +kernel
      have : (sayS c).length ≤ 156 := s2.2
      have : (prS ps).length ≤ 5 * 158 := Nat.le_trans pl tb
      omega
  refine ⟨_, (pss_cons (ps_expr (pe_callH h_need (hr.mono (by omega)) rfl (pa_cons (pe_callB (call_isi (T := "str")) rfl bi.isinstance bt_isinstance (pa_cons (pv 0) (pa_cons (pe_ty bi.str bt_str rfl) pa_nil))) (pa_cons pe_str pa_nil)))) (pss_cons (ps_expr (pe_callH h_need (hr.mono (by omega)) rfl (pa_cons (pe_cmpR op_le (pe_callB call_len rfl bi.len bt_len (pa_cons (pv 0) pa_nil)) (pe_gc g_MOST_SIGNS_OF_RULE rfl) (nomark _)) (pa_cons pe_str pa_nil)))) (pss_cons (ps_set (i := 1) sc_read_rule.nd rfl (Or.inl rfl) (pe_bm PySem.F.plainAttrs_str PySem.F.slot_str_split PySem.F.type_str_split mt_split (pv 0) (pa_cons (pe_gc g_ARROW rfl) pa_nil))) (pss_cons (ps_if (pt_cmpR op_eq (pe_callB call_len rfl bi.len bt_len (pa_cons (pv 1) pa_nil)) pe_int (nomark _)) (pss_one (ps_ret (pe_tup (pa_cons (pe_lst pa_nil) (pa_cons (pe_callH h_read_saying (hr.mono (by omega)) rfl (pa_cons (pv 0) pa_nil)) pa_nil))))) pss_nil) (pss_cons (ps_expr (pe_callH h_need (hr.mono (by omega)) rfl (pa_cons (pe_cmpR op_eq (pe_callB call_len rfl bi.len bt_len (pa_cons (pv 1) pa_nil)) pe_int (nomark _)) (pa_cons pe_str pa_nil)))) (pss_cons (ps_set (i := 2) sc_read_rule.nd rfl (Or.inl rfl) (pe_bm PySem.F.plainAttrs_str PySem.F.slot_str_split PySem.F.type_str_split mt_split (pe_ix ix_list (pv 1) pe_int (fun _ _ => rfl)) (pa_cons (pe_gc g_COMMA rfl) pa_nil))) (pss_cons (ps_expr (pe_callH h_need (hr.mono (by omega)) rfl (pa_cons (pe_cmpR op_le (pe_callB call_len rfl bi.len bt_len (pa_cons (pv 2) pa_nil)) (pe_gc g_MOST_PREMISES rfl) (nomark _)) (pa_cons pe_str pa_nil)))) (pss_one (ps_ret (pe_tup (pa_cons (pe_comp ["premise"] [] [] (pi_list (pv 2)) (fun _ _ _ _ nd => pg_name (i := 0) nd rfl (Or.inl rfl)) (fun _ _ _ _ => pif_nil) (fun _ _ _ _ => (pe_callH h_read_saying (hr.mono (by omega)) rfl (pa_cons (pv 0) pa_nil)))) (pa_cons (pe_callH h_read_saying (hr.mono (by omega)) rfl (pa_cons (pe_ix ix_list (pv 1) pe_int (fun _ _ => rfl)) pa_nil)) pa_nil)))))))))))), ?_⟩
  refine seq_abs fun N hN => ?_
  simp only [tSeq, tFor_eq, tLC_eq, iRng1, iRng2, iList, iTup, iStr, tIfS, tRet, tRetN, tNext, tAsg, gName, tVar, tC, tOp, rI0, rI, tTest, tB, rEq, rNe, tCall, tCons, tNil, tCB, tLst, tTup, tAnd, tOr, tNot, tAndV, tOrV, tNotV, tIf, tDrop, tSl, tPart, tNoPart, tChain, tUn, rU, L2.start, cx_K, bk_K, cx_calm, bk_calm, lenV_str, and_assoc, Option.join, List.length_map, List.length_append, decide_eq_true_eq, Bool.false_eq_true, if_false, if_true, Bool.not_true, Bool.not_false, Bool.not_eq_true', decide_eq_false_iff_not, Bool.true_eq_false, List.length_cons, List.length_nil, List.map_cons, List.map_nil, List.replicate, List.cons_append, List.nil_append, List.append_nil, List.getElem?_cons_zero, List.getElem?_cons_succ, List.set_cons_zero, List.set_cons_succ, Nat.reduceSub, Nat.reduceAdd, Option.some.injEq, V.int.injEq, V.str.injEq, V.bl.injEq, V.ref.injEq, List.cons.injEq, and_true, true_and, exists_eq_left', exists_eq_left, exists_and_left, exists_eq_right, exists_const, tBM, tBM0, rAppend, rPop, rIxL, rIxT, rIxS, rSlL, rSlT, rSlS, rCat, rCatT, tKGet, cx_w, bk_w, tDGet, tDisp, tPairs, tDNewK, spNeed]
  refine ⟨_, .str _, true, kit_same, rfl, hN _ _ ?_⟩
  refine seq_abs fun N hN => ?_
  simp only [tSeq, tFor_eq, tLC_eq, iRng1, iRng2, iList, iTup, iStr, tIfS, tRet, tRetN, tNext, tAsg, gName, tVar, tC, tOp, rI0, rI, tTest, tB, rEq, rNe, tCall, tCons, tNil, tCB, tLst, tTup, tAnd, tOr, tNot, tAndV, tOrV, tNotV, tIf, tDrop, tSl, tPart, tNoPart, tChain, tUn, rU, L2.start, cx_K, bk_K, cx_calm, bk_calm, lenV_str, and_assoc, Option.join, List.length_map, List.length_append, decide_eq_true_eq, Bool.false_eq_true, if_false, if_true, Bool.not_true, Bool.not_false, Bool.not_eq_true', decide_eq_false_iff_not, Bool.true_eq_false, List.length_cons, List.length_nil, List.map_cons, List.map_nil, List.replicate, List.cons_append, List.nil_append, List.append_nil, List.getElem?_cons_zero, List.getElem?_cons_succ, List.set_cons_zero, List.set_cons_succ, Nat.reduceSub, Nat.reduceAdd, Option.some.injEq, V.int.injEq, V.str.injEq, V.bl.injEq, V.ref.injEq, List.cons.injEq, and_true, true_and, exists_eq_left', exists_eq_left, exists_and_left, exists_eq_right, exists_const, tBM, tBM0, rAppend, rPop, rIxL, rIxT, rIxS, rSlL, rSlT, rSlS, rCat, rCatT, tKGet, cx_w, bk_w, tDGet, tDisp, tPairs, tDNewK, spNeed]
  refine ⟨big (by omega), by omega, hN _ _ ?_⟩
  refine seq_abs fun N hN => ?_
  simp only [tSeq, tFor_eq, tLC_eq, iRng1, iRng2, iList, iTup, iStr, tIfS, tRet, tRetN, tNext, tAsg, gName, tVar, tC, tOp, rI0, rI, tTest, tB, rEq, rNe, tCall, tCons, tNil, tCB, tLst, tTup, tAnd, tOr, tNot, tAndV, tOrV, tNotV, tIf, tDrop, tSl, tPart, tNoPart, tChain, tUn, rU, L2.start, cx_K, bk_K, cx_calm, bk_calm, lenV_str, and_assoc, Option.join, List.length_map, List.length_append, decide_eq_true_eq, Bool.false_eq_true, if_false, if_true, Bool.not_true, Bool.not_false, Bool.not_eq_true', decide_eq_false_iff_not, Bool.true_eq_false, List.length_cons, List.length_nil, List.map_cons, List.map_nil, List.replicate, List.cons_append, List.nil_append, List.append_nil, List.getElem?_cons_zero, List.getElem?_cons_succ, List.set_cons_zero, List.set_cons_succ, Nat.reduceSub, Nat.reduceAdd, Option.some.injEq, V.int.injEq, V.str.injEq, V.bl.injEq, V.ref.injEq, List.cons.injEq, and_true, true_and, exists_eq_left', exists_eq_left, exists_and_left, exists_eq_right, exists_const, tBM, tBM0, rAppend, rPop, rIxL, rIxT, rIxS, rSlL, rSlT, rSlS, rCat, rCatT, tKGet, cx_w, bk_w, tDGet, tDisp, tPairs, tDNewK]
  refine ⟨rfl, by decide +kernel, big (by omega), fun p1 hp1 => hN _ _ ?_⟩
  by_cases h0 : r.1 = []
  · have es : Txt.split (ruleS r) " => " = [sayS r.2] := by
      obtain ⟨ps, c⟩ := r
      have h0 : ps = [] := h0
      subst h0
      rw [s_arrow]
      exact split_rule0 (fp _ hf2)
    have er : ruleS r = sayS r.2 := by
      obtain ⟨ps, c⟩ := r
      have h0 : ps = [] := h0
      subst h0
      exact ruleS_nil c
    rw [es]
    have e1 := same_new hp1 (.lst [.str (sayS r.2)])
    have h1 : upd H p1 (.lst [.str (sayS r.2)]) p1 = some (.lst [.str (sayS r.2)]) := upd_same
    show tSeq _ _ _ [some (V.str (ruleS r)), some (V.ref p1), none] (upd H p1 (.lst [.str (sayS r.2)]))
    generalize upd H p1 (.lst [.str (sayS r.2)]) = H1 at e1 h1 ⊢
    simp only [tSeq, tFor_eq, tLC_eq, iRng1, iRng2, iList, iTup, iStr, tIfS, tRet, tRetN, tNext, tAsg, gName, tVar, tC, tOp, rI0, rI, tTest, tB, rEq, rNe, tCall, tCons, tNil, tCB, tLst, tTup, tAnd, tOr, tNot, tAndV, tOrV, tNotV, tIf, tDrop, tSl, tPart, tNoPart, tChain, tUn, rU, L2.start, cx_K, bk_K, cx_calm, bk_calm, lenV_str, and_assoc, Option.join, List.length_map, List.length_append, decide_eq_true_eq, Bool.false_eq_true, if_false, if_true, Bool.not_true, Bool.not_false, Bool.not_eq_true', decide_eq_false_iff_not, Bool.true_eq_false, List.length_cons, List.length_nil, List.map_cons, List.map_nil, List.replicate, List.cons_append, List.nil_append, List.append_nil, List.getElem?_cons_zero, List.getElem?_cons_succ, List.set_cons_zero, List.set_cons_succ, Nat.reduceSub, Nat.reduceAdd, Option.some.injEq, V.int.injEq, V.str.injEq, V.bl.injEq, V.ref.injEq, List.cons.injEq, and_true, true_and, exists_eq_left', exists_eq_left, exists_and_left, exists_eq_right, exists_const, tBM, tBM0, rAppend, rPop, rIxL, rIxT, rIxS, rSlL, rSlT, rSlS, rCat, rCatT, tKGet, cx_w, bk_w, tDGet, tDisp, tPairs, tDNewK]
    refine ⟨_, .inl ⟨_, SqL.of h1, rfl⟩, rfl, ?_⟩
    rw [if_pos (show (([V.str (sayS r.2)].length : Nat) : Int) = 1 from rfl)]
    rw [er]
    refine ⟨small (by decide), fun p2 hp2 => ⟨r.2, rfl, f3 _ hf2, fun v H3 e3 hv => ⟨small (by decide), fun p4 hp4 => ?_⟩⟩⟩
    have e2 := same_new hp2 (.lst [])
    have e4 := same_new hp4 (.tup [V.ref p2, v])
    refine q _ _ (((e1.trans e2).trans e3).trans e4) (RAt.mk upd_same ((e3.trans e4) _ _ upd_same) (by rw [h0]; rfl) (DAt.same e4 hv))
  have es : Txt.split (ruleS r) " => " = [prS r.1, sayS r.2] := by
    rw [s_arrow]
    exact split_rule h0 (fun p hp => fp p (hf1 p hp)) (fp _ hf2)
  have es2 : Txt.split (prS r.1) ", " = r.1.map sayS := by
    rw [s_comma]
    have := split_prems h0 (fun p hp => fp p (hf1 p hp))
    rw [List.map_map] at this
    exact this
  rw [es]
  have e1 := same_new hp1 (.lst [.str (prS r.1), .str (sayS r.2)])
  have h1 : upd H p1 (.lst [.str (prS r.1), .str (sayS r.2)]) p1 = some (.lst [.str (prS r.1), .str (sayS r.2)]) := upd_same
  show tSeq _ _ _ [some (V.str (ruleS r)), some (V.ref p1), none] (upd H p1 (.lst [.str (prS r.1), .str (sayS r.2)]))
  generalize upd H p1 (.lst [.str (prS r.1), .str (sayS r.2)]) = H1 at e1 h1 ⊢
  refine seq_abs fun N hN => ?_
  simp only [tSeq, tFor_eq, tLC_eq, iRng1, iRng2, iList, iTup, iStr, tIfS, tRet, tRetN, tNext, tAsg, gName, tVar, tC, tOp, rI0, rI, tTest, tB, rEq, rNe, tCall, tCons, tNil, tCB, tLst, tTup, tAnd, tOr, tNot, tAndV, tOrV, tNotV, tIf, tDrop, tSl, tPart, tNoPart, tChain, tUn, rU, L2.start, cx_K, bk_K, cx_calm, bk_calm, lenV_str, and_assoc, Option.join, List.length_map, List.length_append, decide_eq_true_eq, Bool.false_eq_true, if_false, if_true, Bool.not_true, Bool.not_false, Bool.not_eq_true', decide_eq_false_iff_not, Bool.true_eq_false, List.length_cons, List.length_nil, List.map_cons, List.map_nil, List.replicate, List.cons_append, List.nil_append, List.append_nil, List.getElem?_cons_zero, List.getElem?_cons_succ, List.set_cons_zero, List.set_cons_succ, Nat.reduceSub, Nat.reduceAdd, Option.some.injEq, V.int.injEq, V.str.injEq, V.bl.injEq, V.ref.injEq, List.cons.injEq, and_true, true_and, exists_eq_left', exists_eq_left, exists_and_left, exists_eq_right, exists_const, tBM, tBM0, rAppend, rPop, rIxL, rIxT, rIxS, rSlL, rSlT, rSlS, rCat, rCatT, tKGet, cx_w, bk_w, tDGet, tDisp, tPairs, tDNewK]
  refine ⟨_, .inl ⟨_, SqL.of h1, rfl⟩, rfl, ?_⟩
  rw [if_neg (show ¬ (([V.str (prS r.1), V.str (sayS r.2)].length : Nat) : Int) = 1 from (by decide : ¬ ((2 : Nat) : Int) = 1))]
  refine hN _ _ ?_
  refine seq_abs fun N hN => ?_
  simp only [tSeq, tFor_eq, tLC_eq, iRng1, iRng2, iList, iTup, iStr, tIfS, tRet, tRetN, tNext, tAsg, gName, tVar, tC, tOp, rI0, rI, tTest, tB, rEq, rNe, tCall, tCons, tNil, tCB, tLst, tTup, tAnd, tOr, tNot, tAndV, tOrV, tNotV, tIf, tDrop, tSl, tPart, tNoPart, tChain, tUn, rU, L2.start, cx_K, bk_K, cx_calm, bk_calm, lenV_str, and_assoc, Option.join, List.length_map, List.length_append, decide_eq_true_eq, Bool.false_eq_true, if_false, if_true, Bool.not_true, Bool.not_false, Bool.not_eq_true', decide_eq_false_iff_not, Bool.true_eq_false, List.length_cons, List.length_nil, List.map_cons, List.map_nil, List.replicate, List.cons_append, List.nil_append, List.append_nil, List.getElem?_cons_zero, List.getElem?_cons_succ, List.set_cons_zero, List.set_cons_succ, Nat.reduceSub, Nat.reduceAdd, Option.some.injEq, V.int.injEq, V.str.injEq, V.bl.injEq, V.ref.injEq, List.cons.injEq, and_true, true_and, exists_eq_left', exists_eq_left, exists_and_left, exists_eq_right, exists_const, tBM, tBM0, rAppend, rPop, rIxL, rIxT, rIxS, rSlL, rSlT, rSlS, rCat, rCatT, tKGet, cx_w, bk_w, tDGet, tDisp, tPairs, tDNewK, spNeed]
  refine ⟨_, .inl ⟨_, SqL.of h1, rfl⟩, rfl, rfl, hN _ _ ?_⟩
  refine seq_abs fun N hN => ?_
  simp only [tSeq, tFor_eq, tLC_eq, iRng1, iRng2, iList, iTup, iStr, tIfS, tRet, tRetN, tNext, tAsg, gName, tVar, tC, tOp, rI0, rI, tTest, tB, rEq, rNe, tCall, tCons, tNil, tCB, tLst, tTup, tAnd, tOr, tNot, tAndV, tOrV, tNotV, tIf, tDrop, tSl, tPart, tNoPart, tChain, tUn, rU, L2.start, cx_K, bk_K, cx_calm, bk_calm, lenV_str, and_assoc, Option.join, List.length_map, List.length_append, decide_eq_true_eq, Bool.false_eq_true, if_false, if_true, Bool.not_true, Bool.not_false, Bool.not_eq_true', decide_eq_false_iff_not, Bool.true_eq_false, List.length_cons, List.length_nil, List.map_cons, List.map_nil, List.replicate, List.cons_append, List.nil_append, List.append_nil, List.getElem?_cons_zero, List.getElem?_cons_succ, List.set_cons_zero, List.set_cons_succ, Nat.reduceSub, Nat.reduceAdd, Option.some.injEq, V.int.injEq, V.str.injEq, V.bl.injEq, V.ref.injEq, List.cons.injEq, and_true, true_and, exists_eq_left', exists_eq_left, exists_and_left, exists_eq_right, exists_const, tBM, tBM0, rAppend, rPop, rIxL, rIxT, rIxS, rSlL, rSlT, rSlS, rCat, rCatT, tKGet, cx_w, bk_w, tDGet, tDisp, tPairs, tDNewK]
  refine ⟨_, SqL.of h1, _, at0, rfl, _, rfl, by decide +kernel, big (by omega), fun p2 hp2 => hN _ _ ?_⟩
  rw [es2]
  have e2 := same_new hp2 (.lst ((r.1.map sayS).map V.str))
  have h2 : upd H1 p2 (.lst ((r.1.map sayS).map V.str)) p2 = some (.lst ((r.1.map sayS).map V.str)) := upd_same
  generalize upd H1 p2 (.lst ((r.1.map sayS).map V.str)) = H2 at e2 h2 ⊢
  refine seq_abs fun N hN => ?_
  simp only [tSeq, tFor_eq, tLC_eq, iRng1, iRng2, iList, iTup, iStr, tIfS, tRet, tRetN, tNext, tAsg, gName, tVar, tC, tOp, rI0, rI, tTest, tB, rEq, rNe, tCall, tCons, tNil, tCB, tLst, tTup, tAnd, tOr, tNot, tAndV, tOrV, tNotV, tIf, tDrop, tSl, tPart, tNoPart, tChain, tUn, rU, L2.start, cx_K, bk_K, cx_calm, bk_calm, lenV_str, and_assoc, Option.join, List.length_map, List.length_append, decide_eq_true_eq, Bool.false_eq_true, if_false, if_true, Bool.not_true, Bool.not_false, Bool.not_eq_true', decide_eq_false_iff_not, Bool.true_eq_false, List.length_cons, List.length_nil, List.map_cons, List.map_nil, List.replicate, List.cons_append, List.nil_append, List.append_nil, List.getElem?_cons_zero, List.getElem?_cons_succ, List.set_cons_zero, List.set_cons_succ, Nat.reduceSub, Nat.reduceAdd, Option.some.injEq, V.int.injEq, V.str.injEq, V.bl.injEq, V.ref.injEq, List.cons.injEq, and_true, true_and, exists_eq_left', exists_eq_left, exists_and_left, exists_eq_right, exists_const, tBM, tBM0, rAppend, rPop, rIxL, rIxT, rIxS, rSlL, rSlT, rSlS, rCat, rCatT, tKGet, cx_w, bk_w, tDGet, tDisp, tPairs, tDNewK, spNeed]
  refine ⟨_, .inl ⟨_, SqL.of h2, rfl⟩, by rw [List.length_map, List.length_map]; omega, hN _ _ ?_⟩
  simp only [tSeq, tFor_eq, tLC_eq, iRng1, iRng2, iList, iTup, iStr, tIfS, tRet, tRetN, tNext, tAsg, gName, tVar, tC, tOp, rI0, rI, tTest, tB, rEq, rNe, tCall, tCons, tNil, tCB, tLst, tTup, tAnd, tOr, tNot, tAndV, tOrV, tNotV, tIf, tDrop, tSl, tPart, tNoPart, tChain, tUn, rU, L2.start, cx_K, bk_K, cx_calm, bk_calm, lenV_str, and_assoc, Option.join, List.length_map, List.length_append, decide_eq_true_eq, Bool.false_eq_true, if_false, if_true, Bool.not_true, Bool.not_false, Bool.not_eq_true', decide_eq_false_iff_not, Bool.true_eq_false, List.length_cons, List.length_nil, List.map_cons, List.map_nil, List.replicate, List.cons_append, List.nil_append, List.append_nil, List.getElem?_cons_zero, List.getElem?_cons_succ, List.set_cons_zero, List.set_cons_succ, Nat.reduceSub, Nat.reduceAdd, Option.some.injEq, V.int.injEq, V.str.injEq, V.bl.injEq, V.ref.injEq, List.cons.injEq, and_true, true_and, exists_eq_left', exists_eq_left, exists_and_left, exists_eq_right, exists_const, tBM, tBM0, rAppend, rPop, rIxL, rIxT, rIxS, rSlL, rSlT, rSlS, rCat, rCatT, tKGet, cx_w, bk_w, tDGet, tDisp, tPairs, tDNewK]
  refine ⟨⟨_, SqL.of h2⟩, ?_⟩
  refine lc_list (xs := (r.1.map sayS).map V.str) (fun i ys σ H' => Same H2 H' ∧ SAts H' (r.1.take i) ys ∧ ∃ o, σ = [o]) ⟨Same.refl _, rfl, _, rfl⟩ (small (by rw [List.length_map, List.length_map]; omega)) (fun i ys σ H' e => ?_) (fun i ys σ H' e => SqL.of (e.1 _ _ h2)) (fun i x ys σ H' C hx e hC => ?_) (fun ys σ H' e p3 hp3 => ?_)
  · have := SAts.length e.2.1
    rw [List.length_take] at this
    omega
  · obtain ⟨es', hys, o, rfl⟩ := e
    rw [List.map_map, List.getElem?_map] at hx
    obtain ⟨p, hp, rfl⟩ := Option.map_eq_some_iff.mp hx
    simp only [tSeq, tFor_eq, tLC_eq, iRng1, iRng2, iList, iTup, iStr, tIfS, tRet, tRetN, tNext, tAsg, gName, tVar, tC, tOp, rI0, rI, tTest, tB, rEq, rNe, tCall, tCons, tNil, tCB, tLst, tTup, tAnd, tOr, tNot, tAndV, tOrV, tNotV, tIf, tDrop, tSl, tPart, tNoPart, tChain, tUn, rU, L2.start, cx_K, bk_K, cx_calm, bk_calm, lenV_str, and_assoc, Option.join, List.length_map, List.length_append, decide_eq_true_eq, Bool.false_eq_true, if_false, if_true, Bool.not_true, Bool.not_false, Bool.not_eq_true', decide_eq_false_iff_not, Bool.true_eq_false, List.length_cons, List.length_nil, List.map_cons, List.map_nil, List.replicate, List.cons_append, List.nil_append, List.append_nil, List.getElem?_cons_zero, List.getElem?_cons_succ, List.set_cons_zero, List.set_cons_succ, Nat.reduceSub, Nat.reduceAdd, Option.some.injEq, V.int.injEq, V.str.injEq, V.bl.injEq, V.ref.injEq, List.cons.injEq, and_true, true_and, exists_eq_left', exists_eq_left, exists_and_left, exists_eq_right, exists_const, tBM, tBM0, rAppend, rPop, rIxL, rIxT, rIxS, rSlL, rSlT, rSlS, rCat, rCatT, tKGet, cx_w, bk_w, tDGet, tDisp, tPairs, tDNewK, spReadS]
    refine ⟨p, rfl, f3 p (hf1 p (List.mem_of_getElem? hp)), fun v H3 e3 hv => hC _ _ _ ⟨es'.trans e3, SAts.snoc hp (DAts.same e3 hys) hv, _, rfl⟩⟩
  · obtain ⟨es', hys, o, rfl⟩ := e
    rw [List.take_of_length_le (by rw [List.length_map, List.length_map]; omega)] at hys
    have e3 := same_new hp3 (.lst ys)
    have h3 : upd H' p3 (.lst ys) p3 = some (.lst ys) := upd_same
    generalize upd H' p3 (.lst ys) = H3 at e3 h3 ⊢
    simp only [spReadS]
    refine ⟨_, SqL.of ((e2.trans (es'.trans e3)) _ _ h1), _, at1, r.2, rfl, f3 _ hf2, fun v H4 e4 hv => ⟨small (by decide), fun p5 hp5 => ?_⟩⟩
    have e5 := same_new hp5 (.tup [V.ref p3, v])
    exact q _ _ ((((e1.trans e2).trans (es'.trans e3)).trans e4).trans e5) (RAt.mk upd_same ((e4.trans e5) _ _ h3) (DAts.same ((e3.trans e4).trans e5) hys) (DAt.same e5 hv))
end

end C
set_option Elab.async false
set_option linter.all false
set_option maxRecDepth 100000
set_option maxHeartbeats 8000000
namespace C
open PySem L2
seal PE PT PW PA PS PSs PG PGs PI PPs PO PSet PIf
abbrev s_law : Stmt := top 40
theorem sc_law : FnScope ["script", "pool", "t", "rule", "texts", "found"] ["script"] (defScope s_law) := ⟨rfl, rfl, rfl, by decide +kernel, rfl, by decide +kernel, by decide +kernel⟩
def spLaw (K : PySem.W.Frag) : Sp := fun vs H Q _ => ∃ (a : Addr) (ns : List Int), vs = [.ref a] ∧ SqL K H a (ns.map V.int) ∧ ns.length ≤ 63 ∧ ∀ H', Q (.bl true) H'
section
variable {P : Program} {w : World} {K : PySem.W.Frag} {mg : Str → Option Value} {base : Heap} {f : Addr} {fd : FuncData}
theorem ok_law (bi : Bi mg) (h_law_pool : Has P w K mg base 2 "_law_pool" ["script"] (spPool K)) (h_law_stack : Has P w K mg base 2 "_law_stack" ["cells", "pool"] (spStack K)) (h_law_whole_term : Has P w K mg base 1 "_law_whole_term" ["stack"] spWhole) (h_law_rule : Has P w K mg base 3 "_law_rule" ["script", "pool", "at"] (spRule K))
    (h_law_alike : Has P w K mg base 40 "_law_alike" ["found", "due"] (spAlk 40)) (h_shown : Has P w K mg base 21 "shown" ["t"] (spWr 21)) (h_shown_saying : Has P w K mg base 22 "shown_saying" ["saying"] spWrS) (h_shown_rule : Has P w K mg base 23 "shown_rule" ["rule"] spWrR) (h_law_written : Has P w K mg base 21 "_law_written" ["t"] (spWr 21)) (h_law_written_saying : Has P w K mg base 22 "_law_written_saying" ["saying"] spWrS) (h_law_written_rule : Has P w K mg base 23 "_law_written_rule" ["rule"] spWrR)
    (h_read : Has P w K mg base 46 "read" ["text"] spRead) (h_read_saying : Has P w K mg base 47 "read_saying" ["text"] spReadS) (h_read_rule : Has P w K mg base 48 "read_rule" ["text"] spReadR)
    (F : Fun K "law" "law" s_law f fd) : FnOk P w K mg base CX0 65 f fd ["script"] (spLaw K) := by
  refine F.ok sc_law (fun vs H Q E h => ?_) (fun cdv A outer s H vs Q E hr h => ?_)
  · obtain ⟨a, ns, rfl, _⟩ := h
    rfl
  obtain ⟨a, ns, rfl, hS, h63, q⟩ := h
  refine ⟨_, (pss_cons (ps_set (i := 1) sc_law.nd rfl (Or.inl rfl) (pe_callH h_law_pool (hr.mono (by omega)) rfl (pa_cons (pv 0) pa_nil))) (pss_cons (ps_set (i := 2) sc_law.nd rfl (Or.inl rfl) (pe_callH h_law_whole_term (hr.mono (by omega)) rfl (pa_cons (pe_callH h_law_stack (hr.mono (by omega)) rfl (pa_cons (pe_slice sl_list (pv 0) (po_some pe_int) (po_some pe_int)) (pa_cons (pv 1) pa_nil))) pa_nil))) (pss_cons (ps_set (i := 3) sc_law.nd rfl (Or.inl rfl) (pe_callH h_law_rule (hr.mono (by omega)) rfl (pa_cons (pv 0) (pa_cons (pv 1) (pa_cons pe_int pa_nil))))) (pss_cons (ps_set (i := 4) sc_law.nd rfl (Or.inl rfl) (pe_lst (pa_cons (pe_callH h_law_written (hr.mono (by omega)) rfl (pa_cons (pv 2) pa_nil)) (pa_cons (pe_callH h_law_written_saying (hr.mono (by omega)) rfl (pa_cons (pe_ix ix_tup (pv 3) pe_int (fun _ _ => rfl)) pa_nil)) (pa_cons (pe_callH h_law_written_rule (hr.mono (by omega)) rfl (pa_cons (pv 3) pa_nil)) pa_nil))))) (pss_cons (ps_set (i := 5) sc_law.nd rfl (Or.inl rfl) (pe_tup (pa_cons (pe_callH h_read (hr.mono (by omega)) rfl (pa_cons (pe_ix ix_list (pv 4) pe_int (fun _ _ => rfl)) pa_nil)) (pa_cons (pe_callH h_read_saying (hr.mono (by omega)) rfl (pa_cons (pe_ix ix_list (pv 4) pe_int (fun _ _ => rfl)) pa_nil)) (pa_cons (pe_callH h_read_rule (hr.mono (by omega)) rfl (pa_cons (pe_ix ix_list (pv 4) pe_int (fun _ _ => rfl)) pa_nil)) pa_nil))))) (pss_cons (ps_if (pt_not (pt_val (pe_callH h_law_alike (hr.mono (by omega)) rfl (pa_cons (pv 5) (pa_cons (pe_tup (pa_cons (pv 2) (pa_cons (pe_ix ix_tup (pv 3) pe_int (fun _ _ => rfl)) (pa_cons (pv 3) pa_nil)))) pa_nil))))) (pss_one (ps_ret pe_bl)) pss_nil) (pss_one (ps_ret (pe_callH h_law_alike (hr.mono (by omega)) rfl (pa_cons (pe_lst (pa_cons (pe_callH h_shown (hr.mono (by omega)) rfl (pa_cons (pe_ix ix_tup (pv 5) pe_int (fun _ _ => rfl)) pa_nil)) (pa_cons (pe_callH h_shown_saying (hr.mono (by omega)) rfl (pa_cons (pe_ix ix_tup (pv 5) pe_int (fun _ _ => rfl)) pa_nil)) (pa_cons (pe_callH h_shown_rule (hr.mono (by omega)) rfl (pa_cons (pe_ix ix_tup (pv 5) pe_int (fun _ _ => rfl)) pa_nil)) pa_nil)))) (pa_cons (pv 4) pa_nil))))))))))), ?_⟩
  refine seq_abs fun N hN => ?_
  simp only [tSeq, tFor_eq, tLC_eq, iRng1, iRng2, iList, iTup, iStr, tIfS, tRet, tRetN, tNext, tAsg, gName, tVar, tC, tOp, rI0, rI, tTest, tB, rEq, rNe, tCall, tCons, tNil, tCB, tLst, tTup, tAnd, tOr, tNot, tAndV, tOrV, tNotV, tIf, tDrop, tSl, tPart, tNoPart, tChain, tUn, rU, L2.start, cx_K, bk_K, cx_calm, bk_calm, lenV_str, and_assoc, Option.join, List.length_map, List.length_append, decide_eq_true_eq, Bool.false_eq_true, if_false, if_true, Bool.not_true, Bool.not_false, Bool.not_eq_true', decide_eq_false_iff_not, Bool.true_eq_false, List.length_cons, List.length_nil, List.map_cons, List.map_nil, List.replicate, List.cons_append, List.nil_append, List.append_nil, List.getElem?_cons_zero, List.getElem?_cons_succ, List.set_cons_zero, List.set_cons_succ, Nat.reduceSub, Nat.reduceAdd, Option.some.injEq, V.int.injEq, V.str.injEq, V.bl.injEq, V.ref.injEq, List.cons.injEq, and_true, true_and, exists_eq_left', exists_eq_left, exists_and_left, exists_eq_right, exists_const, tBM, tBM0, rAppend, rPop, rIxL, rIxT, rIxS, rSlL, rSlT, rSlS, rCat, rCatT, tKGet, cx_w, bk_w, tDGet, tDisp, tPairs, tDNewK, spPool]
  refine ⟨ns, hS, fun pp H1 e1 hP => hN _ _ ?_⟩
  refine seq_abs fun N hN => ?_
  simp only [tSeq, tFor_eq, tLC_eq, iRng1, iRng2, iList, iTup, iStr, tIfS, tRet, tRetN, tNext, tAsg, gName, tVar, tC, tOp, rI0, rI, tTest, tB, rEq, rNe, tCall, tCons, tNil, tCB, tLst, tTup, tAnd, tOr, tNot, tAndV, tOrV, tNotV, tIf, tDrop, tSl, tPart, tNoPart, tChain, tUn, rU, L2.start, cx_K, bk_K, cx_calm, bk_calm, lenV_str, and_assoc, Option.join, List.length_map, List.length_append, decide_eq_true_eq, Bool.false_eq_true, if_false, if_true, Bool.not_true, Bool.not_false, Bool.not_eq_true', decide_eq_false_iff_not, Bool.true_eq_false, List.length_cons, List.length_nil, List.map_cons, List.map_nil, List.replicate, List.cons_append, List.nil_append, List.append_nil, List.getElem?_cons_zero, List.getElem?_cons_succ, List.set_cons_zero, List.set_cons_succ, Nat.reduceSub, Nat.reduceAdd, Option.some.injEq, V.int.injEq, V.str.injEq, V.bl.injEq, V.ref.injEq, List.cons.injEq, and_true, true_and, exists_eq_left', exists_eq_left, exists_and_left, exists_eq_right, exists_const, tBM, tBM0, rAppend, rPop, rIxL, rIxT, rIxS, rSlL, rSlT, rSlS, rCat, rCatT, tKGet, cx_w, bk_w, tDGet, tDisp, tPairs, tDNewK, spStack, spWhole]
  refine ⟨_, Same.seq e1 hS, fun p hp => ?_⟩
  rw [cut_ints]
  have hcl : (cutI ns (some 3) (some 31)).length ≤ 28 := cutI_len2 ns 3 31
  generalize cutI ns (some 3) (some 31) = cs at hcl
  have e2 := same_new hp (.lst (cs.map V.int))
  refine ⟨cs, SqL.of upd_same, by omega, Pool.same e2 hP, fun sa us ts H2 e2' hsa hts hne hf hw => ?_⟩
  refine ⟨us, hsa, ts, hts, hne, hf, _, hw, by omega, fun tv H3 e3 ht fit wtb => hN _ _ ?_⟩
  generalize hT : whole ts = T at ht fit wtb
  have e03 : Same H H3 := ((e1.trans e2).trans e2').trans e3
  have hP3 := Pool.same ((e2.trans e2').trans e3) hP
  clear e2 e2' e3 hsa hts hp
  refine seq_abs fun N hN => ?_
  simp only [tSeq, tFor_eq, tLC_eq, iRng1, iRng2, iList, iTup, iStr, tIfS, tRet, tRetN, tNext, tAsg, gName, tVar, tC, tOp, rI0, rI, tTest, tB, rEq, rNe, tCall, tCons, tNil, tCB, tLst, tTup, tAnd, tOr, tNot, tAndV, tOrV, tNotV, tIf, tDrop, tSl, tPart, tNoPart, tChain, tUn, rU, L2.start, cx_K, bk_K, cx_calm, bk_calm, lenV_str, and_assoc, Option.join, List.length_map, List.length_append, decide_eq_true_eq, Bool.false_eq_true, if_false, if_true, Bool.not_true, Bool.not_false, Bool.not_eq_true', decide_eq_false_iff_not, Bool.true_eq_false, List.length_cons, List.length_nil, List.map_cons, List.map_nil, List.replicate, List.cons_append, List.nil_append, List.append_nil, List.getElem?_cons_zero, List.getElem?_cons_succ, List.set_cons_zero, List.set_cons_succ, Nat.reduceSub, Nat.reduceAdd, Option.some.injEq, V.int.injEq, V.str.injEq, V.bl.injEq, V.ref.injEq, List.cons.injEq, and_true, true_and, exists_eq_left', exists_eq_left, exists_and_left, exists_eq_right, exists_const, tBM, tBM0, rAppend, rPop, rIxL, rIxT, rIxS, rSlL, rSlT, rSlS, rCat, rCatT, tKGet, cx_w, bk_w, tDGet, tDisp, tPairs, tDNewK, spRule]
  refine ⟨ns, 3, rfl, Same.seq e03 hS, hP3, fun rv r H4 e4 hrv hl5 hf1 hf2 => hN _ _ ?_⟩
  obtain ⟨ra, l, sv, us, rfl, hra, hl, hu, hs⟩ := hrv.out
  have g1 : ∀ p ∈ r.1, FitS 20 6 p := fun p hp => (hf1 p hp).mono (by omega) (by omega)
  have g2 : FitS 20 6 r.2 := hf2.mono (by omega) (by omega)
  have i1 : ∀ p ∈ r.1, FitS 20 900 p := fun p hp => (hf1 p hp).mono (by omega) (by omega)
  have i2 : FitS 20 900 r.2 := hf2.mono (by omega) (by omega)
  have i3 : FitS 20 30 r.2 := hf2.mono (by omega) (by omega)
  have ht4 := TAt.tups e4.tups ht
  have fit20 : Fit 20 T := fit.mono (by omega)
  clear e4 ht hP3 hP e03 e1 hl hu
  refine seq_abs fun N hN => ?_
  simp only [tSeq, tFor_eq, tLC_eq, iRng1, iRng2, iList, iTup, iStr, tIfS, tRet, tRetN, tNext, tAsg, gName, tVar, tC, tOp, rI0, rI, tTest, tB, rEq, rNe, tCall, tCons, tNil, tCB, tLst, tTup, tAnd, tOr, tNot, tAndV, tOrV, tNotV, tIf, tDrop, tSl, tPart, tNoPart, tChain, tUn, rU, L2.start, cx_K, bk_K, cx_calm, bk_calm, lenV_str, and_assoc, Option.join, List.length_map, List.length_append, decide_eq_true_eq, Bool.false_eq_true, if_false, if_true, Bool.not_true, Bool.not_false, Bool.not_eq_true', decide_eq_false_iff_not, Bool.true_eq_false, List.length_cons, List.length_nil, List.map_cons, List.map_nil, List.replicate, List.cons_append, List.nil_append, List.append_nil, List.getElem?_cons_zero, List.getElem?_cons_succ, List.set_cons_zero, List.set_cons_succ, Nat.reduceSub, Nat.reduceAdd, Option.some.injEq, V.int.injEq, V.str.injEq, V.bl.injEq, V.ref.injEq, List.cons.injEq, and_true, true_and, exists_eq_left', exists_eq_left, exists_and_left, exists_eq_right, exists_const, tBM, tBM0, rAppend, rPop, rIxL, rIxT, rIxS, rSlL, rSlT, rSlS, rCat, rCatT, tKGet, cx_w, bk_w, tDGet, tDisp, tPairs, tDNewK, spWr, spWrS, spWrR]
  refine ⟨T, ht4, fit20, by omega, fun H5 e5 => ⟨_, SqT.of (e5 _ _ hra), sv, at1, r.2, DAt.same e5 hs, i2, fun H6 e6 => ⟨r, DAt.same (e5.trans e6) hrv, by omega, i1, i2, fun H7 e7 => ⟨small (by decide), fun px hpx => hN _ _ ?_⟩⟩⟩⟩
  have e8 := same_new hpx (.lst [.str (wrS T), .str (sayS r.2), .str (ruleS r)])
  have h8 : upd H7 px (.lst [.str (wrS T), .str (sayS r.2), .str (ruleS r)]) px = some (.lst [.str (wrS T), .str (sayS r.2), .str (ruleS r)]) := upd_same
  generalize upd H7 px (.lst [.str (wrS T), .str (sayS r.2), .str (ruleS r)]) = H8 at e8 h8 ⊢
  have e48 := ((e5.trans e6).trans e7).trans e8
  have ht8 := TAt.tups e48.tups ht4
  have hr8 : RAt H8 r (.ref ra) := DAt.same e48 hrv
  have hs8 := DAt.same e48 hs
  have hra8 := e48 _ _ hra
  clear e5 e6 e7 e8 e48 ht4 hrv hs hra hpx
  have at2 : ∀ {x y z : V}, atI [x, y, z] 2 = some z := fun {x y z} => atI_nat (j := 2) (xs := [x, y, z]) rfl
  refine seq_abs fun N hN => ?_
  simp only [tSeq, tFor_eq, tLC_eq, iRng1, iRng2, iList, iTup, iStr, tIfS, tRet, tRetN, tNext, tAsg, gName, tVar, tC, tOp, rI0, rI, tTest, tB, rEq, rNe, tCall, tCons, tNil, tCB, tLst, tTup, tAnd, tOr, tNot, tAndV, tOrV, tNotV, tIf, tDrop, tSl, tPart, tNoPart, tChain, tUn, rU, L2.start, cx_K, bk_K, cx_calm, bk_calm, lenV_str, and_assoc, Option.join, List.length_map, List.length_append, decide_eq_true_eq, Bool.false_eq_true, if_false, if_true, Bool.not_true, Bool.not_false, Bool.not_eq_true', decide_eq_false_iff_not, Bool.true_eq_false, List.length_cons, List.length_nil, List.map_cons, List.map_nil, List.replicate, List.cons_append, List.nil_append, List.append_nil, List.getElem?_cons_zero, List.getElem?_cons_succ, List.set_cons_zero, List.set_cons_succ, Nat.reduceSub, Nat.reduceAdd, Option.some.injEq, V.int.injEq, V.str.injEq, V.bl.injEq, V.ref.injEq, List.cons.injEq, and_true, true_and, exists_eq_left', exists_eq_left, exists_and_left, exists_eq_right, exists_const, tBM, tBM0, rAppend, rPop, rIxL, rIxT, rIxS, rSlL, rSlT, rSlS, rCat, rCatT, tKGet, cx_w, bk_w, tDGet, tDisp, tPairs, tDNewK, spRead, spReadS, spReadR]
  refine ⟨_, SqL.of h8, _, at0, T, rfl, fit20, by omega, fun v1 H9 e9 t9 => ⟨_, SqL.of (e9 _ _ h8), _, at1, r.2, rfl, i3, fun v2 H10 e10 s10 => ⟨_, SqL.of ((e9.trans e10) _ _ h8), _, at2, r, rfl, hl5, g1, g2, fun v3 H11 e11 r11 => ⟨small (by decide), fun pf hpf => hN _ _ ?_⟩⟩⟩⟩
  have e12 := same_new hpf (.tup [v1, v2, v3])
  have h12 : upd H11 pf (.tup [v1, v2, v3]) pf = some (.tup [v1, v2, v3]) := upd_same
  generalize upd H11 pf (.tup [v1, v2, v3]) = H12 at e12 h12 ⊢
  have e812 := ((e9.trans e10).trans e11).trans e12
  have t12 := TAt.tups ((e10.trans e11).trans e12).tups t9
  have s12 := DAt.same (e11.trans e12) s10
  have r12 := DAt.same e12 r11
  have h12x := e812 _ _ h8
  have t12' := TAt.tups e812.tups ht8
  have s12' := DAt.same e812 hs8
  have r12' : RAt H12 r (.ref ra) := DAt.same e812 hr8
  have hra12 := e812 _ _ hra8
  clear e9 e10 e11 e12 e812 t9 s10 r11 h8 ht8 hs8 hr8 hra8 hpf
  have fT : DFit 38 (toD T) := (fit20.dfit (by omega)).mono (by omega)
  have fS : DFit 38 (dSay r.2) := (i2.dfit (Nat.le_refl _)).mono (by omega)
  have fR : DFit 38 (dRule r) := (rule_dfit (n := 20) (m := 900) i1 i2 (Nat.le_refl _) (by omega)).mono (by omega)
  refine seq_abs fun N hN => ?_
  simp only [tSeq, tFor_eq, tLC_eq, iRng1, iRng2, iList, iTup, iStr, tIfS, tRet, tRetN, tNext, tAsg, gName, tVar, tC, tOp, rI0, rI, tTest, tB, rEq, rNe, tCall, tCons, tNil, tCB, tLst, tTup, tAnd, tOr, tNot, tAndV, tOrV, tNotV, tIf, tDrop, tSl, tPart, tNoPart, tChain, tUn, rU, L2.start, cx_K, bk_K, cx_calm, bk_calm, lenV_str, and_assoc, Option.join, List.length_map, List.length_append, decide_eq_true_eq, Bool.false_eq_true, if_false, if_true, Bool.not_true, Bool.not_false, Bool.not_eq_true', decide_eq_false_iff_not, Bool.true_eq_false, List.length_cons, List.length_nil, List.map_cons, List.map_nil, List.replicate, List.cons_append, List.nil_append, List.append_nil, List.getElem?_cons_zero, List.getElem?_cons_succ, List.set_cons_zero, List.set_cons_succ, Nat.reduceSub, Nat.reduceAdd, Option.some.injEq, V.int.injEq, V.str.injEq, V.bl.injEq, V.ref.injEq, List.cons.injEq, and_true, true_and, exists_eq_left', exists_eq_left, exists_and_left, exists_eq_right, exists_const, tBM, tBM0, rAppend, rPop, rIxL, rIxT, rIxS, rSlL, rSlT, rSlS, rCat, rCatT, tKGet, cx_w, bk_w, tDGet, tDisp, tPairs, tDNewK, spAlk]
  refine ⟨_, SqT.of hra12, sv, at1, small (by decide), fun pd hpd => ?_⟩
  have e13 := same_new hpd (.tup [tv, sv, .ref ra])
  have h13 : upd H12 pd (.tup [tv, sv, .ref ra]) pd = some (.tup [tv, sv, .ref ra]) := upd_same
  generalize upd H12 pd (.tup [tv, sv, .ref ra]) = H13 at e13 h13 ⊢
  refine ⟨.tup [toD T, dSay r.2, dRule r], ?_, ?_, ?_, hN _ _ ?_⟩
  · exact ⟨pf, _, rfl, e13 _ _ h12, _, _, rfl, DAt.same e13 t12, _, _, rfl, DAt.same e13 s12, _, _, rfl, DAt.same e13 r12, rfl⟩
  · exact ⟨pd, _, rfl, h13, _, _, rfl, DAt.same e13 t12', _, _, rfl, DAt.same e13 s12', _, _, rfl, DAt.same e13 r12', rfl⟩
  · refine ⟨by simp, fun d hd => ?_⟩
    simp only [List.mem_cons, List.not_mem_nil, or_false] at hd
    rcases hd with rfl | rfl | rfl
    · exact fT
    · exact fS
    · exact fR
  have h13f := e13 _ _ h12
  have h13x := e13 _ _ h12x
  simp only [tSeq, tFor_eq, tLC_eq, iRng1, iRng2, iList, iTup, iStr, tIfS, tRet, tRetN, tNext, tAsg, gName, tVar, tC, tOp, rI0, rI, tTest, tB, rEq, rNe, tCall, tCons, tNil, tCB, tLst, tTup, tAnd, tOr, tNot, tAndV, tOrV, tNotV, tIf, tDrop, tSl, tPart, tNoPart, tChain, tUn, rU, L2.start, cx_K, bk_K, cx_calm, bk_calm, lenV_str, and_assoc, Option.join, List.length_map, List.length_append, decide_eq_true_eq, Bool.false_eq_true, if_false, if_true, Bool.not_true, Bool.not_false, Bool.not_eq_true', decide_eq_false_iff_not, Bool.true_eq_false, List.length_cons, List.length_nil, List.map_cons, List.map_nil, List.replicate, List.cons_append, List.nil_append, List.append_nil, List.getElem?_cons_zero, List.getElem?_cons_succ, List.set_cons_zero, List.set_cons_succ, Nat.reduceSub, Nat.reduceAdd, Option.some.injEq, V.int.injEq, V.str.injEq, V.bl.injEq, V.ref.injEq, List.cons.injEq, and_true, true_and, exists_eq_left', exists_eq_left, exists_and_left, exists_eq_right, exists_const, tBM, tBM0, rAppend, rPop, rIxL, rIxT, rIxS, rSlL, rSlT, rSlS, rCat, rCatT, tKGet, cx_w, bk_w, tDGet, tDisp, tPairs, tDNewK, spWr, spWrS, spWrR, spAlk]
  refine ⟨_, SqT.of h13f, v1, at0, T, DAt.same e13 t12, fit20, by omega, fun H14 e14 => ⟨_, SqT.of (e14 _ _ h13f), v2, at1, r.2, DAt.same (e13.trans e14) s12, i2, fun H15 e15 => ⟨_, SqT.of ((e14.trans e15) _ _ h13f), v3, at2, r, DAt.same ((e13.trans e14).trans e15) r12, by omega, i1, i2, fun H16 e16 => ⟨small (by decide), fun pl hpl => ?_⟩⟩⟩⟩
  have e17 := same_new hpl (.lst [.str (wrS T), .str (sayS r.2), .str (ruleS r)])
  refine ⟨.lst [.str (wrS T), .str (sayS r.2), .str (ruleS r)], ?_, ?_, ?_, q _⟩
  · exact ⟨pl, _, rfl, upd_same, _, _, rfl, rfl, _, _, rfl, rfl, _, _, rfl, rfl, rfl⟩
  · exact ⟨px, _, rfl, (((e14.trans e15).trans e16).trans e17) _ _ h13x, _, _, rfl, rfl, _, _, rfl, rfl, _, _, rfl, rfl, rfl⟩
  · refine ⟨by simp, fun d hd => ?_⟩
    simp only [List.mem_cons, List.not_mem_nil, or_false] at hd
    rcases hd with rfl | rfl | rfl <;> trivial
end

theorem all_mk {l : PySem.W.OpenLaw} {w : World} {K : PySem.W.Frag} {h : Heap} {mg : Str → Option Value} {fa : Addr} (X : K.In h) (G : h.Ns mainGlobals mg) (hfa : mg "law" = some (.ref fa))
    {C_Reader : Addr} (aC_Reader : PySem.W.nsIn K mainGlobals "Reader" = some (some (.ref C_Reader)))
    {f_Reader_init : Addr} {od_Reader_init an_Reader_init : Option Addr} {sl_Reader_init : Array (Option Value)} {oc_Reader_init kV_Reader_init dc_Reader_init pm_Reader_init cd_Reader_init ct_Reader_init : Value} (a_Reader_init : PySem.W.findIn K (.ref C_Reader) "__init__" = some (some (.ref f_Reader_init))) (i_Reader_init : PySem.W.isFn K (.ref f_Reader_init) = true) (l_Reader_init : K.lookup f_Reader_init = some ⟨oc_Reader_init, od_Reader_init, .func (PySem.W.fnOf "__init__" "Reader.__init__" (defArgs s_Reader_init) (defBody s_Reader_init) (defScope s_Reader_init) .none kV_Reader_init dc_Reader_init pm_Reader_init an_Reader_init cd_Reader_init ct_Reader_init), sl_Reader_init⟩) (c_Reader_init : PySem.W.codeIn K cd_Reader_init "Reader.__init__" = true) (k_Reader_init : PySem.W.keepIn K (.ref f_Reader_init) = true)
    {f_Reader_take : Addr} {od_Reader_take an_Reader_take : Option Addr} {sl_Reader_take : Array (Option Value)} {oc_Reader_take kV_Reader_take dc_Reader_take pm_Reader_take cd_Reader_take ct_Reader_take : Value} (a_Reader_take : PySem.W.findIn K (.ref C_Reader) "take" = some (some (.ref f_Reader_take))) (i_Reader_take : PySem.W.isFn K (.ref f_Reader_take) = true) (l_Reader_take : K.lookup f_Reader_take = some ⟨oc_Reader_take, od_Reader_take, .func (PySem.W.fnOf "take" "Reader.take" (defArgs s_Reader_take) (defBody s_Reader_take) (defScope s_Reader_take) .none kV_Reader_take dc_Reader_take pm_Reader_take an_Reader_take cd_Reader_take ct_Reader_take), sl_Reader_take⟩) (c_Reader_take : PySem.W.codeIn K cd_Reader_take "Reader.take" = true) (k_Reader_take : PySem.W.keepIn K (.ref f_Reader_take) = true)
    {f_Reader_term : Addr} {od_Reader_term an_Reader_term : Option Addr} {sl_Reader_term : Array (Option Value)} {oc_Reader_term kV_Reader_term dc_Reader_term pm_Reader_term cd_Reader_term ct_Reader_term : Value} (a_Reader_term : PySem.W.findIn K (.ref C_Reader) "term" = some (some (.ref f_Reader_term))) (i_Reader_term : PySem.W.isFn K (.ref f_Reader_term) = true) (l_Reader_term : K.lookup f_Reader_term = some ⟨oc_Reader_term, od_Reader_term, .func (PySem.W.fnOf "term" "Reader.term" (defArgs s_Reader_term) (defBody s_Reader_term) (defScope s_Reader_term) .none kV_Reader_term dc_Reader_term pm_Reader_term an_Reader_term cd_Reader_term ct_Reader_term), sl_Reader_term⟩) (c_Reader_term : PySem.W.codeIn K cd_Reader_term "Reader.term" = true) (k_Reader_term : PySem.W.keepIn K (.ref f_Reader_term) = true)
    {f_Reader_bracket : Addr} {od_Reader_bracket an_Reader_bracket : Option Addr} {sl_Reader_bracket : Array (Option Value)} {oc_Reader_bracket kV_Reader_bracket dc_Reader_bracket pm_Reader_bracket cd_Reader_bracket ct_Reader_bracket : Value} (a_Reader_bracket : PySem.W.findIn K (.ref C_Reader) "bracket" = some (some (.ref f_Reader_bracket))) (i_Reader_bracket : PySem.W.isFn K (.ref f_Reader_bracket) = true) (l_Reader_bracket : K.lookup f_Reader_bracket = some ⟨oc_Reader_bracket, od_Reader_bracket, .func (PySem.W.fnOf "bracket" "Reader.bracket" (defArgs s_Reader_bracket) (defBody s_Reader_bracket) (defScope s_Reader_bracket) .none kV_Reader_bracket dc_Reader_bracket pm_Reader_bracket an_Reader_bracket cd_Reader_bracket ct_Reader_bracket), sl_Reader_bracket⟩) (c_Reader_bracket : PySem.W.codeIn K cd_Reader_bracket "Reader.bracket" = true) (k_Reader_bracket : PySem.W.keepIn K (.ref f_Reader_bracket) = true)
    {f_Reader_leaf : Addr} {od_Reader_leaf an_Reader_leaf : Option Addr} {sl_Reader_leaf : Array (Option Value)} {oc_Reader_leaf kV_Reader_leaf dc_Reader_leaf pm_Reader_leaf cd_Reader_leaf ct_Reader_leaf : Value} (a_Reader_leaf : PySem.W.findIn K (.ref C_Reader) "leaf" = some (some (.ref f_Reader_leaf))) (i_Reader_leaf : PySem.W.isFn K (.ref f_Reader_leaf) = true) (l_Reader_leaf : K.lookup f_Reader_leaf = some ⟨oc_Reader_leaf, od_Reader_leaf, .func (PySem.W.fnOf "leaf" "Reader.leaf" (defArgs s_Reader_leaf) (defBody s_Reader_leaf) (defScope s_Reader_leaf) .none kV_Reader_leaf dc_Reader_leaf pm_Reader_leaf an_Reader_leaf cd_Reader_leaf ct_Reader_leaf), sl_Reader_leaf⟩) (c_Reader_leaf : PySem.W.codeIn K cd_Reader_leaf "Reader.leaf" = true) (k_Reader_leaf : PySem.W.keepIn K (.ref f_Reader_leaf) = true)
    (pg_Reader : PySem.W.plainGet K C_Reader Str.empty = true) (hd_Reader : PySem.W.hasDictIn K C_Reader = true) (po_Reader : PySem.W.plainOver K C_Reader = true) (sa_Reader : PySem.W.findIn K (.ref C_Reader) "__setattr__" = some (some (.builtin "object.__setattr__"))) (mk_Reader : PySem.W.makesIn K C_Reader = true) (kc_Reader : PySem.W.keepIn K (.ref C_Reader) = true) (n_Reader_text : PySem.W.findIn K (.ref C_Reader) "text" = some none) (n_Reader_at : PySem.W.findIn K (.ref C_Reader) "at" = some none)
    {f_shown : Addr} {od_shown an_shown : Option Addr} {sl_shown : Array (Option Value)} {oc_shown kV_shown dc_shown pm_shown cd_shown ct_shown : Value} (a_shown : PySem.W.nsIn K mainGlobals "shown" = some (some (.ref f_shown))) (l_shown : K.lookup f_shown = some ⟨oc_shown, od_shown, .func (PySem.W.fnOf "shown" "shown" (defArgs s_shown) (defBody s_shown) (defScope s_shown) .none kV_shown dc_shown pm_shown an_shown cd_shown ct_shown), sl_shown⟩) (c_shown : PySem.W.codeIn K cd_shown "shown" = true) (k_shown : PySem.W.keepIn K (.ref f_shown) = true)
    {f_shown_saying : Addr} {od_shown_saying an_shown_saying : Option Addr} {sl_shown_saying : Array (Option Value)} {oc_shown_saying kV_shown_saying dc_shown_saying pm_shown_saying cd_shown_saying ct_shown_saying : Value} (a_shown_saying : PySem.W.nsIn K mainGlobals "shown_saying" = some (some (.ref f_shown_saying))) (l_shown_saying : K.lookup f_shown_saying = some ⟨oc_shown_saying, od_shown_saying, .func (PySem.W.fnOf "shown_saying" "shown_saying" (defArgs s_shown_saying) (defBody s_shown_saying) (defScope s_shown_saying) .none kV_shown_saying dc_shown_saying pm_shown_saying an_shown_saying cd_shown_saying ct_shown_saying), sl_shown_saying⟩) (c_shown_saying : PySem.W.codeIn K cd_shown_saying "shown_saying" = true) (k_shown_saying : PySem.W.keepIn K (.ref f_shown_saying) = true)
    {f_shown_rule : Addr} {od_shown_rule an_shown_rule : Option Addr} {sl_shown_rule : Array (Option Value)} {oc_shown_rule kV_shown_rule dc_shown_rule pm_shown_rule cd_shown_rule ct_shown_rule : Value} (a_shown_rule : PySem.W.nsIn K mainGlobals "shown_rule" = some (some (.ref f_shown_rule))) (l_shown_rule : K.lookup f_shown_rule = some ⟨oc_shown_rule, od_shown_rule, .func (PySem.W.fnOf "shown_rule" "shown_rule" (defArgs s_shown_rule) (defBody s_shown_rule) (defScope s_shown_rule) .none kV_shown_rule dc_shown_rule pm_shown_rule an_shown_rule cd_shown_rule ct_shown_rule), sl_shown_rule⟩) (c_shown_rule : PySem.W.codeIn K cd_shown_rule "shown_rule" = true) (k_shown_rule : PySem.W.keepIn K (.ref f_shown_rule) = true)
    {f_is_name : Addr} {od_is_name an_is_name : Option Addr} {sl_is_name : Array (Option Value)} {oc_is_name kV_is_name dc_is_name pm_is_name cd_is_name ct_is_name : Value} (a_is_name : PySem.W.nsIn K mainGlobals "is_name" = some (some (.ref f_is_name))) (l_is_name : K.lookup f_is_name = some ⟨oc_is_name, od_is_name, .func (PySem.W.fnOf "is_name" "is_name" (defArgs s_is_name) (defBody s_is_name) (defScope s_is_name) .none kV_is_name dc_is_name pm_is_name an_is_name cd_is_name ct_is_name), sl_is_name⟩) (c_is_name : PySem.W.codeIn K cd_is_name "is_name" = true) (k_is_name : PySem.W.keepIn K (.ref f_is_name) = true)
    {f_parts_of : Addr} {od_parts_of an_parts_of : Option Addr} {sl_parts_of : Array (Option Value)} {oc_parts_of kV_parts_of dc_parts_of pm_parts_of cd_parts_of ct_parts_of : Value} (a_parts_of : PySem.W.nsIn K mainGlobals "parts_of" = some (some (.ref f_parts_of))) (l_parts_of : K.lookup f_parts_of = some ⟨oc_parts_of, od_parts_of, .func (PySem.W.fnOf "parts_of" "parts_of" (defArgs s_parts_of) (defBody s_parts_of) (defScope s_parts_of) .none kV_parts_of dc_parts_of pm_parts_of an_parts_of cd_parts_of ct_parts_of), sl_parts_of⟩) (c_parts_of : PySem.W.codeIn K cd_parts_of "parts_of" = true) (k_parts_of : PySem.W.keepIn K (.ref f_parts_of) = true)
    {f_leaves : Addr} {od_leaves an_leaves : Option Addr} {sl_leaves : Array (Option Value)} {oc_leaves kV_leaves dc_leaves pm_leaves cd_leaves ct_leaves : Value} (a_leaves : PySem.W.nsIn K mainGlobals "leaves" = some (some (.ref f_leaves))) (l_leaves : K.lookup f_leaves = some ⟨oc_leaves, od_leaves, .func (PySem.W.fnOf "leaves" "leaves" (defArgs s_leaves) (defBody s_leaves) (defScope s_leaves) .none kV_leaves dc_leaves pm_leaves an_leaves cd_leaves ct_leaves), sl_leaves⟩) (c_leaves : PySem.W.codeIn K cd_leaves "leaves" = true) (k_leaves : PySem.W.keepIn K (.ref f_leaves) = true)
    {f_need : Addr} {od_need an_need : Option Addr} {sl_need : Array (Option Value)} {oc_need kV_need dc_need pm_need cd_need ct_need : Value} (a_need : PySem.W.nsIn K mainGlobals "need" = some (some (.ref f_need))) (l_need : K.lookup f_need = some ⟨oc_need, od_need, .func (PySem.W.fnOf "need" "need" (defArgs s_need) (defBody s_need) (defScope s_need) .none kV_need dc_need pm_need an_need cd_need ct_need), sl_need⟩) (c_need : PySem.W.codeIn K cd_need "need" = true) (k_need : PySem.W.keepIn K (.ref f_need) = true)
    {f_read : Addr} {od_read an_read : Option Addr} {sl_read : Array (Option Value)} {oc_read kV_read dc_read pm_read cd_read ct_read : Value} (a_read : PySem.W.nsIn K mainGlobals "read" = some (some (.ref f_read))) (l_read : K.lookup f_read = some ⟨oc_read, od_read, .func (PySem.W.fnOf "read" "read" (defArgs s_read) (defBody s_read) (defScope s_read) .none kV_read dc_read pm_read an_read cd_read ct_read), sl_read⟩) (c_read : PySem.W.codeIn K cd_read "read" = true) (k_read : PySem.W.keepIn K (.ref f_read) = true)
    {f_read_saying : Addr} {od_read_saying an_read_saying : Option Addr} {sl_read_saying : Array (Option Value)} {oc_read_saying kV_read_saying dc_read_saying pm_read_saying cd_read_saying ct_read_saying : Value} (a_read_saying : PySem.W.nsIn K mainGlobals "read_saying" = some (some (.ref f_read_saying))) (l_read_saying : K.lookup f_read_saying = some ⟨oc_read_saying, od_read_saying, .func (PySem.W.fnOf "read_saying" "read_saying" (defArgs s_read_saying) (defBody s_read_saying) (defScope s_read_saying) .none kV_read_saying dc_read_saying pm_read_saying an_read_saying cd_read_saying ct_read_saying), sl_read_saying⟩) (c_read_saying : PySem.W.codeIn K cd_read_saying "read_saying" = true) (k_read_saying : PySem.W.keepIn K (.ref f_read_saying) = true)
    {f_read_rule : Addr} {od_read_rule an_read_rule : Option Addr} {sl_read_rule : Array (Option Value)} {oc_read_rule kV_read_rule dc_read_rule pm_read_rule cd_read_rule ct_read_rule : Value} (a_read_rule : PySem.W.nsIn K mainGlobals "read_rule" = some (some (.ref f_read_rule))) (l_read_rule : K.lookup f_read_rule = some ⟨oc_read_rule, od_read_rule, .func (PySem.W.fnOf "read_rule" "read_rule" (defArgs s_read_rule) (defBody s_read_rule) (defScope s_read_rule) .none kV_read_rule dc_read_rule pm_read_rule an_read_rule cd_read_rule ct_read_rule), sl_read_rule⟩) (c_read_rule : PySem.W.codeIn K cd_read_rule "read_rule" = true) (k_read_rule : PySem.W.keepIn K (.ref f_read_rule) = true)
    {f_law_cell_at : Addr} {od_law_cell_at an_law_cell_at : Option Addr} {sl_law_cell_at : Array (Option Value)} {oc_law_cell_at kV_law_cell_at dc_law_cell_at pm_law_cell_at cd_law_cell_at ct_law_cell_at : Value} (a_law_cell_at : PySem.W.nsIn K mainGlobals "_law_cell_at" = some (some (.ref f_law_cell_at))) (l_law_cell_at : K.lookup f_law_cell_at = some ⟨oc_law_cell_at, od_law_cell_at, .func (PySem.W.fnOf "_law_cell_at" "_law_cell_at" (defArgs s_law_cell_at) (defBody s_law_cell_at) (defScope s_law_cell_at) .none kV_law_cell_at dc_law_cell_at pm_law_cell_at an_law_cell_at cd_law_cell_at ct_law_cell_at), sl_law_cell_at⟩) (c_law_cell_at : PySem.W.codeIn K cd_law_cell_at "_law_cell_at" = true) (k_law_cell_at : PySem.W.keepIn K (.ref f_law_cell_at) = true)
    {f_law_name_by : Addr} {od_law_name_by an_law_name_by : Option Addr} {sl_law_name_by : Array (Option Value)} {oc_law_name_by kV_law_name_by dc_law_name_by pm_law_name_by cd_law_name_by ct_law_name_by : Value} (a_law_name_by : PySem.W.nsIn K mainGlobals "_law_name_by" = some (some (.ref f_law_name_by))) (l_law_name_by : K.lookup f_law_name_by = some ⟨oc_law_name_by, od_law_name_by, .func (PySem.W.fnOf "_law_name_by" "_law_name_by" (defArgs s_law_name_by) (defBody s_law_name_by) (defScope s_law_name_by) .none kV_law_name_by dc_law_name_by pm_law_name_by an_law_name_by cd_law_name_by ct_law_name_by), sl_law_name_by⟩) (c_law_name_by : PySem.W.codeIn K cd_law_name_by "_law_name_by" = true) (k_law_name_by : PySem.W.keepIn K (.ref f_law_name_by) = true)
    {f_law_pool : Addr} {od_law_pool an_law_pool : Option Addr} {sl_law_pool : Array (Option Value)} {oc_law_pool kV_law_pool dc_law_pool pm_law_pool cd_law_pool ct_law_pool : Value} (a_law_pool : PySem.W.nsIn K mainGlobals "_law_pool" = some (some (.ref f_law_pool))) (l_law_pool : K.lookup f_law_pool = some ⟨oc_law_pool, od_law_pool, .func (PySem.W.fnOf "_law_pool" "_law_pool" (defArgs s_law_pool) (defBody s_law_pool) (defScope s_law_pool) .none kV_law_pool dc_law_pool pm_law_pool an_law_pool cd_law_pool ct_law_pool), sl_law_pool⟩) (c_law_pool : PySem.W.codeIn K cd_law_pool "_law_pool" = true) (k_law_pool : PySem.W.keepIn K (.ref f_law_pool) = true)
    {f_law_leaf : Addr} {od_law_leaf an_law_leaf : Option Addr} {sl_law_leaf : Array (Option Value)} {oc_law_leaf kV_law_leaf dc_law_leaf pm_law_leaf cd_law_leaf ct_law_leaf : Value} (a_law_leaf : PySem.W.nsIn K mainGlobals "_law_leaf" = some (some (.ref f_law_leaf))) (l_law_leaf : K.lookup f_law_leaf = some ⟨oc_law_leaf, od_law_leaf, .func (PySem.W.fnOf "_law_leaf" "_law_leaf" (defArgs s_law_leaf) (defBody s_law_leaf) (defScope s_law_leaf) .none kV_law_leaf dc_law_leaf pm_law_leaf an_law_leaf cd_law_leaf ct_law_leaf), sl_law_leaf⟩) (c_law_leaf : PySem.W.codeIn K cd_law_leaf "_law_leaf" = true) (k_law_leaf : PySem.W.keepIn K (.ref f_law_leaf) = true)
    {f_law_stack : Addr} {od_law_stack an_law_stack : Option Addr} {sl_law_stack : Array (Option Value)} {oc_law_stack kV_law_stack dc_law_stack pm_law_stack cd_law_stack ct_law_stack : Value} (a_law_stack : PySem.W.nsIn K mainGlobals "_law_stack" = some (some (.ref f_law_stack))) (l_law_stack : K.lookup f_law_stack = some ⟨oc_law_stack, od_law_stack, .func (PySem.W.fnOf "_law_stack" "_law_stack" (defArgs s_law_stack) (defBody s_law_stack) (defScope s_law_stack) .none kV_law_stack dc_law_stack pm_law_stack an_law_stack cd_law_stack ct_law_stack), sl_law_stack⟩) (c_law_stack : PySem.W.codeIn K cd_law_stack "_law_stack" = true) (k_law_stack : PySem.W.keepIn K (.ref f_law_stack) = true)
    {f_law_whole_term : Addr} {od_law_whole_term an_law_whole_term : Option Addr} {sl_law_whole_term : Array (Option Value)} {oc_law_whole_term kV_law_whole_term dc_law_whole_term pm_law_whole_term cd_law_whole_term ct_law_whole_term : Value} (a_law_whole_term : PySem.W.nsIn K mainGlobals "_law_whole_term" = some (some (.ref f_law_whole_term))) (l_law_whole_term : K.lookup f_law_whole_term = some ⟨oc_law_whole_term, od_law_whole_term, .func (PySem.W.fnOf "_law_whole_term" "_law_whole_term" (defArgs s_law_whole_term) (defBody s_law_whole_term) (defScope s_law_whole_term) .none kV_law_whole_term dc_law_whole_term pm_law_whole_term an_law_whole_term cd_law_whole_term ct_law_whole_term), sl_law_whole_term⟩) (c_law_whole_term : PySem.W.codeIn K cd_law_whole_term "_law_whole_term" = true) (k_law_whole_term : PySem.W.keepIn K (.ref f_law_whole_term) = true)
    {f_law_alike : Addr} {od_law_alike an_law_alike : Option Addr} {sl_law_alike : Array (Option Value)} {oc_law_alike kV_law_alike dc_law_alike pm_law_alike cd_law_alike ct_law_alike : Value} (a_law_alike : PySem.W.nsIn K mainGlobals "_law_alike" = some (some (.ref f_law_alike))) (l_law_alike : K.lookup f_law_alike = some ⟨oc_law_alike, od_law_alike, .func (PySem.W.fnOf "_law_alike" "_law_alike" (defArgs s_law_alike) (defBody s_law_alike) (defScope s_law_alike) .none kV_law_alike dc_law_alike pm_law_alike an_law_alike cd_law_alike ct_law_alike), sl_law_alike⟩) (c_law_alike : PySem.W.codeIn K cd_law_alike "_law_alike" = true) (k_law_alike : PySem.W.keepIn K (.ref f_law_alike) = true)
    {f_law_written : Addr} {od_law_written an_law_written : Option Addr} {sl_law_written : Array (Option Value)} {oc_law_written kV_law_written dc_law_written pm_law_written cd_law_written ct_law_written : Value} (a_law_written : PySem.W.nsIn K mainGlobals "_law_written" = some (some (.ref f_law_written))) (l_law_written : K.lookup f_law_written = some ⟨oc_law_written, od_law_written, .func (PySem.W.fnOf "_law_written" "_law_written" (defArgs s_law_written) (defBody s_law_written) (defScope s_law_written) .none kV_law_written dc_law_written pm_law_written an_law_written cd_law_written ct_law_written), sl_law_written⟩) (c_law_written : PySem.W.codeIn K cd_law_written "_law_written" = true) (k_law_written : PySem.W.keepIn K (.ref f_law_written) = true)
    {f_law_written_saying : Addr} {od_law_written_saying an_law_written_saying : Option Addr} {sl_law_written_saying : Array (Option Value)} {oc_law_written_saying kV_law_written_saying dc_law_written_saying pm_law_written_saying cd_law_written_saying ct_law_written_saying : Value} (a_law_written_saying : PySem.W.nsIn K mainGlobals "_law_written_saying" = some (some (.ref f_law_written_saying))) (l_law_written_saying : K.lookup f_law_written_saying = some ⟨oc_law_written_saying, od_law_written_saying, .func (PySem.W.fnOf "_law_written_saying" "_law_written_saying" (defArgs s_law_written_saying) (defBody s_law_written_saying) (defScope s_law_written_saying) .none kV_law_written_saying dc_law_written_saying pm_law_written_saying an_law_written_saying cd_law_written_saying ct_law_written_saying), sl_law_written_saying⟩) (c_law_written_saying : PySem.W.codeIn K cd_law_written_saying "_law_written_saying" = true) (k_law_written_saying : PySem.W.keepIn K (.ref f_law_written_saying) = true)
    {f_law_written_rule : Addr} {od_law_written_rule an_law_written_rule : Option Addr} {sl_law_written_rule : Array (Option Value)} {oc_law_written_rule kV_law_written_rule dc_law_written_rule pm_law_written_rule cd_law_written_rule ct_law_written_rule : Value} (a_law_written_rule : PySem.W.nsIn K mainGlobals "_law_written_rule" = some (some (.ref f_law_written_rule))) (l_law_written_rule : K.lookup f_law_written_rule = some ⟨oc_law_written_rule, od_law_written_rule, .func (PySem.W.fnOf "_law_written_rule" "_law_written_rule" (defArgs s_law_written_rule) (defBody s_law_written_rule) (defScope s_law_written_rule) .none kV_law_written_rule dc_law_written_rule pm_law_written_rule an_law_written_rule cd_law_written_rule ct_law_written_rule), sl_law_written_rule⟩) (c_law_written_rule : PySem.W.codeIn K cd_law_written_rule "_law_written_rule" = true) (k_law_written_rule : PySem.W.keepIn K (.ref f_law_written_rule) = true)
    {f_law_rule : Addr} {od_law_rule an_law_rule : Option Addr} {sl_law_rule : Array (Option Value)} {oc_law_rule kV_law_rule dc_law_rule pm_law_rule cd_law_rule ct_law_rule : Value} (a_law_rule : PySem.W.nsIn K mainGlobals "_law_rule" = some (some (.ref f_law_rule))) (l_law_rule : K.lookup f_law_rule = some ⟨oc_law_rule, od_law_rule, .func (PySem.W.fnOf "_law_rule" "_law_rule" (defArgs s_law_rule) (defBody s_law_rule) (defScope s_law_rule) .none kV_law_rule dc_law_rule pm_law_rule an_law_rule cd_law_rule ct_law_rule), sl_law_rule⟩) (c_law_rule : PySem.W.codeIn K cd_law_rule "_law_rule" = true) (k_law_rule : PySem.W.keepIn K (.ref f_law_rule) = true)
    {f_law : Addr} {od_law an_law : Option Addr} {sl_law : Array (Option Value)} {oc_law kV_law dc_law pm_law cd_law ct_law : Value} (a_law : PySem.W.nsIn K mainGlobals "law" = some (some (.ref f_law))) (l_law : K.lookup f_law = some ⟨oc_law, od_law, .func (PySem.W.fnOf "law" "law" (defArgs s_law) (defBody s_law) (defScope s_law) .none kV_law dc_law pm_law an_law cd_law ct_law), sl_law⟩) (c_law : PySem.W.codeIn K cd_law "law" = true) (k_law : PySem.W.keepIn K (.ref f_law) = true)
    {t_LETTERS : Tok} (g_LETTERS : PySem.W.nsIn K mainGlobals "LETTERS" = some (some (.str "abcdefghijklmnopqrstuvwxyz" t_LETTERS)))
    {t_LONGEST : Tok} (g_LONGEST_NAME : PySem.W.nsIn K mainGlobals "LONGEST_NAME" = some (some (.int 8 t_LONGEST)))
    {a_WORDS : Addr} {d_WORDS : Option Addr} {n_WORDS : Nat} {sl_WORDS : Array (Option Value)} {t_W1 t_W2 : Tok} (g_WORDS : PySem.W.nsIn K mainGlobals "WORDS" = some (some (.ref a_WORDS))) (o_WORDS : K.lookup a_WORDS = some ⟨.type "tuple", d_WORDS, .seq #[.str "none" t_W1, .str "all" t_W2] n_WORDS, sl_WORDS⟩)
    {a_JOINTS : Addr} {es_JOINTS : Array DictEntry} {ep_JOINTS : Nat} (g_JOINTS : PySem.W.nsIn K mainGlobals "JOINTS" = some (some (.ref a_JOINTS))) (o_JOINTS : K.lookup a_JOINTS = some ⟨.type "dict", none, .dict es_JOINTS ep_JOINTS, #[]⟩) (e_JOINTS : entOk w es_JOINTS.toList [("both", " & "), ("either", " | ")])
    {t_UNDER : Tok} (g_UNDER : PySem.W.nsIn K mainGlobals "UNDER" = some (some (.str " < " t_UNDER)))
    {t_COMMA : Tok} (g_COMMA : PySem.W.nsIn K mainGlobals "COMMA" = some (some (.str ", " t_COMMA)))
    {t_ARROW : Tok} (g_ARROW : PySem.W.nsIn K mainGlobals "ARROW" = some (some (.str " => " t_ARROW)))
    {t_MOST_SIGNS_OF_TERM : Tok} (g_MOST_SIGNS_OF_TERM : PySem.W.nsIn K mainGlobals "MOST_SIGNS_OF_TERM" = some (some (.int 400 t_MOST_SIGNS_OF_TERM)))
    {t_MOST_SIGNS_OF_RULE : Tok} (g_MOST_SIGNS_OF_RULE : PySem.W.nsIn K mainGlobals "MOST_SIGNS_OF_RULE" = some (some (.int 3000 t_MOST_SIGNS_OF_RULE)))
    {t_MOST_DEEP : Tok} (g_MOST_DEEP : PySem.W.nsIn K mainGlobals "MOST_DEEP" = some (some (.int 20 t_MOST_DEEP)))
    {t_MOST_LEAVES : Tok} (g_MOST_LEAVES : PySem.W.nsIn K mainGlobals "MOST_LEAVES" = some (some (.int 60 t_MOST_LEAVES)))
    {t_MOST_PREMISES : Tok} (g_MOST_PREMISES : PySem.W.nsIn K mainGlobals "MOST_PREMISES" = some (some (.int 5 t_MOST_PREMISES)))
    (z_all : PySem.W.nsIn K mainGlobals "all" = some none)
    (z_bool : PySem.W.nsIn K mainGlobals "bool" = some none)
    (z_dict : PySem.W.nsIn K mainGlobals "dict" = some none)
    (z_int : PySem.W.nsIn K mainGlobals "int" = some none)
    (z_isinstance : PySem.W.nsIn K mainGlobals "isinstance" = some none)
    (z_len : PySem.W.nsIn K mainGlobals "len" = some none)
    (z_list : PySem.W.nsIn K mainGlobals "list" = some none)
    (z_max : PySem.W.nsIn K mainGlobals "max" = some none)
    (z_range : PySem.W.nsIn K mainGlobals "range" = some none)
    (z_set : PySem.W.nsIn K mainGlobals "set" = some none)
    (z_sorted : PySem.W.nsIn K mainGlobals "sorted" = some none)
    (z_str : PySem.W.nsIn K mainGlobals "str" = some none)
    (z_sum : PySem.W.nsIn K mainGlobals "sum" = some none)
    (z_tuple : PySem.W.nsIn K mainGlobals "tuple" = some none) :
    ∃ fd : FuncData, (∀ (s : Shared) (v : Value), BindsTo s fd ⟨[v], []⟩ [("script", v)]) ∧ ∀ base : Heap, K.In base → base.Ns mainGlobals mg → FnOk l.prog w K mg base CX0 65 fa fd ["script"] (spLaw K) := by
  have e := hfa.symm.trans (PySem.W.mg_of X G a_law)
  cases e
  have cl_Reader : Cls K C_Reader := ⟨pg_Reader, hd_Reader, po_Reader, sa_Reader⟩
  have mC_Reader := PySem.W.mg_of X G aC_Reader
  have F_Reader_init := fun_mk (st := s_Reader_init) l_Reader_init c_Reader_init k_Reader_init
  have b_Reader_init := F_Reader_init.binds (ps := ["self", "text"]) fun _ _ _ _ _ _ us hl => match us, hl with | [_, _], _ => rfl
  have t_Reader_init : Meth K C_Reader "__init__" f_Reader_init := ⟨a_Reader_init, i_Reader_init, k_Reader_init⟩
  have F_Reader_take := fun_mk (st := s_Reader_take) l_Reader_take c_Reader_take k_Reader_take
  have b_Reader_take := F_Reader_take.binds (ps := ["self", "signs"]) fun _ _ _ _ _ _ us hl => match us, hl with | [_, _], _ => rfl
  have t_Reader_take : Meth K C_Reader "take" f_Reader_take := ⟨a_Reader_take, i_Reader_take, k_Reader_take⟩
  have F_Reader_term := fun_mk (st := s_Reader_term) l_Reader_term c_Reader_term k_Reader_term
  have b_Reader_term := F_Reader_term.binds (ps := ["self", "room"]) fun _ _ _ _ _ _ us hl => match us, hl with | [_, _], _ => rfl
  have t_Reader_term : Meth K C_Reader "term" f_Reader_term := ⟨a_Reader_term, i_Reader_term, k_Reader_term⟩
  have F_Reader_bracket := fun_mk (st := s_Reader_bracket) l_Reader_bracket c_Reader_bracket k_Reader_bracket
  have b_Reader_bracket := F_Reader_bracket.binds (ps := ["self", "room"]) fun _ _ _ _ _ _ us hl => match us, hl with | [_, _], _ => rfl
  have t_Reader_bracket : Meth K C_Reader "bracket" f_Reader_bracket := ⟨a_Reader_bracket, i_Reader_bracket, k_Reader_bracket⟩
  have F_Reader_leaf := fun_mk (st := s_Reader_leaf) l_Reader_leaf c_Reader_leaf k_Reader_leaf
  have b_Reader_leaf := F_Reader_leaf.binds (ps := ["self"]) fun _ _ _ _ _ _ us hl => match us, hl with | [_], _ => rfl
  have t_Reader_leaf : Meth K C_Reader "leaf" f_Reader_leaf := ⟨a_Reader_leaf, i_Reader_leaf, k_Reader_leaf⟩
  have F_shown := fun_mk (st := s_shown) l_shown c_shown k_shown
  have b_shown := F_shown.binds (ps := ["t"]) fun _ _ _ _ _ _ us hl => match us, hl with | [_], _ => rfl
  have m_shown := PySem.W.mg_of X G a_shown
  have F_shown_saying := fun_mk (st := s_shown_saying) l_shown_saying c_shown_saying k_shown_saying
  have b_shown_saying := F_shown_saying.binds (ps := ["saying"]) fun _ _ _ _ _ _ us hl => match us, hl with | [_], _ => rfl
  have m_shown_saying := PySem.W.mg_of X G a_shown_saying
  have F_shown_rule := fun_mk (st := s_shown_rule) l_shown_rule c_shown_rule k_shown_rule
  have b_shown_rule := F_shown_rule.binds (ps := ["rule"]) fun _ _ _ _ _ _ us hl => match us, hl with | [_], _ => rfl
  have m_shown_rule := PySem.W.mg_of X G a_shown_rule
  have F_is_name := fun_mk (st := s_is_name) l_is_name c_is_name k_is_name
  have b_is_name := F_is_name.binds (ps := ["text"]) fun _ _ _ _ _ _ us hl => match us, hl with | [_], _ => rfl
  have m_is_name := PySem.W.mg_of X G a_is_name
  have F_parts_of := fun_mk (st := s_parts_of) l_parts_of c_parts_of k_parts_of
  have b_parts_of := F_parts_of.binds (ps := ["t"]) fun _ _ _ _ _ _ us hl => match us, hl with | [_], _ => rfl
  have m_parts_of := PySem.W.mg_of X G a_parts_of
  have F_leaves := fun_mk (st := s_leaves) l_leaves c_leaves k_leaves
  have b_leaves := F_leaves.binds (ps := ["t"]) fun _ _ _ _ _ _ us hl => match us, hl with | [_], _ => rfl
  have m_leaves := PySem.W.mg_of X G a_leaves
  have F_need := fun_mk (st := s_need) l_need c_need k_need
  have b_need := F_need.binds (ps := ["held", "words"]) fun _ _ _ _ _ _ us hl => match us, hl with | [_, _], _ => rfl
  have m_need := PySem.W.mg_of X G a_need
  have F_read := fun_mk (st := s_read) l_read c_read k_read
  have b_read := F_read.binds (ps := ["text"]) fun _ _ _ _ _ _ us hl => match us, hl with | [_], _ => rfl
  have m_read := PySem.W.mg_of X G a_read
  have F_read_saying := fun_mk (st := s_read_saying) l_read_saying c_read_saying k_read_saying
  have b_read_saying := F_read_saying.binds (ps := ["text"]) fun _ _ _ _ _ _ us hl => match us, hl with | [_], _ => rfl
  have m_read_saying := PySem.W.mg_of X G a_read_saying
  have F_read_rule := fun_mk (st := s_read_rule) l_read_rule c_read_rule k_read_rule
  have b_read_rule := F_read_rule.binds (ps := ["text"]) fun _ _ _ _ _ _ us hl => match us, hl with | [_], _ => rfl
  have m_read_rule := PySem.W.mg_of X G a_read_rule
  have F_law_cell_at := fun_mk (st := s_law_cell_at) l_law_cell_at c_law_cell_at k_law_cell_at
  have b_law_cell_at := F_law_cell_at.binds (ps := ["script", "k"]) fun _ _ _ _ _ _ us hl => match us, hl with | [_, _], _ => rfl
  have m_law_cell_at := PySem.W.mg_of X G a_law_cell_at
  have F_law_name_by := fun_mk (st := s_law_name_by) l_law_name_by c_law_name_by k_law_name_by
  have b_law_name_by := F_law_name_by.binds (ps := ["cell", "size"]) fun _ _ _ _ _ _ us hl => match us, hl with | [_, _], _ => rfl
  have m_law_name_by := PySem.W.mg_of X G a_law_name_by
  have F_law_pool := fun_mk (st := s_law_pool) l_law_pool c_law_pool k_law_pool
  have b_law_pool := F_law_pool.binds (ps := ["script"]) fun _ _ _ _ _ _ us hl => match us, hl with | [_], _ => rfl
  have m_law_pool := PySem.W.mg_of X G a_law_pool
  have F_law_leaf := fun_mk (st := s_law_leaf) l_law_leaf c_law_leaf k_law_leaf
  have b_law_leaf := F_law_leaf.binds (ps := ["cell", "pool"]) fun _ _ _ _ _ _ us hl => match us, hl with | [_, _], _ => rfl
  have m_law_leaf := PySem.W.mg_of X G a_law_leaf
  have F_law_stack := fun_mk (st := s_law_stack) l_law_stack c_law_stack k_law_stack
  have b_law_stack := F_law_stack.binds (ps := ["cells", "pool"]) fun _ _ _ _ _ _ us hl => match us, hl with | [_, _], _ => rfl
  have m_law_stack := PySem.W.mg_of X G a_law_stack
  have F_law_whole_term := fun_mk (st := s_law_whole_term) l_law_whole_term c_law_whole_term k_law_whole_term
  have b_law_whole_term := F_law_whole_term.binds (ps := ["stack"]) fun _ _ _ _ _ _ us hl => match us, hl with | [_], _ => rfl
  have m_law_whole_term := PySem.W.mg_of X G a_law_whole_term
  have F_law_alike := fun_mk (st := s_law_alike) l_law_alike c_law_alike k_law_alike
  have b_law_alike := F_law_alike.binds (ps := ["found", "due"]) fun _ _ _ _ _ _ us hl => match us, hl with | [_, _], _ => rfl
  have m_law_alike := PySem.W.mg_of X G a_law_alike
  have F_law_written := fun_mk (st := s_law_written) l_law_written c_law_written k_law_written
  have b_law_written := F_law_written.binds (ps := ["t"]) fun _ _ _ _ _ _ us hl => match us, hl with | [_], _ => rfl
  have m_law_written := PySem.W.mg_of X G a_law_written
  have F_law_written_saying := fun_mk (st := s_law_written_saying) l_law_written_saying c_law_written_saying k_law_written_saying
  have b_law_written_saying := F_law_written_saying.binds (ps := ["saying"]) fun _ _ _ _ _ _ us hl => match us, hl with | [_], _ => rfl
  have m_law_written_saying := PySem.W.mg_of X G a_law_written_saying
  have F_law_written_rule := fun_mk (st := s_law_written_rule) l_law_written_rule c_law_written_rule k_law_written_rule
  have b_law_written_rule := F_law_written_rule.binds (ps := ["rule"]) fun _ _ _ _ _ _ us hl => match us, hl with | [_], _ => rfl
  have m_law_written_rule := PySem.W.mg_of X G a_law_written_rule
  have F_law_rule := fun_mk (st := s_law_rule) l_law_rule c_law_rule k_law_rule
  have b_law_rule := F_law_rule.binds (ps := ["script", "pool", "at"]) fun _ _ _ _ _ _ us hl => match us, hl with | [_, _, _], _ => rfl
  have m_law_rule := PySem.W.mg_of X G a_law_rule
  have F_law := fun_mk (st := s_law) l_law c_law k_law
  have b_law := F_law.binds (ps := ["script"]) fun _ _ _ _ _ _ us hl => match us, hl with | [_], _ => rfl
  have m_law := PySem.W.mg_of X G a_law
  have bi : Bi mg := ⟨PySem.W.mg_none_of X G z_len, PySem.W.mg_none_of X G z_range, PySem.W.mg_none_of X G z_isinstance, PySem.W.mg_none_of X G z_max, PySem.W.mg_none_of X G z_sum, PySem.W.mg_none_of X G z_all, PySem.W.mg_none_of X G z_tuple, PySem.W.mg_none_of X G z_list, PySem.W.mg_none_of X G z_sorted, PySem.W.mg_none_of X G z_set, PySem.W.mg_none_of X G z_int, PySem.W.mg_none_of X G z_bool, PySem.W.mg_none_of X G z_str, PySem.W.mg_none_of X G z_dict⟩
  refine ⟨PySem.W.fnOf "law" "law" (defArgs s_law) (defBody s_law) (defScope s_law) .none kV_law dc_law pm_law an_law cd_law ct_law, fun s v => .of_eq rfl, fun base _ _ => ?_⟩
  have h1 := has_of F_law_cell_at (ok_cell (P := l.prog) (w := w) (base := base) bi F_law_cell_at) b_law_cell_at m_law_cell_at
  have h2 := has_of F_law_name_by (ok_name (P := l.prog) (w := w) (base := base) bi F_law_name_by) b_law_name_by m_law_name_by
  have h3 := has_of F_law_pool (ok_pool bi h1 h2 F_law_pool) b_law_pool m_law_pool
  have h4 := has_of F_law_leaf (ok_leaf (P := l.prog) (w := w) (base := base) bi F_law_leaf) b_law_leaf m_law_leaf
  have h5 := has_of F_law_stack (ok_stack bi h4 F_law_stack) b_law_stack m_law_stack
  have h6 := has_of F_law_whole_term (ok_whole (P := l.prog) (w := w) (base := base) bi F_law_whole_term) b_law_whole_term m_law_whole_term
  have h7 := has_of F_law_alike (ok_alike (P := l.prog) (w := w) (base := base) bi F_law_alike b_law_alike m_law_alike 40) b_law_alike m_law_alike
  have h8 := has_of F_law_written (ok_written (P := l.prog) (w := w) (base := base) bi F_law_written b_law_written m_law_written 21) b_law_written m_law_written
  have h9 := has_of F_law_written_saying (ok_written_saying bi h8 F_law_written_saying) b_law_written_saying m_law_written_saying
  have h10 := has_of F_law_written_rule (ok_written_rule bi h9 F_law_written_rule) b_law_written_rule m_law_written_rule
  have h11 := has_of F_law_rule (ok_rule bi h1 h5 h6 F_law_rule) b_law_rule m_law_rule
  have kd : KD w K a_JOINTS jKV := KD.of (r := [("both", " & "), ("either", " | ")]) o_JOINTS e_JOINTS (by decide +kernel)
  have sW : ∀ H, SqT K H a_WORDS [.str "none", .str "all"] := fun H => .inr ⟨_, _, _, o_WORDS, rfl, rfl, (by show 2 ≤ sizeLine; decide), .cons ⟨_, rfl⟩ (.cons ⟨_, rfl⟩ .nil)⟩
  have gW : Gc mg "WORDS" (.ref a_WORDS) := ⟨_, PySem.W.mg_of X G g_WORDS, rfl⟩
  have gJ : Gc mg "JOINTS" (.ref a_JOINTS) := ⟨_, PySem.W.mg_of X G g_JOINTS, rfl⟩
  have gL : Gc mg "LETTERS" (.str "abcdefghijklmnopqrstuvwxyz") := ⟨_, PySem.W.mg_of X G g_LETTERS, ⟨_, rfl⟩⟩
  have gU : Gc mg "UNDER" (.str " < ") := ⟨_, PySem.W.mg_of X G g_UNDER, ⟨_, rfl⟩⟩
  have gC : Gc mg "COMMA" (.str ", ") := ⟨_, PySem.W.mg_of X G g_COMMA, ⟨_, rfl⟩⟩
  have gA : Gc mg "ARROW" (.str " => ") := ⟨_, PySem.W.mg_of X G g_ARROW, ⟨_, rfl⟩⟩
  have h12 := has_of F_shown (ok_shown (P := l.prog) (w := w) (base := base) bi gW sW gJ kd F_shown b_shown m_shown 21) b_shown m_shown
  have h13 := has_of F_shown_saying (ok_shown_saying bi gU h12 F_shown_saying) b_shown_saying m_shown_saying
  have h14 := has_of F_shown_rule (ok_shown_rule bi gC gA h13 F_shown_rule) b_shown_rule m_shown_rule
  have T : RdC K C_Reader := ⟨cl_Reader, n_Reader_text, n_Reader_at⟩
  have r1 := has_of F_need (ok_need (P := l.prog) (w := w) (mg := mg) (base := base) F_need) b_need m_need
  have r2 := has_of F_is_name (ok_is_name (P := l.prog) (w := w) (base := base) bi gL ⟨_, PySem.W.mg_of X G g_LONGEST_NAME, ⟨_, rfl⟩⟩ gW sW F_is_name) b_is_name m_is_name
  have r3 := has_of F_parts_of (ok_parts_of (P := l.prog) (w := w) (base := base) bi F_parts_of) b_parts_of m_parts_of
  have r4 := has_of F_leaves (ok_leaves bi r3 F_leaves b_leaves m_leaves 22) b_leaves m_leaves
  have r5 : HasI l.prog w K mg base 1 C_Reader "Reader" ["self", "text"] (spRInit C_Reader) := ⟨_, _, ok_rinit T F_Reader_init, b_Reader_init, ⟨mk_Reader, a_Reader_init, i_Reader_init, kc_Reader⟩, mC_Reader⟩
  have r6 : HasM l.prog w K mg base 1 C_Reader "take" ["self", "signs"] (spTake C_Reader) := ⟨_, _, ok_take bi T F_Reader_take, b_Reader_take, t_Reader_take⟩
  have r7 : HasM l.prog w K mg base 2 C_Reader "leaf" ["self"] (spLeafR C_Reader) := ⟨_, _, ok_leafR bi T gL gW sW r1 r2 F_Reader_leaf, b_Reader_leaf, t_Reader_leaf⟩
  have r8 := ok_terms bi T gJ kd r1 r6 r7 F_Reader_term F_Reader_bracket b_Reader_term b_Reader_bracket t_Reader_term t_Reader_bracket 21
  have r9 := has_of F_read (ok_read bi T cl_Reader ⟨_, PySem.W.mg_of X G g_MOST_SIGNS_OF_TERM, ⟨_, rfl⟩⟩ ⟨_, PySem.W.mg_of X G g_MOST_DEEP, ⟨_, rfl⟩⟩ ⟨_, PySem.W.mg_of X G g_MOST_LEAVES, ⟨_, rfl⟩⟩ r1 r5 r8 r4 F_read) b_read m_read
  have r10 := has_of F_read_saying (ok_read_saying bi gU r1 r9 F_read_saying) b_read_saying m_read_saying
  have r11 := has_of F_read_rule (ok_read_rule bi gC gA ⟨_, PySem.W.mg_of X G g_MOST_SIGNS_OF_RULE, ⟨_, rfl⟩⟩ ⟨_, PySem.W.mg_of X G g_MOST_PREMISES, ⟨_, rfl⟩⟩ r1 r10 F_read_rule) b_read_rule m_read_rule
  exact ok_law bi h3 h5 h6 h11 h7 h12 h13 h14 h8 h9 h10 r9 r10 r11 F_law
theorem walk {l : PySem.W.OpenLaw} {q : Program} {loose : List Str} {XP : (Str → Option Value) → Heap → Prop} {YP : World → Heap → Prop} {d : DefRec} {K : Params → PySem.W.Frag} (hn : l.most = some 63) (hdf : d.params.defaults = [])
    (hY : ∀ (w : World) (h : Heap), YP w h → (K w.params).In h)
    (F : ∀ (w : World) (mg : Str → Option Value) (fa : Addr) (h : Heap), (K w.params).In h → h.Ns mainGlobals mg → mg d.name = some (.ref fa) →
      ∃ fd : FuncData, (∀ (s : Shared) (u : Value), BindsTo s fd ⟨[u], []⟩ [("script", u)]) ∧ ∀ base : Heap, (K w.params).In base → base.Ns mainGlobals mg → FnOk l.prog w (K w.params) mg base CX0 65 fa fd ["script"] (spLaw (K w.params))) :
    PySem.W.WalkO q loose XP YP l.row.toRowW d [] (fun f vs => PySem.call f vs) :=
  L2.walk_of (n := 63) (k := 65) (x := "script") (CX := fun _ => CX0) (sp := fun w => spLaw (K w.params)) hn (by decide) hdf ⟨rfl, by decide, by decide⟩ hY F (fun _ _ a ns hl _ hS => ⟨a, ns, rfl, hS, hl, fun _ => rfl⟩) fun _ _ _ _ _ z => z


end C
set_option Elab.async false
set_option linter.all false
set_option maxRecDepth 100000
set_option maxHeartbeats 8000000

open PySem PySem.W PyProof.Rows
set_option maxRecDepth 100000 in
set_option maxHeartbeats 0 in
theorem PySem.Challenge.cw_clashbook_k06_read_there_and_back_holds : PySem.Challenge.rw_clashbook_k06_read_there_and_back.Holds := by
  w_on; o_law; k_head; (case hw => w_witness2)
  k_fill
  refine C.walk (l := PySem.Challenge.rw_clashbook_k06_read_there_and_back) rfl rfl (fun w h Y => PySem.W.kIn_of Y) ?F
  case F =>
    intro w mg fa h KX G hmg
    refine' C.all_mk KX G hmg ?aC_Reader ?a_Reader_init ?i_Reader_init ?l_Reader_init ?c_Reader_init ?k_Reader_init ?a_Reader_take ?i_Reader_take ?l_Reader_take ?c_Reader_take ?k_Reader_take ?a_Reader_term ?i_Reader_term ?l_Reader_term ?c_Reader_term ?k_Reader_term ?a_Reader_bracket ?i_Reader_bracket ?l_Reader_bracket ?c_Reader_bracket ?k_Reader_bracket ?a_Reader_leaf ?i_Reader_leaf ?l_Reader_leaf ?c_Reader_leaf ?k_Reader_leaf ?pg_Reader ?hd_Reader ?po_Reader ?sa_Reader ?mk_Reader ?kc_Reader ?n_Reader_text ?n_Reader_at ?a_shown ?l_shown ?c_shown ?k_shown ?a_shown_saying ?l_shown_saying ?c_shown_saying ?k_shown_saying ?a_shown_rule ?l_shown_rule ?c_shown_rule ?k_shown_rule ?a_is_name ?l_is_name ?c_is_name ?k_is_name ?a_parts_of ?l_parts_of ?c_parts_of ?k_parts_of ?a_leaves ?l_leaves ?c_leaves ?k_leaves ?a_need ?l_need ?c_need ?k_need ?a_read ?l_read ?c_read ?k_read ?a_read_saying ?l_read_saying ?c_read_saying ?k_read_saying ?a_read_rule ?l_read_rule ?c_read_rule ?k_read_rule ?a_law_cell_at ?l_law_cell_at ?c_law_cell_at ?k_law_cell_at ?a_law_name_by ?l_law_name_by ?c_law_name_by ?k_law_name_by ?a_law_pool ?l_law_pool ?c_law_pool ?k_law_pool ?a_law_leaf ?l_law_leaf ?c_law_leaf ?k_law_leaf ?a_law_stack ?l_law_stack ?c_law_stack ?k_law_stack ?a_law_whole_term ?l_law_whole_term ?c_law_whole_term ?k_law_whole_term ?a_law_alike ?l_law_alike ?c_law_alike ?k_law_alike ?a_law_written ?l_law_written ?c_law_written ?k_law_written ?a_law_written_saying ?l_law_written_saying ?c_law_written_saying ?k_law_written_saying ?a_law_written_rule ?l_law_written_rule ?c_law_written_rule ?k_law_written_rule ?a_law_rule ?l_law_rule ?c_law_rule ?k_law_rule ?a_law ?l_law ?c_law ?k_law ?g_LETTERS ?g_LONGEST_NAME ?g_WORDS ?o_WORDS ?g_JOINTS ?o_JOINTS ?e_JOINTS ?g_UNDER ?g_COMMA ?g_ARROW ?g_MOST_SIGNS_OF_TERM ?g_MOST_SIGNS_OF_RULE ?g_MOST_DEEP ?g_MOST_LEAVES ?g_MOST_PREMISES ?z_all ?z_bool ?z_dict ?z_int ?z_isinstance ?z_len ?z_list ?z_max ?z_range ?z_set ?z_sorted ?z_str ?z_sum ?z_tuple
    (case aC_Reader => k_is); (case a_Reader_init => k_is); (case i_Reader_init => k_is); (case l_Reader_init => k_is)
    (case c_Reader_init => k_is); (case k_Reader_init => k_is); (case a_Reader_take => k_is); (case i_Reader_take => k_is)
    (case l_Reader_take => k_is); (case c_Reader_take => k_is); (case k_Reader_take => k_is); (case a_Reader_term => k_is)
    (case i_Reader_term => k_is); (case l_Reader_term => k_is); (case c_Reader_term => k_is); (case k_Reader_term => k_is)
    (case a_Reader_bracket => k_is); (case i_Reader_bracket => k_is); (case l_Reader_bracket => k_is); (case c_Reader_bracket => k_is)
    (case k_Reader_bracket => k_is); (case a_Reader_leaf => k_is); (case i_Reader_leaf => k_is); (case l_Reader_leaf => k_is)
    (case c_Reader_leaf => k_is); (case k_Reader_leaf => k_is); (case pg_Reader => k_is); (case hd_Reader => k_is)
    (case po_Reader => k_is); (case sa_Reader => k_is); (case mk_Reader => k_is); (case kc_Reader => k_is)
    (case n_Reader_text => k_is); (case n_Reader_at => k_is); (case a_shown => k_is); (case l_shown => k_is)
    (case c_shown => k_is); (case k_shown => k_is); (case a_shown_saying => k_is); (case l_shown_saying => k_is)
    (case c_shown_saying => k_is); (case k_shown_saying => k_is); (case a_shown_rule => k_is); (case l_shown_rule => k_is)
    (case c_shown_rule => k_is); (case k_shown_rule => k_is); (case a_is_name => k_is); (case l_is_name => k_is)
    (case c_is_name => k_is); (case k_is_name => k_is); (case a_parts_of => k_is); (case l_parts_of => k_is)
    (case c_parts_of => k_is); (case k_parts_of => k_is); (case a_leaves => k_is); (case l_leaves => k_is)
    (case c_leaves => k_is); (case k_leaves => k_is); (case a_need => k_is); (case l_need => k_is)
    (case c_need => k_is); (case k_need => k_is); (case a_read => k_is); (case l_read => k_is)
    (case c_read => k_is); (case k_read => k_is); (case a_read_saying => k_is); (case l_read_saying => k_is)
    (case c_read_saying => k_is); (case k_read_saying => k_is); (case a_read_rule => k_is); (case l_read_rule => k_is)
    (case c_read_rule => k_is); (case k_read_rule => k_is); (case a_law_cell_at => k_is); (case l_law_cell_at => k_is)
    (case c_law_cell_at => k_is); (case k_law_cell_at => k_is); (case a_law_name_by => k_is); (case l_law_name_by => k_is)
    (case c_law_name_by => k_is); (case k_law_name_by => k_is); (case a_law_pool => k_is); (case l_law_pool => k_is)
    (case c_law_pool => k_is); (case k_law_pool => k_is); (case a_law_leaf => k_is); (case l_law_leaf => k_is)
    (case c_law_leaf => k_is); (case k_law_leaf => k_is); (case a_law_stack => k_is); (case l_law_stack => k_is)
    (case c_law_stack => k_is); (case k_law_stack => k_is); (case a_law_whole_term => k_is); (case l_law_whole_term => k_is)
    (case c_law_whole_term => k_is); (case k_law_whole_term => k_is); (case a_law_alike => k_is); (case l_law_alike => k_is)
    (case c_law_alike => k_is); (case k_law_alike => k_is); (case a_law_written => k_is); (case l_law_written => k_is)
    (case c_law_written => k_is); (case k_law_written => k_is); (case a_law_written_saying => k_is); (case l_law_written_saying => k_is)
    (case c_law_written_saying => k_is); (case k_law_written_saying => k_is); (case a_law_written_rule => k_is); (case l_law_written_rule => k_is)
    (case c_law_written_rule => k_is); (case k_law_written_rule => k_is); (case a_law_rule => k_is); (case l_law_rule => k_is)
    (case c_law_rule => k_is); (case k_law_rule => k_is); (case a_law => k_is); (case l_law => k_is)
    (case c_law => k_is); (case k_law => k_is); (case g_LETTERS => k_is); (case g_LONGEST_NAME => k_is)
    (case g_WORDS => k_is); (case o_WORDS => k_is); (case g_JOINTS => k_is); (case o_JOINTS => k_is)
    (case e_JOINTS => exact ⟨_, _, _, _, _, rfl, rfl, rfl, rfl, ⟨_, _, _, _, _, rfl, rfl, rfl, rfl, rfl⟩⟩); (case g_UNDER => k_is); (case g_COMMA => k_is); (case g_ARROW => k_is)
    (case g_MOST_SIGNS_OF_TERM => k_is); (case g_MOST_SIGNS_OF_RULE => k_is); (case g_MOST_DEEP => k_is); (case g_MOST_LEAVES => k_is)
    (case g_MOST_PREMISES => k_is); (case z_all => k_is); (case z_bool => k_is); (case z_dict => k_is)
    (case z_int => k_is); (case z_isinstance => k_is); (case z_len => k_is); (case z_list => k_is)
    (case z_max => k_is); (case z_range => k_is); (case z_set => k_is); (case z_sorted => k_is)
    (case z_str => k_is); (case z_sum => k_is); (case z_tuple => k_is)
#print axioms PySem.Challenge.cw_clashbook_k06_read_there_and_back_holds

