import PyProof.Rows.All
import Wide.All
import OpenK.AllK
import Wide.FinOn
import Lean
import PyProof.EqAt
import PyProof.EqKinds
import PyProof.TupleCall
import PyProof.FitsReplace
import PyProof.StrLawsChain
import PyProof.IsiH_list
import KE.KDictOf
import PyProof.Rows.Exc
import PyProof.RulesTry
import PyProof.ForAppend
import PyProof.Rows.Tup
import PyProof.CollectWalk
import PyProof.Rows.DictListVals
import PyProof.AutoSeq1
import PyProof.FactsAll.list_3
import KE.KDictSum
import PyProof.Rows.SortStr
import PyProof.Rows.SortWalk
import PyProof.SetKind
import PyProof.Rows.SetObj
import PyProof.DictKinds
import PyProof.DictIter
import PyProof.MakeMany
import PyProof.WalksS
import PyProof.Walks
import PyProof.Seq
import PyProof.TupleIter
import PyProof.FactsAll.set_1
import PyProof.ForAny
import PyProof.Rows.SetFrom
import PyProof.Rows.StrMeet
import PyProof.NeKinds
import PyProof.ZipIter
import KE.BitLaws
import PyProof.Rows.TupAdd
import PySem.SetOps
import PyProof.EnumMake
import PyProof.EnumFor
import PyProof.Rows.EnumRows
import PyProof.Rows.Range3
import PyProof.Rows.BitMore
import PyProof.Rows.RuleM_int
import PyProof.DictRoadsH
import KE.KDictList
import PyProof.DictWalks
import PySem.Challenge.RW_clashbook_k17_closing_by_passes
set_option Elab.async false
set_option linter.all false
set_option maxRecDepth 100000
namespace L2
open PySem PySem.Spec PyProof.Rows
abbrev Key := Sum Int Str
def keyIs : Key → Value → Bool
  | .inl k, v => Value.isInt k v
  | .inr x, v => Value.isStrOf x v
def keyH (w : World) : Key → Int
  | .inl k => hashInt k
  | .inr x => hashStr w x
theorem keyIs_shape : ∀ {k : Key} {v : Value}, keyIs k v = true → (∃ i t, k = Sum.inl i ∧ v = Value.int i t) ∨ (∃ x t, k = Sum.inr x ∧ v = Value.str x t)
  | .inl i, v, h => by
    obtain ⟨t, e⟩ := Value.isInt_shape (k := i) (v := v) h
    exact .inl ⟨i, t, rfl, e⟩
  | .inr x, v, h => by
    obtain ⟨t, e⟩ := Value.isStrOf_shape (x := x) (v := v) h
    exact .inr ⟨x, t, rfl, e⟩
theorem keyIs_int (i : Int) (t : Tok) : keyIs (.inl i) (.int i t) = true := by simp [keyIs, Value.isInt]
theorem keyIs_str (x : Str) (t : Tok) : keyIs (.inr x) (.str x t) = true := by simp [keyIs, Value.isStrOf]
theorem key_ll (a b : Int) : decide ((Sum.inl a : Key) = Sum.inl b) = (a == b) := by
  by_cases e : a = b
  · subst e; simp
  · have h : ¬ (Sum.inl a : Key) = Sum.inl b := fun q => e (Sum.inl.inj q)
    rw [decide_eq_false h]
    exact (beq_eq_false_iff_ne.mpr e).symm
theorem key_rr (a b : Str) : decide ((Sum.inr a : Key) = Sum.inr b) = decide (a = b) := by
  by_cases e : a = b
  · subst e; simp
  · have h : ¬ (Sum.inr a : Key) = Sum.inr b := fun q => e (Sum.inr.inj q)
    rw [decide_eq_false h, decide_eq_false e]
theorem key_lr (a : Int) (b : Str) : decide ((Sum.inl a : Key) = Sum.inr b) = false := decide_eq_false (fun q => nomatch q)
theorem key_rl (a : Str) (b : Int) : decide ((Sum.inr a : Key) = Sum.inl b) = false := decide_eq_false (fun q => nomatch q)
def mixKind (prog : Program) (w : World) : PySem.KeyKind prog w Key where
  is := keyIs
  hash := keyH w
  inj := fun v a b ha hb => by
    rcases keyIs_shape ha with ⟨i, t, rfl, rfl⟩ | ⟨x, t, rfl, rfl⟩
    · rcases keyIs_shape hb with ⟨j, u, rfl, e⟩ | ⟨y, u, rfl, e⟩
      · injection e with e1 _; rw [e1]
      · exact nomatch e
    · rcases keyIs_shape hb with ⟨j, u, rfl, e⟩ | ⟨y, u, rfl, e⟩
      · exact nomatch e
      · injection e with e1 _; rw [e1]
  byValue := fun k v h => by
    rcases keyIs_shape h with ⟨i, t, rfl, rfl⟩ | ⟨x, t, rfl, rfl⟩ <;> rfl
  pyHash := fun hv h => by
    rcases keyIs_shape hv with ⟨i, t, rfl, rfl⟩ | ⟨x, t, rfl, rfl⟩
    · exact wpAny_pyHash_int h
    · exact wpAny_pyHash_str h
  eqBool := fun hu hv h => by
    rcases keyIs_shape hu with ⟨i, t, rfl, rfl⟩ | ⟨x, t, rfl, rfl⟩
    · rcases keyIs_shape hv with ⟨j, u, rfl, rfl⟩ | ⟨y, u, rfl, rfl⟩
      · rw [key_ll] at h; exact wpAny_eqBool_int h
      · rw [key_lr] at h; exact SeqAt.EqAt.int_str i t y u _ _ _ _ h
    · rcases keyIs_shape hv with ⟨j, u, rfl, rfl⟩ | ⟨y, u, rfl, rfl⟩
      · rw [key_rl] at h; exact SeqAt.EqAt.str_int x t j u _ _ _ _ h
      · rw [key_rr] at h; exact wpAny_eqBool_str h
  «strs» := fun k x t v h => by
    rcases keyIs_shape h with ⟨i, u, rfl, e⟩ | ⟨y, u, rfl, e⟩
    · exact nomatch e
    · injection e with e1 _
      subst e1
      cases v <;> rfl
theorem mixKind_int (prog : Program) (w : World) (i : Int) (t : Tok) : (mixKind prog w).is (.inl i) (.int i t) = true := keyIs_int i t
theorem mixKind_str (prog : Program) (w : World) (x : Str) (t : Tok) : (mixKind prog w).is (.inr x) (.str x t) = true := keyIs_str x t
end L2
namespace L2
open PySem PySem.Spec PyProof.Rows
inductive V where
  | non | bl (b : Bool) | int (i : Int) | str (x : Str) | byt (b : Array UInt8) | flt (b : UInt64) | ref (a : Addr) | ty (n : String)
  deriving DecidableEq
def RelV : V → Value → Prop
  | .non, u => u = Value.none
  | .bl b, u => u = Value.bool b
  | .int i, u => ∃ t, u = Value.int i t
  | .str x, u => ∃ t, u = Value.str x t
  | .byt b, u => ∃ t, u = Value.bytes b t
  | .flt b, u => ∃ t, u = Value.float b t
  | .ref a, u => u = Value.ref a
  | .ty n, u => u = Value.type n
abbrev Vals : List V → List Value → Prop := Paired RelV
theorem Vals.length {xs : List V} {us : List Value} (r : Vals xs us) : xs.length = us.length := Paired.length r
theorem Vals.get : ∀ {xs : List V} {us : List Value} {i : Nat} {x : V}, Vals xs us → xs[i]? = some x → ∃ u, us[i]? = some u ∧ RelV x u
  | _, _, _, _, .nil, e => by simp at e
  | _, _, 0, _, .cons r _, e => by simp at e; subst e; exact ⟨_, rfl, r⟩
  | _, _, i + 1, x, .cons _ t, e => by
    obtain ⟨u, h1, h2⟩ := Vals.get (i := i) (x := x) t (by simpa using e)
    exact ⟨u, by simpa using h1, h2⟩
theorem Vals.set {x : V} {u : Value} (r : RelV x u) : ∀ {xs : List V} {us : List Value} (i : Nat), Vals xs us → Vals (xs.set i x) (us.set i u)
  | _, _, _, .nil => .nil
  | _, _, 0, .cons _ t => .cons r t
  | _, _, i + 1, .cons q t => .cons q (Vals.set r i t)
theorem Vals.append : ∀ {xs ys : List V} {us ws : List Value}, Vals xs us → Vals ys ws → Vals (xs ++ ys) (us ++ ws)
  | _, _, _, _, .nil, s => s
  | _, _, _, _, .cons r t, s => .cons r (Vals.append t s)
theorem Vals.take : ∀ {xs : List V} {us : List Value} (n : Nat), Vals xs us → Vals (xs.take n) (us.take n)
  | _, _, 0, _ => .nil
  | _, _, _ + 1, .nil => .nil
  | _, _, n + 1, .cons r t => .cons r (Vals.take n t)
theorem Vals.drop : ∀ {xs : List V} {us : List Value} (n : Nat), Vals xs us → Vals (xs.drop n) (us.drop n)
  | _, _, 0, r => r
  | _, _, _ + 1, .nil => .nil
  | _, _, n + 1, .cons _ t => Vals.drop n t
theorem Vals.none_of : ∀ {xs : List V} {us : List Value} {i : Nat}, Vals xs us → xs[i]? = none → us[i]? = none := fun {xs us i} r e => by
  have h1 := r.length
  have h2 : xs.length ≤ i := List.getElem?_eq_none_iff.mp e
  exact List.getElem?_eq_none_iff.mpr (by omega)
def RelO : Option V → Option Value → Prop
  | some v, some u => RelV v u
  | none, none => True
  | _, _ => False
def KV {κ : Type} : List (κ × V) → List (κ × Value) → Prop := Paired fun (p : κ × V) (q : κ × Value) => p.1 = q.1 ∧ RelV p.2 q.2
def kV : Key → V
  | .inl i => .int i
  | .inr x => .str x
inductive HO where
  /-- a list -/
  | lst (xs : List V)
  /-- a tuple (never changes) -/
  | tup (xs : List V)
  /-- a dict whose keys are ints and texts; one whose keys are tuples of ints and texts (the empty one is both) -/
  | dK (kvs : List (Key × V)) | dT (kvs : List (List Key × V))
  /-- a set of ints: its members, its size -/
  | set (S : Int → Bool) (n : Nat)
  /-- an instance of the class at C, its dict at dx, its attributes -/
  | ins (C dx : Addr) (fs : List (Str × V))
  /-- the dict of the instance at x -/
  | own (x : Addr)
  /-- the dict of an exception -/
  | xd (fs : List (Str × V))
  /-- a bound method, f of x -/
  | met (f x : Addr)
  /-- a range object lo, lo + 1, .. below hi -/
  | rng (lo hi : Int)
  /-- a thing that is known to the object (the script; a dict while a loop walks it): read, never written while it is so -/
  | frz (o : Obj) (u : HO)
  /-- a code object's table -/
  | tbl (ps : Array Value)
  /-- any other thing, by what is true of its one object (a def of one's own: SetO a S n := HO.ext fun h => ..) -/
  | ext (φ : Heap → Prop)
abbrev Hp := Addr → Option HO
def upd (H : Hp) (a : Addr) (o : HO) : Hp := fun b => if b = a then some o else H b
theorem upd_same {H : Hp} {a : Addr} {o : HO} : upd H a o a = some o := by unfold upd; rw [if_pos rfl]
theorem upd_ne {H : Hp} {a b : Addr} {o : HO} (h : b ≠ a) : upd H a o b = H b := by unfold upd; rw [if_neg h]
theorem ne_of {H : Hp} {a b : Addr} {o u : HO} (h : H a = some o) (h' : H b = some u) (d : o ≠ u) : a ≠ b := by
  intro e; subst e; rw [h] at h'; exact d (Option.some.inj h')
theorem ne_of_none {H : Hp} {a b : Addr} {o : HO} (h : H a = some o) (h' : H b = none) : a ≠ b := by
  intro e; subst e; rw [h] at h'; cases h'
section
variable (P : Program) (w : World)
def ObjOk (H : Hp) (h : Heap) (a : Addr) : HO → Prop
  | .lst xs => xs.length ≤ sizeLine ∧ ∃ (its : List Value) (n : Nat), Vals xs its ∧ h.get? a = some { cls := .type "list", data := .seq its.toArray n }
  | .tup xs => xs.length ≤ sizeLine ∧ ∃ its : List Value, Vals xs its ∧ IsTup h a its.toArray
  | .dK kvs => kvs.length ≤ sizeLine ∧ (a == sysModules) = false ∧ ∃ vs, KV kvs vs ∧ h.DictOf (mixKind P w) a vs
  | .dT kvs => kvs.length ≤ sizeLine ∧ (a == sysModules) = false ∧ ∃ xs : List (List Key × Addr × Value),
      Paired (fun (p : List Key × V) (q : List Key × Addr × Value) => p.1 = q.1 ∧ H q.2.1 = some (.tup (p.1.map kV)) ∧ RelV p.2 q.2.2) kvs xs ∧
      ∃ o es ep, h.get? a = some o ∧ o.ExactDict ∧ o.data = .dict es ep ∧ es.toList = xs.map (entryOfKey (tupleKind (mixKind P w))) ∧ (xs.map (·.1)).Nodup
  | .set S n => h.SetOf (intKind P w) a S n
  | .ins C dx fs => H dx = some (.own a) ∧ fs.length ≤ 1000 ∧ dx ≠ a ∧ h.get? a = some (PySem.W.instObj C dx) ∧
      ∃ mA, h.Ns1 dx mA ∧ (∀ f, RelO (fs.lookup f) (mA f)) ∧ PySem.Within mA (fs.map (·.1))
  | .own _ => ∃ o, h.get? a = some o
  | .xd fs => ∃ mA, h.Ns1 a mA ∧ ∀ f, RelO (fs.lookup f) (mA f)
  | .rng lo hi => ∃ t u v, h.get? a = some { cls := .type "range", data := .fields #[.int lo t, .int hi u, .int 1 v] }
  | .frz o u => h.get? a = some o ∧ ObjOk H h a u
  | .tbl ps => h.get? a = some { cls := .none, data := .fields ps }
  | .met f x => h.get? a = some (PySem.W.methodObj (.ref f) (.ref x))
  | .ext φ => φ h ∧ (∃ o, h.get? a = some o) ∧ ∀ h1 h2 : Heap, φ h1 → (∀ o, h1.get? a = some o → h2.get? a = some o) → φ h2
def HOk (H : Hp) (h : Heap) : Prop := ∀ a o, H a = some o → ObjOk P w H h a o
end
section
variable {P : Program} {w : World} {H H' : Hp} {h h' : Heap} {a : Addr} {o : HO}
theorem ObjOk.lt (x : ObjOk P w H h a o) : a < h.objs.size := by
  cases o with
  | lst xs => obtain ⟨_, _, _, _, e⟩ := x; exact Heap.lt_size e
  | tup xs => obtain ⟨_, _, _, p⟩ := x; exact p.lt
  | dK kvs => obtain ⟨_, _, _, _, o, _, _, e, _⟩ := x; exact Heap.lt_size e
  | dT kvs => obtain ⟨_, _, _, _, o, _, _, e, _⟩ := x; exact Heap.lt_size e
  | set S n => obtain ⟨o, _, _, _, e, _⟩ := x; exact Heap.lt_size e
  | ins C dx fs => obtain ⟨_, _, _, e, _⟩ := x; exact Heap.lt_size e
  | own y => obtain ⟨_, e⟩ := x; exact Heap.lt_size e
  | xd fs => obtain ⟨_, ⟨_, _, _, e, _⟩, _⟩ := x; exact Heap.lt_size e
  | rng lo hi => obtain ⟨_, _, _, e⟩ := x; exact Heap.lt_size e
  | frz ob u => obtain ⟨e, _⟩ := x; exact Heap.lt_size e
  | tbl ps => exact Heap.lt_size (show h.get? a = some _ from x)
  | met f y => exact Heap.lt_size (show h.get? a = some _ from x)
  | ext φ => obtain ⟨_, ⟨_, e⟩, _⟩ := x; exact Heap.lt_size e
theorem Paired.mapP {α β : Type} {F G : α → β → Prop} : ∀ {l₁ : List α} {l₂ : List β}, Paired F l₁ l₂ → (∀ a b, F a b → G a b) → Paired G l₁ l₂
  | _, _, .nil, _ => .nil
  | _, _, .cons r t, f => .cons (f _ _ r) (Paired.mapP t f)
theorem ObjOk.stay (x : ObjOk P w H h a o) (k : ∀ b u, (b = a ∨ H b = some (.own a)) → h.get? b = some u → h'.get? b = some u)
    (ho : ∀ b, H b = some (.own a) → H' b = some (.own a)) (ht : ∀ b xs, H b = some (.tup xs) → H' b = some (.tup xs)) : ObjOk P w H' h' a o := by
  induction o with
  | lst xs => obtain ⟨z, its, n, r, e⟩ := x; exact ⟨z, its, n, r, k _ _ (.inl rfl) e⟩
  | tup xs => obtain ⟨z, its, r, ob, e, c⟩ := x; exact ⟨z, its, r, ob, k _ _ (.inl rfl) e, c⟩
  | dK kvs => obtain ⟨z, y, vs, r, ob, es, ep, e, c⟩ := x; exact ⟨z, y, vs, r, ob, es, ep, k _ _ (.inl rfl) e, c⟩
  | dT kvs =>
    obtain ⟨z, y, xs, r, ob, es, ep, e, c⟩ := x
    exact ⟨z, y, xs, Paired.mapP r fun p q z => ⟨z.1, ht _ _ z.2.1, z.2.2⟩, ob, es, ep, k _ _ (.inl rfl) e, c⟩
  | set S n => obtain ⟨ob, es, ep, t, e, c⟩ := x; exact ⟨ob, es, ep, t, k _ _ (.inl rfl) e, c⟩
  | ins C dx fs =>
    obtain ⟨d, z, ne, e, mA, ⟨od, es, ep, e2, c⟩, r⟩ := x
    exact ⟨ho _ d, z, ne, k _ _ (.inl rfl) e, mA, ⟨od, es, ep, k _ _ (.inr d) e2, c⟩, r⟩
  | own y => obtain ⟨ob, e⟩ := x; exact ⟨ob, k _ _ (.inl rfl) e⟩
  | xd fs => obtain ⟨mA, ⟨od, es, ep, e, c⟩, r⟩ := x; exact ⟨mA, ⟨od, es, ep, k _ _ (.inl rfl) e, c⟩, r⟩
  | rng lo hi => obtain ⟨t, u, v, e⟩ := x; exact ⟨t, u, v, k _ _ (.inl rfl) e⟩
  | frz ob u ih => obtain ⟨e, q⟩ := x; exact ⟨k _ _ (.inl rfl) e, ih q⟩
  | tbl ps =>
    have e : h.get? a = some { cls := .none, data := .fields ps } := x
    show h'.get? a = some { cls := .none, data := .fields ps }
    exact k a _ (.inl rfl) e
  | met f y =>
    have e : h.get? a = some (PySem.W.methodObj (.ref f) (.ref y)) := x
    show h'.get? a = some (PySem.W.methodObj (.ref f) (.ref y))
    exact k a _ (.inl rfl) e
  | ext φ => obtain ⟨p, ⟨o, e⟩, st⟩ := x; exact ⟨st _ _ p fun o q => k _ _ (.inl rfl) q, ⟨o, k _ _ (.inl rfl) e⟩, st⟩
theorem HOk.lt (x : HOk P w H h) (e : H a = some o) : a < h.objs.size := (x a o e).lt
theorem HOk.fresh (x : HOk P w H h) (e : h.objs.size ≤ a) : H a = none := by
  cases q : H a with
  | none => rfl
  | some u => exact absurd (Nat.lt_of_lt_of_le (x.lt q) e) (Nat.lt_irrefl _)
theorem HOk.kept (x : HOk P w H h) (k : ∀ b u, h.get? b = some u → h'.get? b = some u) : HOk P w H h' := fun a o e =>
  (x a o e).stay (fun b u _ q => k b u q) (fun _ q => q) fun _ _ q => q
theorem HOk.laid (x : HOk P w H h) (k : ∀ b u, h.get? b = some u → h'.get? b = some u) (hp : h.objs.size ≤ a) (new : ObjOk P w (upd H a o) h' a o) : HOk P w (upd H a o) h' := fun b u e => by
  have hn := x.fresh hp
  by_cases hb : b = a
  · subst hb; rw [upd_same] at e; cases e; exact new
  · rw [upd_ne hb] at e
    exact (x b u e).stay (fun c v _ q => k c v q) (fun c q => by rw [upd_ne (ne_of_none q hn)]; exact q) fun c xs q => by rw [upd_ne (ne_of_none q hn)]; exact q
end
def Rd (H : Hp) (a : Addr) (u : HO) : Prop := H a = some u ∨ ∃ o, H a = some (.frz o u)
theorem Rd.of {H : Hp} {a : Addr} {u : HO} (h : H a = some u) : Rd H a u := .inl h
theorem Rd.ok {P : Program} {w : World} {H : Hp} {h : Heap} {a : Addr} {u : HO} (r : Rd H a u) (x : HOk P w H h) : ObjOk P w H h a u := by
  rcases r with r | ⟨o, r⟩
  · exact x a u r
  · obtain ⟨_, q⟩ := x a _ r
    exact q
def Mut : Option HO → Prop
  | some (.lst _) => True
  | some (.dK _) => True
  | some (.dT _) => True
  | some (.set _ _) => True
  | some (.ins _ _ _) => True
  | some (.ext _) => True
  | _ => False
section
variable {P : Program} {w : World} {H : Hp} {h h' : Heap} {x e : Addr} {o' : HO}
theorem HOk.write (ok : HOk P w H h) (mu : Mut (H x)) (he : e = x ∨ H e = some (.own x)) (k : ∀ b u, b ≠ e → h.get? b = some u → h'.get? b = some u) (heo : ∃ u, h'.get? e = some u)
    (new : ObjOk P w (upd H x o') h' x o') : HOk P w (upd H x o') h' := fun b u q => by
  have nown : ∀ c y, H c = some (.own y) → c ≠ x := fun c y r z => by subst z; rw [r] at mu; exact mu
  have ntup : ∀ c xs, H c = some (.tup xs) → c ≠ x := fun c xs r z => by subst z; rw [r] at mu; exact mu
  by_cases hb : b = x
  · subst hb; rw [upd_same] at q; cases q; exact new
  · rw [upd_ne hb] at q
    by_cases hbe : b = e
    · have q' : H b = some (.own x) := by
        rcases he with z | z
        · exact absurd (hbe.trans z) hb
        · rw [hbe]; exact z
      rw [q] at q'; cases q'
      obtain ⟨v, hv⟩ := heo
      exact ⟨v, by rw [hbe]; exact hv⟩
    · refine (ok b u q).stay (fun c v hc r => k c v ?_ r) (fun c r => by rw [upd_ne (nown c b r)]; exact r) fun c xs r => by rw [upd_ne (ntup c xs r)]; exact r
      rcases hc with rfl | hc
      · exact hbe
      · rintro rfl
        rcases he with z | z
        · exact nown c b hc z
        · rw [hc] at z; cases z; exact hb rfl
end
structure Un (fs ex : List Addr) (H H' : Hp) (h h' : Heap) : Prop where
  keep : ∀ b o, h.get? b = some o → H b = none → b ∉ fs → b ∉ ex → h'.get? b = some o
  slot : ∀ b o, h.get? b = some o → H b = none → b ∈ fs → b ∉ ex → ∃ sl, h'.get? b = some { o with slots := sl }
  free : ∀ b o, h.get? b = some o → H b = none → b ∉ ex → H' b = none
  there : ∀ b o, h.get? b = some o → b ∉ ex → ∃ o', h'.get? b = some o'
  tups : ∀ b xs, H b = some (.tup xs) → H' b = some (.tup xs)
  frzs : ∀ b o u, H b = some (.frz o u) → H' b = some (.frz o u)
  tbls : ∀ b ps, H b = some (.tbl ps) → ∃ more, H' b = some (.tbl (ps ++ more))
section
variable {fs fs' ex ex' : List Addr} {H H1 H2 : Hp} {h h1 h2 h' : Heap} {a x e : Addr} {o : HO}
theorem Un.any (u : Un fs ex H H1 h h1) {b : Addr} {ob : Obj} (q : h.get? b = some ob) (n : H b = none) (hx : b ∉ ex) : ∃ sl, h1.get? b = some { ob with slots := sl } := by
  by_cases hb : b ∈ fs
  · exact u.slot b ob q n hb hx
  · exact ⟨ob.slots, u.keep b ob q n hb hx⟩
theorem Un.trans (a : Un fs ex H H1 h h1) (b : Un fs ex H1 H2 h1 h2) : Un fs ex H H2 h h2 where
  keep := fun c ob q n hc hx => b.keep c ob (a.keep c ob q n hc hx) (a.free c ob q n hx) hc hx
  slot := fun c ob q n hc hx => by
    obtain ⟨sl, e1⟩ := a.slot c ob q n hc hx
    obtain ⟨sl', e2⟩ := b.slot c _ e1 (a.free c ob q n hx) hc hx
    exact ⟨sl', e2⟩
  free := fun c ob q n hx => by
    obtain ⟨o', e1⟩ := a.there c ob q hx
    exact b.free c o' e1 (a.free c ob q n hx) hx
  there := fun c ob q hx => by
    obtain ⟨o', e1⟩ := a.there c ob q hx
    exact b.there c o' e1 hx
  tups := fun c xs q => b.tups c xs (a.tups c xs q)
  frzs := fun c ob xs q => b.frzs c ob xs (a.frzs c ob xs q)
  tbls := fun c ps q => by
    obtain ⟨m1, e1⟩ := a.tbls c ps q
    obtain ⟨m2, e2⟩ := b.tbls c _ e1
    exact ⟨m1 ++ m2, by rw [e2, Array.append_assoc]⟩
theorem Un.kept (k : ∀ b u, h.get? b = some u → h'.get? b = some u) : Un fs ex H H h h' :=
  ⟨fun b ob q _ _ _ => k b ob q, fun b ob q _ _ _ => ⟨ob.slots, k b ob q⟩, fun _ _ _ n _ => n, fun b ob q _ => ⟨ob, k b ob q⟩, fun _ _ q => q, fun _ _ _ q => q, fun _ ps q => ⟨#[], by rw [q]; simp⟩⟩
theorem Un.refl : Un fs ex H H h h := Un.kept fun _ _ q => q
theorem Un.laid (k : ∀ b u, h.get? b = some u → h'.get? b = some u) (hp : h.objs.size ≤ a) (hn : H a = none) : Un fs ex H (upd H a o) h h' where
  keep := fun b u q _ _ _ => k b u q
  slot := fun b u q _ _ _ => ⟨u.slots, k b u q⟩
  free := fun b u q n _ => by rw [upd_ne (Nat.ne_of_lt (Nat.lt_of_lt_of_le (Heap.lt_size q) hp))]; exact n
  there := fun b u q _ => ⟨u, k b u q⟩
  tups := fun b xs q => by rw [upd_ne (ne_of_none q hn)]; exact q
  frzs := fun b u xs q => by rw [upd_ne (ne_of_none q hn)]; exact q
  tbls := fun b ps q => ⟨#[], by rw [upd_ne (ne_of_none q hn), q]; simp⟩
theorem Un.write (mu : Mut (H x)) (he : e = x ∨ H e = some (.own x)) (k : ∀ b u, b ≠ e → h.get? b = some u → h'.get? b = some u) (heo : ∃ u, h'.get? e = some u) : Un fs ex H (upd H x o) h h' := by
  have hx : ∀ b, H b = none → b ≠ x := fun b n z => by subst z; rw [n] at mu; exact mu
  have hb : ∀ b, H b = none → b ≠ e := fun b n z => by
    subst z
    rcases he with r | r
    · exact hx b n r
    · rw [n] at r; cases r
  have hm : ∀ b u, H b = some u → ¬ Mut (some u) → b ≠ x := fun b u q nm z => by subst z; rw [q] at mu; exact nm mu
  refine ⟨fun b u q n _ _ => k b u (hb b n) q, fun b u q n _ _ => ⟨u.slots, k b u (hb b n) q⟩, fun b u q n _ => by rw [upd_ne (hx b n)]; exact n, fun b u q _ => ?_,
    fun b xs q => by rw [upd_ne (hm b _ q fun z => z)]; exact q, fun b u xs q => by rw [upd_ne (hm b _ q fun z => z)]; exact q, fun b ps q => ⟨#[], by rw [upd_ne (hm b _ q fun z => z), q]; simp⟩⟩
  by_cases hbe : b = e
  · subst hbe; exact heo
  · exact ⟨u, k b u hbe q⟩
theorem Un.mono (u : Un fs ex H H1 h h1) (hs : ∀ b ∈ fs, b ∈ fs') (hx : ∀ b ∈ ex, b ∈ ex') : Un fs' ex' H H1 h h1 :=
  ⟨fun b ob q n hb he => u.keep b ob q n (fun z => hb (hs b z)) fun z => he (hx b z), fun _ _ q n _ he => u.any q n fun z => he (hx _ z), fun b ob q n he => u.free b ob q n fun z => he (hx b z), fun b ob q he => u.there b ob q fun z => he (hx b z), u.tups, u.frzs, u.tbls⟩
end
def trk (h : Heap) (H : Hp) : List Addr := (List.range h.objs.size).filter fun a => (H a).isSome
def hidT (h : Heap) (H : Hp) : Heap := PySem.W.hideAll h (trk h H)
theorem hidT_size (h : Heap) (H : Hp) : (hidT h H).objs.size = h.objs.size := PySem.W.hideAll_size _ _
theorem hidT_get {h : Heap} {H : Hp} {b : Addr} {o : Obj} (e : h.get? b = some o) (n : H b = none) : (hidT h H).get? b = some o :=
  PySem.W.hideAll_get _ e fun hm => by
    have q : (H b).isSome = true := (List.mem_filter.mp hm).2
    rw [n] at q; simp at q
theorem of_hidT {h : Heap} {H : Hp} {b : Addr} {o : Obj} (e : (hidT h H).get? b = some o) : h.get? b = some o ∧ H b = none := by
  have e' : h.get? b = some o := PySem.W.of_hideAll (trk h H) e
  refine ⟨e', ?_⟩
  cases q : H b with
  | none => rfl
  | some x =>
    have hm : b ∈ trk h H := List.mem_filter.mpr ⟨List.mem_range.mpr (Heap.lt_size e'), by simp [q]⟩
    have z : (hidT h H).get? b = none := PySem.W.hideAll_none (trk h H) hm
    rw [z] at e; cases e
def allNews (g h : Heap) (L : Addr) : List (Addr × Obj) := (List.range h.objs.size).filterMap fun a => if a = L ∨ (g.get? a).isSome = true then none else (h.get? a).map fun o => (a, o)
def rest (g h : Heap) (L d : Addr) : List (Addr × Obj) := (allNews g h L).filter fun p => decide (p.1 ≠ d)
end L2
namespace L2
open PySem PySem.Spec PyProof.Rows
structure Mod (K : PySem.W.Frag) (mg : Str → Option Value) (base : Heap) : Prop where
  kin : K.In base
  glob : base.Ns mainGlobals mg
  blt : ∃ mb, base.Ns builtinsNs mb ∧ ∀ x : Str, x ≠ "__name__" → mb x = bootBuiltins x
  nolimit : base.NoLimit
structure Cx where
  prog : Program
  w : World
  K : PySem.W.Frag
  mg : Str → Option Value
  base : Heap
  A : Around
  N : List Str
  s₀ : Shared
  H₀ : Hp
  env : Env
  outer : List Env
  stack : List Env
  ex : List Addr
  fn : Str → Bool
  calm : Bool
  pn : List (Addr × Obj)
  xe : Value → Shared → Prop
def frs (l : List Env) : List Addr := l.filterMap (·.frame)
abbrev Cx.fs (X : Cx) : List Addr := frs X.outer
def Vis (sc : Scope) (x : Str) : Prop := sc.names.lookup x = some .local ∨ sc.names.lookup x = some .cell ∨ sc.names.lookup x = some .free
def Loc (sc : Scope) (x : Str) : Prop := sc.names.lookup x = some .local ∨ sc.names.lookup x = some .cell
def Look (env : Env) (h : Heap) (m : Str → Option Value) (x : Str) (u : Value) : Prop :=
  (env.kindOf x = some .local ∧ m x = some u) ∨ ((env.kindOf x = some .cell ∨ env.kindOf x = some .free) ∧ ∃ c, env.cells.lookup x = some c ∧ h.IsCell c (some u))
structure Cx.Ok (X : Cx) : Prop where
  mod : Mod X.K X.mg X.base
  kind : X.env.scope.kind = .function
  glob : X.env.globals = mainGlobals
  blt : X.env.builtins = builtinsNs
  above : X.s₀.heap.objs.size ≤ X.env.locals
  inj : ∀ x y c, X.env.cells.lookup x = some c → X.env.cells.lookup y = some c → x = y
  has : ∀ x, (X.env.kindOf x = some .cell ∨ X.env.kindOf x = some .free) → ∃ c, X.env.cells.lookup x = some c
  cab : ∀ x c, X.fn x = true → X.env.cells.lookup x = some c → X.s₀.heap.objs.size ≤ c
  hd : X.calm = true → X.A.handled = none
  frames : X.A.frames = some X.stack
  stk : X.stack = X.outer ∨ (X.stack = X.env :: X.outer ∧ X.env.frame = some X.env.locals)
  exf : ∀ b ∈ X.ex, b ≠ X.env.locals ∧ ∀ x c, X.env.cells.lookup x = some c → c ≠ b
  bs : ∀ b o, X.base.get? b = some o → X.s₀.heap.get? b = some o ∧ X.H₀ b = none
  bsz : X.base.objs.size ≤ X.s₀.heap.objs.size
  noex : ∀ b o, X.base.get? b = some o → b ∉ X.ex
  exfs : ∀ b ∈ X.ex, b ∉ X.fs
  funs : X.s₀.heap.FunFrames X.base X.outer
  frf : ∀ b ∈ X.fs, X.H₀ b = none
structure Inv (X : Cx) (pins : List (Addr × Obj)) (σ : List (Option V)) (H : Hp) (s : Shared) : Prop where
  ok : X.Ok
  os : s.os = X.s₀.os
  bare : AllBare s.gens
  base : Un X.fs X.ex X.H₀ H X.s₀.heap s.heap
  loc : ∃ m, s.heap.Ns X.env.locals m ∧ ∀ (i : Nat) (x : Str) (v : V), X.N[i]? = some x → σ[i]? = some (some v) → Vis X.env.scope x → ∃ u, RelV v u ∧ Look X.env s.heap m x u
  cell : ∀ x c, X.env.cells.lookup x = some c → ∃ v, s.heap.IsCell c v
  free : H X.env.locals = none
  freeC : ∀ x c, X.env.cells.lookup x = some c → H c = none
  pin : ∀ p ∈ X.pn ++ pins, s.heap.get? p.1 = some p.2 ∧ H p.1 = none ∧ p.1 ≠ X.env.locals ∧ p.1 ∉ X.fs ∧ ∀ v, p.2.data ≠ .cell v
  hok : HOk X.prog X.w H s.heap
  len : σ.length = X.N.length
section
variable {X : Cx} {pins : List (Addr × Obj)} {σ : List (Option V)} {H H' : Hp} {s : Shared} {h' : Heap}
theorem Cx.Ok.nofr (ok : X.Ok) {b : Addr} {o : Obj} (e : X.base.get? b = some o) : b ∉ X.fs := fun hb => by
  have := (ok.funs.mem hb).1
  rw [e] at this; cases this
theorem Inv.bs (I : Inv X pins σ H s) : ∀ b o, X.base.get? b = some o → s.heap.get? b = some o ∧ H b = none := fun b o e =>
  ⟨I.base.keep b o (I.ok.bs b o e).1 (I.ok.bs b o e).2 (I.ok.nofr e) (I.ok.noex b o e), I.base.free b o (I.ok.bs b o e).1 (I.ok.bs b o e).2 (I.ok.noex b o e)⟩
theorem Inv.bk (I : Inv X pins σ H s) : ∀ b o, X.base.get? b = some o → s.heap.get? b = some o := fun b o e => (I.bs b o e).1
theorem Inv.mod (I : Inv X pins σ H s) : Mod X.K X.mg X.base := I.ok.mod
theorem Inv.kIn (I : Inv X pins σ H s) : X.K.In s.heap := I.ok.mod.kin.keeps I.bk
theorem Inv.nolimit (I : Inv X pins σ H s) : s.heap.NoLimit := I.ok.mod.nolimit.keeps I.bk
theorem Inv.fr (I : Inv X pins σ H s) : ∃ m, Fr X.base X.env.locals s.heap m :=
  let ⟨m, hn, _⟩ := I.loc
  ⟨m, hn, I.bk, Nat.le_trans I.ok.bsz I.ok.above⟩
theorem Inv.lt (I : Inv X pins σ H s) : X.env.locals < s.heap.objs.size := let ⟨_, hn, _⟩ := I.loc; hn.lt
theorem Inv.sz (I : Inv X pins σ H s) : X.s₀.heap.objs.size ≤ s.heap.objs.size := Nat.le_trans I.ok.above (Nat.le_of_lt I.lt)
theorem Inv.nofs (I : Inv X pins σ H s) {a : Addr} (h : s.heap.objs.size ≤ a) : a ∉ X.fs := fun hb => by
  obtain ⟨_, o, ho, _⟩ := I.ok.funs.mem hb
  exact absurd (Nat.lt_of_lt_of_le (Heap.lt_size ho) (Nat.le_trans I.sz h)) (Nat.lt_irrefl _)
theorem Inv.cne (I : Inv X pins σ H s) : ∀ x c, X.env.cells.lookup x = some c → c ≠ X.env.locals := fun x c e z => by
  obtain ⟨v, o, ho, hd⟩ := I.cell x c e
  obtain ⟨m, ⟨o', es, ep, ho', hd', _⟩, _⟩ := I.loc
  rw [z, ho'] at ho; cases ho; rw [hd'] at hd; cases hd
theorem Inv.funs (I : Inv X pins σ H s) : s.heap.FunFrames X.base X.outer := by
  have all : ∀ (l : List Env), (∀ b ∈ frs l, b ∈ X.fs) → X.s₀.heap.FunFrames X.base l → s.heap.FunFrames X.base l := by
    intro l
    induction l with
    | nil => intro _ _; trivial
    | cons env r ih =>
      intro hs hl
      obtain ⟨hk, ⟨L, o, hf, hn, ho, hd⟩, hr⟩ := hl
      have hL : L ∈ X.fs := hs L (by unfold frs; rw [List.filterMap_cons, hf]; exact List.mem_cons_self)
      obtain ⟨sl, e⟩ := I.base.slot L o ho (I.ok.frf L hL) hL fun z => I.ok.exfs L z hL
      exact ⟨hk, ⟨L, _, hf, hn, e, hd⟩, ih (fun b hb => hs b (by unfold frs; rw [List.filterMap_cons, hf]; exact List.mem_cons_of_mem _ hb)) hr⟩
  exact all X.outer (fun _ hb => hb) I.ok.funs
theorem Inv.stack (I : Inv X pins σ H s) : s.heap.FunFrames X.base X.stack := by
  rcases I.ok.stk with e | ⟨e, hf⟩
  · rw [e]; exact I.funs
  · rw [e]
    obtain ⟨m, hn, _⟩ := I.loc
    refine .cons (by rw [I.ok.kind]; decide) hf hn ?_ I.funs
    exact Heap.get?_none_of_le (Nat.le_trans I.ok.bsz I.ok.above)
theorem Inv.stkSub (I : Inv X pins σ H s) : ∀ b ∈ frs X.stack, b ∈ X.env.locals :: X.fs := fun b hb => by
  rcases I.ok.stk with e | ⟨e, hf⟩
  · rw [e] at hb; exact List.mem_cons_of_mem _ hb
  · rw [e] at hb
    unfold frs at hb
    rw [List.filterMap_cons, hf] at hb
    exact hb
theorem Inv.stkFree (I : Inv X pins σ H s) : ∀ b ∈ frs X.stack, H b = none := fun b hb => by
  rcases List.mem_cons.mp (I.stkSub b hb) with e | hb
  · rw [e]; exact I.free
  · obtain ⟨_, o, ho, _⟩ := I.ok.funs.mem hb
    exact I.base.free b o ho (I.ok.frf b hb) fun z => I.ok.exfs b z hb
theorem Inv.step {g' : Array GenState} {t' : Nat} {d' : Drawn} {ch : List Addr} (I : Inv X pins σ H s)
    (hch : ∀ b ∈ ch, (b ∈ X.ex ∨ X.s₀.heap.objs.size ≤ b) ∧ b ≠ X.env.locals ∧ (∀ x c, X.env.cells.lookup x = some c → c ≠ b) ∧ ∀ p ∈ X.pn ++ pins, p.1 ≠ b)
    (keep : ∀ b o, b ≠ X.env.locals → b ∉ X.fs → b ∉ ch → s.heap.get? b = some o → H b = none → h'.get? b = some o)
    (slot : ∀ b o, b ≠ X.env.locals → b ∈ X.fs → b ∉ ch → s.heap.get? b = some o → H b = none → ∃ sl, h'.get? b = some { o with slots := sl }) (free : ∀ b o, b ∉ ch → s.heap.get? b = some o → H b = none → H' b = none)
    (there : ∀ b o, b ∉ ch → s.heap.get? b = some o → ∃ o', h'.get? b = some o')
    (tups : ∀ b xs, H b = some (.tup xs) → H' b = some (.tup xs)) (frzs : ∀ b o u, H b = some (.frz o u) → H' b = some (.frz o u)) (tbls : ∀ b ps, H b = some (.tbl ps) → ∃ more, H' b = some (.tbl (ps ++ more)))
    (ns : ∀ m, s.heap.Ns X.env.locals m → h'.Ns X.env.locals m) (hok : HOk X.prog X.w H' h') (hg : AllBare g') :
    Inv X pins σ H' { s with heap := h', gens := g', drawn := d', toks := t' } := by
  have neL : ∀ b o, X.s₀.heap.get? b = some o → b ≠ X.env.locals := fun b o e => Nat.ne_of_lt (Nat.lt_of_lt_of_le (Heap.lt_size e) I.ok.above)
  have neC : ∀ b o, X.s₀.heap.get? b = some o → b ∉ X.ex → b ∉ ch := fun b o e hx hb => by
    rcases (hch b hb).1 with z | z
    · exact hx z
    · exact absurd (Nat.lt_of_lt_of_le (Heap.lt_size e) z) (Nat.lt_irrefl _)
  have cellK : ∀ x c, X.env.cells.lookup x = some c → ∀ v, s.heap.IsCell c v → h'.IsCell c v := fun x c e v ⟨o, ho, hd⟩ => by
    have nch : c ∉ ch := fun z => (hch c z).2.2.1 x c e rfl
    by_cases hc : c ∈ X.fs
    · obtain ⟨sl, q⟩ := slot c o (I.cne x c e) hc nch ho (I.freeC x c e)
      exact ⟨_, q, hd⟩
    · exact ⟨o, keep c o (I.cne x c e) hc nch ho (I.freeC x c e), hd⟩
  refine ⟨I.ok, I.os, hg, ⟨fun b o e n hb hx => ?_, fun b o e n hb hx => ?_, fun b o e n hx => ?_, fun b o e hx => ?_, fun b xs e => tups b xs (I.base.tups b xs e), fun b o xs e => frzs b o xs (I.base.frzs b o xs e), fun b ps e => ?_⟩, ?_, fun x c e => ?_, ?_, fun x c e => ?_, fun p hp => ?_, hok, I.len⟩
  · exact keep b o (neL b o e) hb (neC b o e hx) (I.base.keep b o e n hb hx) (I.base.free b o e n hx)
  · obtain ⟨sl, e1⟩ := I.base.slot b o e n hb hx
    obtain ⟨sl', e2⟩ := slot b _ (neL b o e) hb (neC b o e hx) e1 (I.base.free b o e n hx)
    exact ⟨sl', e2⟩
  · obtain ⟨o', e1⟩ := I.base.there b o e hx
    exact free b o' (neC b o e hx) e1 (I.base.free b o e n hx)
  · obtain ⟨o', e1⟩ := I.base.there b o e hx
    exact there b o' (neC b o e hx) e1
  · obtain ⟨m1, e1⟩ := I.base.tbls b ps e
    obtain ⟨m2, e2⟩ := tbls b _ e1
    exact ⟨m1 ++ m2, by rw [e2, Array.append_assoc]⟩
  · obtain ⟨m, hn, hl⟩ := I.loc
    refine ⟨m, ns m hn, fun i x v e1 e2 e3 => ?_⟩
    obtain ⟨u, r, l⟩ := hl i x v e1 e2 e3
    refine ⟨u, r, ?_⟩
    rcases l with l | ⟨k, c, e, z⟩
    · exact .inl l
    · exact .inr ⟨k, c, e, cellK x c e _ z⟩
  · obtain ⟨v, z⟩ := I.cell x c e
    exact ⟨v, cellK x c e v z⟩
  · obtain ⟨m, ⟨o, _, _, ho, _⟩, _⟩ := I.loc
    exact free _ o (fun z => (hch _ z).2.1 rfl) ho I.free
  · obtain ⟨v, o, ho, hd⟩ := I.cell x c e
    exact free c o (fun z => (hch c z).2.2.1 x c e rfl) ho (I.freeC x c e)
  · obtain ⟨e, n, ne, nf, d⟩ := I.pin p hp
    have nch : p.1 ∉ ch := fun z => (hch p.1 z).2.2.2 p hp rfl
    exact ⟨keep p.1 p.2 ne nf nch e n, free p.1 p.2 nch e n, ne, nf, d⟩
theorem Inv.un {t' : Nat} (I : Inv X pins σ H s) (u : Un X.fs [] H H' s.heap h') (hok : HOk X.prog X.w H' h') : Inv X pins σ H' { s with heap := h', toks := t' } := by
  obtain ⟨m, ⟨o, es, ep, ho, r⟩, _⟩ := id I.loc
  obtain ⟨sl, hL⟩ := u.any ho I.free (by simp)
  exact I.step (g' := s.gens) (d' := s.drawn) (ch := []) (fun _ z => nomatch z) (fun b o _ hb _ e n => u.keep b o e n hb (by simp)) (fun b o _ hb _ e n => u.slot b o e n hb (by simp)) (fun b o _ e n => u.free b o e n (by simp)) (fun b o _ e => u.there b o e (by simp)) u.tups u.frzs u.tbls (fun m' hm => by
    obtain ⟨o', es', ep', ho', r'⟩ := hm
    rw [ho] at ho'; cases ho'
    exact ⟨_, es', ep', hL, r'⟩) hok I.bare
theorem Inv.call {g' : Array GenState} {t' : Nat} {d' : Drawn} {ch : List Addr} (I : Inv X pins σ H s) (u : Un (frs X.stack) ch H H' s.heap h') (hok : HOk X.prog X.w H' h') (hg : AllBare g')
    (hch : ∀ b ∈ ch, (b ∈ X.ex ∨ X.s₀.heap.objs.size ≤ b) ∧ b ≠ X.env.locals ∧ (∀ x c, X.env.cells.lookup x = some c → c ≠ b) ∧ ∀ p ∈ X.pn ++ pins, p.1 ≠ b) :
    Inv X pins σ H' { s with heap := h', gens := g', drawn := d', toks := t' } := by
  obtain ⟨m, ⟨o, es, ep, ho, r⟩, _⟩ := id I.loc
  obtain ⟨sl, hL⟩ := u.any ho I.free fun z => (hch _ z).2.1 rfl
  exact I.step (ch := ch) hch (fun b o hL hb hc e n => u.keep b o e n (fun z => (List.mem_cons.mp (I.stkSub b z)).elim hL hb) hc) (fun b o _ _ hc e n => u.any e n hc) (fun b o hc e n => u.free b o e n hc) (fun b o hc e => u.there b o e hc) u.tups u.frzs u.tbls (fun m' hm => by
    obtain ⟨o', es', ep', ho', r'⟩ := hm
    rw [ho] at ho'; cases ho'
    exact ⟨_, es', ep', hL, r'⟩) hok hg
theorem Inv.turned {t' : Nat} {it : Addr} (I : Inv X pins σ H s) (k : ∀ b o, b ≠ it → s.heap.get? b = some o → h'.get? b = some o) (hn : H it = none) (hL : it ≠ X.env.locals)
    (h1 : it ∈ X.ex ∨ X.s₀.heap.objs.size ≤ it) (h2 : ∀ x c, X.env.cells.lookup x = some c → c ≠ it) (h3 : ∀ p ∈ X.pn ++ pins, p.1 ≠ it) : Inv X pins σ H { s with heap := h', toks := t' } := by
  have nit : ∀ b u, H b = some u → b ≠ it := fun b u e z => by rw [z, hn] at e; cases e
  refine I.step (g' := s.gens) (d' := s.drawn) (ch := [it]) (fun b hb => ?_) (fun b o _ _ hc e _ => k b o (fun z => hc (by simp [z])) e) (fun b o _ _ hc e _ => ⟨o.slots, k b o (fun z => hc (by simp [z])) e⟩) (fun _ _ _ _ n => n)
    (fun b o hc e => ⟨o, k b o (fun z => hc (by simp [z])) e⟩) (fun _ _ e => e) (fun _ _ _ e => e) (fun b ps e => ⟨#[], by rw [e]; simp⟩) (fun m hm => ?_) (fun b u e => ?_) I.bare
  · have e : b = it := by simpa using hb
    subst e
    exact ⟨h1, hL, h2, h3⟩
  · obtain ⟨o, es, ep, ho, r⟩ := hm
    exact ⟨o, es, ep, k _ o (Ne.symm hL) ho, r⟩
  · refine (I.hok b u e).stay (fun c v hc q => k c v ?_ q) (fun _ q => q) fun _ _ q => q
    rcases hc with z | z
    · rw [z]; exact nit b u e
    · exact nit c _ z
theorem Inv.tok (I : Inv X pins σ H s) (t : Nat) : Inv X pins σ H { s with toks := t } := I.un (h' := s.heap) (t' := t) Un.refl I.hok
theorem Inv.kept {t' : Nat} (I : Inv X pins σ H s) (k : ∀ b u, s.heap.get? b = some u → h'.get? b = some u) : Inv X pins σ H { s with heap := h', toks := t' } := I.un (Un.kept k) (I.hok.kept k)
theorem Inv.laid {a : Addr} {o : HO} {t' : Nat} (I : Inv X pins σ H s) (k : ∀ b u, s.heap.get? b = some u → h'.get? b = some u) (hp : s.heap.objs.size ≤ a) (new : ObjOk X.prog X.w (upd H a o) h' a o) :
    Inv X pins σ (upd H a o) { s with heap := h', toks := t' } := I.un (Un.laid k hp (I.hok.fresh hp)) (I.hok.laid k hp new)
theorem Inv.write {x e : Addr} {o : HO} {t' : Nat} (I : Inv X pins σ H s) (mu : Mut (H x)) (he : e = x ∨ H e = some (.own x)) (k : ∀ b u, b ≠ e → s.heap.get? b = some u → h'.get? b = some u) (heo : ∃ u, h'.get? e = some u)
    (new : ObjOk X.prog X.w (upd H x o) h' x o) : Inv X pins σ (upd H x o) { s with heap := h', toks := t' } := I.un (Un.write mu he k heo) (I.hok.write mu he k heo new)
theorem Inv.weak {σ' : List (Option V)} (I : Inv X pins σ H s) (hl : σ'.length = σ.length) (w : ∀ (i : Nat) v, σ'[i]? = some (some v) → σ[i]? = some (some v)) : Inv X pins σ' H s :=
  ⟨I.ok, I.os, I.bare, I.base, let ⟨m, hn, hl'⟩ := I.loc; ⟨m, hn, fun i x v e1 e2 e3 => hl' i x v e1 (w i v e2) e3⟩, I.cell, I.free, I.freeC, I.pin, I.hok, hl.trans I.len⟩
theorem Inv.pins_of {pins' : List (Addr × Obj)} (I : Inv X pins σ H s) (h : ∀ p ∈ pins', s.heap.get? p.1 = some p.2 ∧ H p.1 = none ∧ p.1 ≠ X.env.locals ∧ p.1 ∉ X.fs ∧ ∀ v, p.2.data ≠ .cell v) : Inv X pins' σ H s :=
  ⟨I.ok, I.os, I.bare, I.base, I.loc, I.cell, I.free, I.freeC, fun p hp => (List.mem_append.mp hp).elim (fun z => I.pin p (List.mem_append_left _ z)) (h p), I.hok, I.len⟩
theorem nodup_ix {N : List Str} (hN : N.Nodup) {i j : Nat} {x : Str} (a : N[i]? = some x) (b : N[j]? = some x) : i = j := by
  obtain ⟨h1, e1⟩ := List.getElem?_eq_some_iff.mp a
  obtain ⟨h2, e2⟩ := List.getElem?_eq_some_iff.mp b
  exact (List.getElem_inj hN).mp (e1.trans e2.symm)
theorem store_ok2 {M : Model} {A : Around} {E : Value → Shared → Prop} {i : Nat} {x : Str} {v : V} {u : Value} {Q : Unit → Shared → Prop} (I : Inv X pins σ H s) (hN : X.N.Nodup) (hi : X.N[i]? = some x) (hx : Loc X.env.scope x) (r : RelV v u)
    (h : ∀ s', Inv X pins (σ.set i (some v)) H s' → (∃ a, Heap.SameBut a s.heap s'.heap ∧ (a = X.env.locals ∨ X.env.cells.lookup x = some a)) → Q () s') (hf : X.fn x = true ∨ X.env.scope.names.lookup x = some .local := by first | exact .inl rfl | exact .inr rfl | assumption) : wpAny M A (storeName X.env x u) Q E s := by
  obtain ⟨m, hn, hl⟩ := id I.loc
  have hcls : (X.env.scope.kind == .class || (X.env.scope.kind == .module && X.env.locals != X.env.globals)) = false := by rw [I.ok.kind]; rfl
  have hiσ : i < σ.length := by rw [I.len]; exact (List.getElem?_eq_some_iff.mp hi).1
  have cne := I.cne
  have tracked : ∀ {a : Addr} {h' : Heap}, (∃ o, s.heap.get? a = some o ∧ H a = none) → Heap.SameBut a s.heap h' → HOk X.prog X.w H h' := fun {a h'} ha hs b ob e => by
    obtain ⟨_, _, hfree⟩ := ha
    refine (I.hok b ob e).stay (fun c w' hc q => (hs.2 c ?_).trans q) (fun _ q => q) fun _ _ q => q
    rintro rfl
    rcases hc with rfl | hc
    · rw [hfree] at e; cases e
    · rw [hfree] at hc; cases hc
  rcases hx with hk | hk
  · refine wpAny_storeName_local hk hn (fun h' hn' hs => ?_) hcls
    obtain ⟨oL, _, _, hoL, _⟩ := id hn
    refine h _ ⟨I.ok, I.os, I.bare, ⟨fun b o e n hb hx => ?_, fun b o e n hb hx => ?_, I.base.free, fun b o e hx => ?_, I.base.tups, I.base.frzs, I.base.tbls⟩, ⟨_, hn', fun j y v' e1 e2 e3 => ?_⟩, fun y c e => ?_, I.free, I.freeC, fun p hp => ?_, tracked ⟨oL, hoL, I.free⟩ hs, by simpa using I.len⟩ ⟨_, hs, .inl rfl⟩
    · exact (hs.2 b (Nat.ne_of_lt (Nat.lt_of_lt_of_le (Heap.lt_size e) I.ok.above))).trans (I.base.keep b o e n hb hx)
    · obtain ⟨sl, e1⟩ := I.base.slot b o e n hb hx
      exact ⟨sl, (hs.2 b (Nat.ne_of_lt (Nat.lt_of_lt_of_le (Heap.lt_size e) I.ok.above))).trans e1⟩
    · obtain ⟨o', e1⟩ := I.base.there b o e hx
      exact ⟨o', (hs.2 b (Nat.ne_of_lt (Nat.lt_of_lt_of_le (Heap.lt_size e) I.ok.above))).trans e1⟩
    · by_cases hj : j = i
      · subst hj
        rw [hi] at e1; cases e1
        rw [List.getElem?_set_self hiσ] at e2
        cases e2
        exact ⟨u, r, .inl ⟨hk, by simp⟩⟩
      · rw [List.getElem?_set_ne (Ne.symm hj)] at e2
        obtain ⟨u', r', q⟩ := hl j y v' e1 e2 e3
        refine ⟨u', r', ?_⟩
        rcases q with ⟨k, e⟩ | ⟨k, c, e, z⟩
        · refine .inl ⟨k, ?_⟩
          have : y ≠ x := fun e => hj (nodup_ix hN e1 (e ▸ hi))
          simp [this, e]
        · exact .inr ⟨k, c, e, z.sameBut hs (cne y c e)⟩
    · obtain ⟨w', z⟩ := I.cell y c e
      exact ⟨w', z.sameBut hs (cne y c e)⟩
    · obtain ⟨e, n, ne, nf, d⟩ := I.pin p hp
      exact ⟨(hs.2 p.1 ne).trans e, n, ne, nf, d⟩
  · have hfn : X.fn x = true := by
      rcases hf with z | z
      · exact z
      · rw [z] at hk; cases hk
    obtain ⟨c, hc⟩ := I.ok.has x (.inl hk)
    obtain ⟨w', z⟩ := I.cell x c hc
    refine wpAny_storeName_cell I.ok.kind hk hc z (fun h' hc' hs => ?_)
    obtain ⟨oc, hoc, hocd⟩ := id z
    refine h { s with heap := h' } ⟨I.ok, I.os, I.bare, ⟨fun b o e n hb hx => ?_, fun b o e n hb hx => ?_, I.base.free, fun b o e hx => ?_, I.base.tups, I.base.frzs, I.base.tbls⟩, ⟨m, hn.sameBut hs (Ne.symm (cne x c hc)), fun j y v' e1 e2 e3 => ?_⟩, fun y c' e => ?_, I.free, I.freeC, fun p hp => ?_, tracked ⟨oc, hoc, I.freeC x c hc⟩ hs, by simpa using I.len⟩ ⟨c, hs, .inr hc⟩
    · exact (hs.2 b (Nat.ne_of_lt (Nat.lt_of_lt_of_le (Heap.lt_size e) (I.ok.cab x c hfn hc)))).trans (I.base.keep b o e n hb hx)
    · obtain ⟨sl, e1⟩ := I.base.slot b o e n hb hx
      exact ⟨sl, (hs.2 b (Nat.ne_of_lt (Nat.lt_of_lt_of_le (Heap.lt_size e) (I.ok.cab x c hfn hc)))).trans e1⟩
    · obtain ⟨o', e1⟩ := I.base.there b o e hx
      exact ⟨o', (hs.2 b (Nat.ne_of_lt (Nat.lt_of_lt_of_le (Heap.lt_size e) (I.ok.cab x c hfn hc)))).trans e1⟩
    · by_cases hj : j = i
      · subst hj
        rw [hi] at e1; cases e1
        rw [List.getElem?_set_self hiσ] at e2
        cases e2
        exact ⟨u, r, .inr ⟨.inl hk, c, hc, hc'⟩⟩
      · rw [List.getElem?_set_ne (Ne.symm hj)] at e2
        obtain ⟨u', r', q⟩ := hl j y v' e1 e2 e3
        refine ⟨u', r', ?_⟩
        rcases q with q | ⟨k, c', e, z'⟩
        · exact .inl q
        · refine .inr ⟨k, c', e, z'.sameBut hs ?_⟩
          rintro rfl
          exact hj (nodup_ix hN e1 (I.ok.inj _ _ _ e hc ▸ hi))
    · by_cases hcc : c' = c
      · subst hcc; exact ⟨_, hc'⟩
      · obtain ⟨w2, z2⟩ := I.cell y c' e
        exact ⟨w2, z2.sameBut hs hcc⟩
    · obtain ⟨e, n, ne, nf, d⟩ := I.pin p hp
      refine ⟨(hs.2 p.1 ?_).trans e, n, ne, nf, d⟩
      intro q
      rw [q, hoc] at e
      have q' : oc = p.2 := Option.some.inj e
      exact d w' (by rw [← q']; exact hocd)
theorem store_ok {M : Model} {A : Around} {E : Value → Shared → Prop} {i : Nat} {x : Str} {v : V} {u : Value} {Q : Unit → Shared → Prop} (I : Inv X pins σ H s) (hN : X.N.Nodup) (hi : X.N[i]? = some x) (hx : Loc X.env.scope x) (r : RelV v u)
    (h : ∀ s', Inv X pins (σ.set i (some v)) H s' → Q () s') (hf : X.fn x = true ∨ X.env.scope.names.lookup x = some .local := by first | exact .inl rfl | exact .inr rfl | assumption) : wpAny M A (storeName X.env x u) Q E s :=
  store_ok2 I hN hi hx r (fun s' I' _ => h s' I') hf
theorem Inv.call' {s' : Shared} {ch : List Addr} (I : Inv X pins σ H s) (ho : s'.os = s.os) (u : Un (frs X.stack) ch H H' s.heap s'.heap) (hok : HOk X.prog X.w H' s'.heap) (hg : AllBare s'.gens)
    (hch : ∀ b ∈ ch, (b ∈ X.ex ∨ X.s₀.heap.objs.size ≤ b) ∧ b ≠ X.env.locals ∧ (∀ x c, X.env.cells.lookup x = some c → c ≠ b) ∧ ∀ p ∈ X.pn ++ pins, p.1 ≠ b) : Inv X pins σ H' s' := by
  obtain ⟨h', g', d', t', o'⟩ := s'
  have e : o' = s.os := ho
  subst e
  exact I.call (g' := g') (t' := t') (d' := d') u hok hg hch
end
abbrev XK := Value → Option Addr → Hp → Prop
abbrev St := List (Option V)
abbrev VK := V → Hp → Prop
abbrev TE := St → Hp → VK → Prop
abbrev TT := St → Hp → (Bool → Hp → Prop) → Prop
abbrev TA := St → Hp → (List V → Hp → Prop) → Prop
structure Ends where
  nx : St → Hp → Prop
  rt : VK
  bk : St → Hp → Prop := fun _ _ => False
  ct : St → Hp → Prop := fun _ _ => False
abbrev TS := Ends → St → Hp → Prop
def EP (X : Cx) (pins : List (Addr × Obj)) (σ : St) (Q : VK) (u : Value) (s' : Shared) : Prop := ∃ v H', Inv X pins σ H' s' ∧ RelV v u ∧ Q v H'
def TP (X : Cx) (pins : List (Addr × Obj)) (σ : St) (Q : Bool → Hp → Prop) (b : Bool) (s' : Shared) : Prop := ∃ H', Inv X pins σ H' s' ∧ Q b H'
def AP (X : Cx) (pins : List (Addr × Obj)) (σ : St) (Q : List V → Hp → Prop) (us : List Value) (s' : Shared) : Prop := ∃ vs H', Inv X pins σ H' s' ∧ Vals vs us ∧ Q vs H'
def SP (X : Cx) (pins : List (Addr × Obj)) (D : Ends) (f : Flow) (s' : Shared) : Prop :=
  match f with
  | .next => ∃ σ' H', Inv X pins σ' H' s' ∧ D.nx σ' H'
  | .brk => ∃ σ' H', Inv X pins σ' H' s' ∧ D.bk σ' H'
  | .cont => ∃ σ' H', Inv X pins σ' H' s' ∧ D.ct σ' H'
  | .ret u => ∃ v σ' H', Inv X pins σ' H' s' ∧ RelV v u ∧ D.rt v H'
def PE (X : Cx) (e : Expr) (t : TE) : Prop :=
  ∀ (pins : List (Addr × Obj)) (s : Shared) (σ : St) (H : Hp) (Q : VK), Inv X pins σ H s → t σ H Q → wpAny (model X.prog X.w) X.A (eval e X.env) (EP X pins σ Q) X.xe s
def PT (X : Cx) (e : Expr) (t : TT) : Prop :=
  ∀ (pins : List (Addr × Obj)) (s : Shared) (σ : St) (H : Hp) (Q : Bool → Hp → Prop), Inv X pins σ H s → t σ H Q → wpAny (model X.prog X.w) X.A (isTrue e X.env (eval e X.env)) (TP X pins σ Q) X.xe s
def PW (X : Cx) (e : Expr) (t : TT) : Prop :=
  ∀ (whole : Sem Value) (pins : List (Addr × Obj)) (s : Shared) (σ : St) (H : Hp) (Q : Bool → Hp → Prop), Inv X pins σ H s → t σ H Q → wpAny (model X.prog X.w) X.A (isTrue e X.env whole) (TP X pins σ Q) X.xe s
theorem PW.pt {X : Cx} {e : Expr} {t : TT} (h : PW X e t) : PT X e t := h _
def PA (X : Cx) (es : List Expr) (t : TA) : Prop :=
  ∀ (pos : Pos) (pins : List (Addr × Obj)) (s : Shared) (σ : St) (H : Hp) (Q : List V → Hp → Prop), Inv X pins σ H s → t σ H Q → wpAny (model X.prog X.w) X.A (spliced (backTo pos (starEach es X.env))) (AP X pins σ Q) X.xe s
def PS (X : Cx) (st : Stmt) (t : TS) : Prop :=
  ∀ (pins : List (Addr × Obj)) (s : Shared) (σ : St) (H : Hp) (D : Ends), Inv X pins σ H s → t D σ H → wpAny (model X.prog X.w) X.A (exec st X.env) (SP X pins D) X.xe s
def PSs (X : Cx) (st : List Stmt) (t : TS) : Prop :=
  ∀ (pins : List (Addr × Obj)) (s : Shared) (σ : St) (H : Hp) (D : Ends), Inv X pins σ H s → t D σ H → wpAny (model X.prog X.w) X.A (execs st X.env) (SP X pins D) X.xe s
theorem thn {α : Type} {t : Sem α} {Q Q' : α → Shared → Prop} {M : Model} {A : Around} {E : Value → Shared → Prop} {s : Shared} (h : wpAny M A t Q E s) (hQ : ∀ a s, Q a s → Q' a s) : wpAny M A t Q' E s := wpAny_mono h hQ fun _ _ x => x
end L2
namespace L2
open PySem PySem.Spec PyProof.Rows
section
variable {X : Cx}
def tVar (i : Nat) : TE := fun σ H Q => ∃ v, σ[i]? = some (some v) ∧ Q v H
def tC (v : V) : TE := fun _ H Q => Q v H
theorem pe_var {i : Nat} {x : Str} {pos : Pos} (hN : X.N[i]? = some x) (hv : Vis X.env.scope x) (hd : (x == ("__debug__" : Str)) = false := by decide) (hcd : (x == ("__classdict__" : Str)) = false := by decide) : PE X (.Name x pos) (tVar i) := by
  intro pins s σ H Q I h
  obtain ⟨v, e, h⟩ := h
  obtain ⟨m, hn, hl⟩ := I.loc
  obtain ⟨u, r, l⟩ := hl i x v hN e hv
  have fin : EP X pins σ Q u s := ⟨v, H, I, r, h⟩
  rcases l with ⟨hk, hm⟩ | ⟨hk, c, hc, hcell⟩
  · exact wpAny_Name (wpAny_loadName_local I.ok.kind hk hn hm fin) hd
  · rcases hk with hk | hk
    · exact wpAny_Name (wpAny_loadName_cell I.ok.kind hk hc hcell fin) hd
    · exact wpAny_Name (wpAny_loadName_free I.ok.kind hk hc hcell fin hcd) hd
theorem pe_int {i j pos} : PE X (.Constant (.int i) j pos) (tC (.int i)) := fun _ _ _ H _ I h => wpAny_Constant_int ⟨.int i, H, I.tok _, ⟨_, rfl⟩, h⟩
theorem pe_bl {b j pos} : PE X (.Constant (.bool b) j pos) (tC (.bl b)) := fun _ _ _ H _ I h => Constant_bool ⟨.bl b, H, I, rfl, h⟩
theorem pe_str {x j pos} : PE X (.Constant (.str x) j pos) (tC (.str x)) := fun _ _ _ H _ I h => Calls.Constant_str ⟨.str x, H, I.tok _, ⟨_, rfl⟩, h⟩
def Gl (X : Cx) (x : Str) : Prop := X.env.kindOf x = some .globalImplicit
theorem ld_glob {E : Value → Shared → Prop} {pins : List (Addr × Obj)} {s : Shared} {σ : St} {H : Hp} {x : Str} {u : Value} {pos : Pos} {Q : Value → Shared → Prop} (I : Inv X pins σ H s) (hg : Gl X x) (hm : X.mg x = some u) (h : Q u s)
    (hd : (x == ("__debug__" : Str)) = false := by decide) : wpAny (model X.prog X.w) X.A (eval (.Name x pos) X.env) Q E s :=
  Calls.Name_function_global I.ok.kind hg (Calls.loadGlobal_global (by rw [I.ok.glob]; exact I.mod.glob.keeps I.bk) hm h) hd
theorem ld_blt {E : Value → Shared → Prop} {pins : List (Addr × Obj)} {s : Shared} {σ : St} {H : Hp} {x : Str} {u : Value} {pos : Pos} {Q : Value → Shared → Prop} (I : Inv X pins σ H s) (hg : Gl X x) (hm : X.mg x = none) (hv : bootBuiltins x = some u) (h : Q u s)
    (hn : x ≠ "__name__" := by decide) (hd : (x == ("__debug__" : Str)) = false := by decide) : wpAny (model X.prog X.w) X.A (eval (.Name x pos) X.env) Q E s := by
  obtain ⟨mb, h1, h2⟩ := I.mod.blt
  exact Calls.Name_function_global I.ok.kind hg (Calls.loadGlobal_builtin (by rw [I.ok.glob]; exact I.mod.glob.keeps I.bk) hm (by rw [I.ok.blt]; exact h1.keeps I.bk) ((h2 x hn).trans hv) h) hd
theorem pe_bltn {x : Str} {v : V} {u : Value} {pos : Pos} (hg : Gl X x) (hm : X.mg x = none) (hv : bootBuiltins x = some u) (r : RelV v u) (hn : x ≠ "__name__" := by decide) (hd : (x == ("__debug__" : Str)) = false := by decide) : PE X (.Name x pos) (tC v) :=
  fun _ _ _ H _ I h => ld_blt I hg hm hv ⟨v, H, I, r, h⟩ hn hd
variable {a b : Expr} {ta tb : TE} {pos : Pos}
def PC (X : Cx) (op : CmpOp) (a b : Expr) (t : TE) : Prop :=
  ∀ (pins : List (Addr × Obj)) (s : Shared) (σ : St) (H : Hp) (Q : VK), Inv X pins σ H s → t σ H Q →
    wpAny (model X.prog X.w) X.A (eval a X.env) (fun v s₁ => wpAny (model X.prog X.w) X.A (eval b X.env) (fun u s₂ => wpAny (model X.prog X.w) X.A (compareOp op v u) (EP X pins σ Q) X.xe s₂) X.xe s₁) X.xe s
theorem nobehind (b : Expr) {op : CmpOp} (h : op ≠ .In) (h2 : op ≠ .NotIn) : behindInMarks op b = false := by
  have e1 : (op == CmpOp.In) = false := by cases op <;> first | rfl | exact absurd rfl h
  have e2 : (op == CmpOp.NotIn) = false := by cases op <;> first | rfl | exact absurd rfl h2
  cases b <;> simp [behindInMarks, e1, e2]
def tB (t : TE) : TT := fun σ H Q => t σ H fun x H1 => ∃ c, x = .bl c ∧ Q c H1
theorem pe_cmp {op : CmpOp} {t : TE} (h : PC X op a b t) (h1 : behindInMarks op b = false := by first | exact nobehind _ (by decide) (by decide) | rfl) : PE X (.Compare a [op] [b] pos) t := fun pins s σ H Q I hw => wpAny_Compare1 (h pins s σ H Q I hw) h1
theorem pt_cmp {op : CmpOp} {t : TE} (h : PC X op a b t) (h1 : behindInMarks op b = false := by first | exact nobehind _ (by decide) (by decide) | rfl) : PT X (.Compare a [op] [b] pos) (tB t) := by
  intro pins s σ H Q I hw
  refine wpAny_isTrue_Compare1 (thn (h pins s σ H _ I hw) fun v s1 h1 => thn h1 fun u s2 h2 => thn h2 fun c s3 ⟨x, H1, I1, r1, q1⟩ => ?_) h1
  obtain ⟨d, rfl, q⟩ := q1
  cases r1
  exact wpAny_truthy_bool ⟨H1, I1, q⟩
theorem pt_val {e : Expr} {t : TE} (h : PE X e t) (he : ∀ whole, isTrue e X.env whole = (do let v ← whole; standAt e.pos; holding [v] (truthy v)) := by intro _; rfl) : PT X e (tB t) := by
  intro pins s σ H Q I hw
  refine isTrue_plain (thn (h pins s σ H _ I hw) fun v s1 ⟨x, H1, I1, r1, q1⟩ => ?_) (he _)
  obtain ⟨d, rfl, q⟩ := q1
  cases r1
  exact wpAny_truthy_bool ⟨H1, I1, q⟩
variable {tA tB' : TT} {rest : List Expr}
def tAnd (t u : TT) : TT := fun σ H Q => t σ H fun c H1 => if c = true then u σ H1 Q else Q false H1
def tOr (t u : TT) : TT := fun σ H Q => t σ H fun c H1 => if c = true then Q true H1 else u σ H1 Q
def tNot (t : TT) : TT := fun σ H Q => t σ H fun c H1 => Q (!c) H1
theorem pw_and1 (ha : PT X a tA) : PW X (.BoolOp .And [a] pos) tA := by
  intro wh pins s σ H Q I h
  refine isTrue_and (thn (ha pins s σ H Q I h) fun c s1 e => ?_)
  cases c with
  | true => exact isTrue_and_nil e
  | false => exact e
theorem pw_or1 (ha : PT X a tA) : PW X (.BoolOp .Or [a] pos) tA := by
  intro wh pins s σ H Q I h
  refine isTrue_or (thn (ha pins s σ H Q I h) fun c s1 e => ?_)
  cases c with
  | false => exact isTrue_or_nil e
  | true => exact e
theorem pw_and (ha : PT X a tA) (hb : PW X (.BoolOp .And (b :: rest) pos) tB') : PW X (.BoolOp .And (a :: b :: rest) pos) (tAnd tA tB') := by
  intro wh pins s σ H Q I h
  refine isTrue_and (thn (ha pins s σ H _ I h) fun c s1 ⟨H1, I1, q1⟩ => ?_)
  cases c with
  | true => exact hb wh pins s1 σ H1 Q I1 q1
  | false => exact ⟨H1, I1, q1⟩
theorem pw_or (ha : PT X a tA) (hb : PW X (.BoolOp .Or (b :: rest) pos) tB') : PW X (.BoolOp .Or (a :: b :: rest) pos) (tOr tA tB') := by
  intro wh pins s σ H Q I h
  refine isTrue_or (thn (ha pins s σ H _ I h) fun c s1 ⟨H1, I1, q1⟩ => ?_)
  cases c with
  | true => exact ⟨H1, I1, q1⟩
  | false => exact hb wh pins s1 σ H1 Q I1 q1
theorem pt_not (ha : PT X a tA) : PT X (.UnaryOp .Not a pos) (tNot tA) := by
  intro pins s σ H Q I h
  exact isTrue_not (ha pins s σ H (fun c H1 => Q (!c) H1) I h)
def tAndV (ta tb : TE) : TE := fun σ H Q => ta σ H fun x H1 => ∃ c, x = .bl c ∧ if c = true then tb σ H1 Q else Q (.bl false) H1
def tOrV (ta tb : TE) : TE := fun σ H Q => ta σ H fun x H1 => ∃ c, x = .bl c ∧ if c = true then Q (.bl true) H1 else tb σ H1 Q
def tNotV (ta : TE) : TE := fun σ H Q => ta σ H fun x H1 => ∃ c, x = .bl c ∧ Q (.bl (!c)) H1
theorem pe_one {op} {t : TE} (h : PE X a t) : PE X (.BoolOp op [a] pos) t := fun pins s σ H Q I hw => BoolOp_one (h pins s σ H Q I hw)
theorem pe_and (ha : PE X a ta) (hb : PE X (.BoolOp .And (b :: rest) pos) tb) : PE X (.BoolOp .And (a :: b :: rest) pos) (tAndV ta tb) := by
  intro pins s σ H Q I h
  refine BoolOp_and (thn (ha pins s σ H _ I h) fun v s1 ⟨x, H1, I1, r1, q1⟩ => ?_)
  obtain ⟨c, rfl, q1⟩ := q1
  cases r1
  refine wpAny_truthy_bool ?_
  cases c with
  | true => exact hb pins s1 σ H1 Q I1 q1
  | false => exact ⟨.bl false, H1, I1, rfl, q1⟩
theorem pe_not (ha : PE X a ta) : PE X (.UnaryOp .Not a pos) (tNotV ta) := by
  intro pins s σ H Q I h
  refine UnaryOp_ (thn (ha pins s σ H _ I h) fun v s1 ⟨x, H1, I1, r1, q1⟩ => ?_)
  obtain ⟨c, rfl, q1⟩ := q1
  cases r1
  exact not_of (wpAny_truthy_bool ⟨.bl (!c), H1, I1, rfl, q1⟩)
def tIf (t : TT) (ta tb : TE) : TE := fun σ H Q => t σ H fun c H1 => if c = true then ta σ H1 Q else tb σ H1 Q
end
end L2
namespace L2
open PySem PySem.Spec PyProof.Rows
def SqL (K : PySem.W.Frag) (H : Hp) (a : Addr) (xs : List V) : Prop :=
  Rd H a (.lst xs) ∨
    ∃ (o : Obj) (its : Array Value) (n : Nat), K.lookup a = some o ∧ o.cls = .type "list" ∧ o.dict = none ∧ o.data = .seq its n ∧ its.size ≤ sizeLine ∧ Vals xs its.toList
def SqT (K : PySem.W.Frag) (H : Hp) (a : Addr) (xs : List V) : Prop :=
  Rd H a (.tup xs) ∨
    ∃ (o : Obj) (its : Array Value) (n : Nat), K.lookup a = some o ∧ o.cls = .type "tuple" ∧ o.data = .seq its n ∧ its.size ≤ sizeLine ∧ Vals xs its.toList
def absV : Value → Option V
  | .none => some .non
  | .bool b => some (.bl b)
  | .int i _ => some (.int i)
  | .str x _ => some (.str x)
  | .bytes b _ => some (.byt b)
  | .float b _ => some (.flt b)
  | .ref a => some (.ref a)
  | .type n => some (.ty n)
  | _ => none
theorem RelV.abs {x : V} {u : Value} (r : RelV x u) : absV u = some x := by
  cases x with
  | non => cases r; rfl
  | bl _ => cases r; rfl
  | int _ => obtain ⟨t, rfl⟩ := r; rfl
  | str _ => obtain ⟨t, rfl⟩ := r; rfl
  | byt _ => obtain ⟨t, rfl⟩ := r; rfl
  | flt _ => obtain ⟨t, rfl⟩ := r; rfl
  | ref _ => cases r; rfl
  | ty _ => cases r; rfl
theorem RelV.inj {x y : V} {u : Value} (r : RelV x u) (q : RelV y u) : x = y := Option.some.inj (r.abs.symm.trans q.abs)
theorem Vals.inj : ∀ {xs ys : List V} {us : List Value}, Vals xs us → Vals ys us → xs = ys
  | _, _, _, .nil, .nil => rfl
  | _, _, _, .cons r t, .cons r' t' => by rw [r.inj r', Vals.inj t t']
section
variable {X : Cx} {pins : List (Addr × Obj)} {σ : St} {H : Hp} {s : Shared} {a : Addr} {xs ys : List V}
theorem SqL.of {K : PySem.W.Frag} (h : H a = some (.lst xs)) : SqL K H a xs := .inl (.inl h)
theorem SqT.of {K : PySem.W.Frag} (h : H a = some (.tup xs)) : SqT K H a xs := .inl (.inl h)
theorem Inv.list (I : Inv X pins σ H s) (h : SqL X.K H a xs) : ∃ its : List Value, Vals xs its ∧ PlainL s.heap a its.toArray ∧ xs.length ≤ sizeLine := by
  rcases h with h | ⟨o, its, n, hk, hc, hd, hs, hz, r⟩
  · obtain ⟨z, its, n, r, e⟩ := h.ok I.hok
    exact ⟨its, r, ⟨_, n, e, rfl, rfl, rfl⟩, z⟩
  · refine ⟨its.toList, r, ⟨o, n, I.kIn a o hk, hc, hd, by simpa using hs⟩, ?_⟩
    have e := r.length
    simp only [Array.length_toList] at e
    omega
theorem Inv.tuple (I : Inv X pins σ H s) (h : SqT X.K H a xs) : ∃ its : List Value, Vals xs its ∧ IsTup s.heap a its.toArray ∧ xs.length ≤ sizeLine := by
  rcases h with h | ⟨o, its, n, hk, hc, hs, hz, r⟩
  · obtain ⟨z, its, r, p⟩ := h.ok I.hok
    exact ⟨its, r, p, z⟩
  · refine ⟨its.toList, r, ⟨o, I.kIn a o hk, hc, n, by simpa using hs⟩, ?_⟩
    have e := r.length
    simp only [Array.length_toList] at e
    omega
theorem Inv.list_inj (I : Inv X pins σ H s) (h : SqL X.K H a xs) (h' : SqL X.K H a ys) : xs = ys := by
  obtain ⟨its, r, ⟨o, n, e, _, _, d⟩, _⟩ := I.list h
  obtain ⟨its', r', ⟨o', n', e', _, _, d'⟩, _⟩ := I.list h'
  rw [e] at e'; cases e'
  rw [d] at d'
  injection d' with d1 _
  have : its = its' := by simpa using congrArg Array.toList d1
  subst this
  exact r.inj r'
theorem Inv.tuple_inj (I : Inv X pins σ H s) (h : SqT X.K H a xs) (h' : SqT X.K H a ys) : xs = ys := by
  obtain ⟨its, r, ⟨o, e, _, n, d⟩, _⟩ := I.tuple h
  obtain ⟨its', r', ⟨o', e', _, n', d'⟩, _⟩ := I.tuple h'
  rw [e] at e'; cases e'
  rw [d] at d'
  injection d' with d1 _
  have : its = its' := by simpa using congrArg Array.toList d1
  subst this
  exact r.inj r'
end
abbrev Cx.wish (X : Cx) (E : Value → Shared → Prop) : Cx := { X with xe := E }
abbrev Cx.nox (X : Cx) : Cx := X.wish fun _ _ => False
theorem Cx.Ok.wish {X : Cx} (ok : X.Ok) (E : Value → Shared → Prop) : (X.wish E).Ok :=
  ⟨ok.mod, ok.kind, ok.glob, ok.blt, ok.above, ok.inj, ok.has, ok.cab, ok.hd, ok.frames, ok.stk, ok.exf, ok.bs, ok.bsz, ok.noex, ok.exfs, ok.funs, ok.frf⟩
theorem Cx.Ok.unwish {X : Cx} {E : Value → Shared → Prop} (ok : (X.wish E).Ok) : X.Ok :=
  ⟨ok.mod, ok.kind, ok.glob, ok.blt, ok.above, ok.inj, ok.has, ok.cab, ok.hd, ok.frames, ok.stk, ok.exf, ok.bs, ok.bsz, ok.noex, ok.exfs, ok.funs, ok.frf⟩
section
variable {X : Cx} {pins : List (Addr × Obj)} {σ : St} {H : Hp} {s : Shared} {E : Value → Shared → Prop}
theorem Inv.wish (I : Inv X pins σ H s) (E : Value → Shared → Prop) : Inv (X.wish E) pins σ H s := ⟨I.ok.wish E, I.os, I.bare, I.base, I.loc, I.cell, I.free, I.freeC, I.pin, I.hok, I.len⟩
theorem Inv.unwish (I : Inv (X.wish E) pins σ H s) : Inv X pins σ H s := ⟨I.ok.unwish, I.os, I.bare, I.base, I.loc, I.cell, I.free, I.freeC, I.pin, I.hok, I.len⟩
theorem SP.unwish {D : Ends} {f : Flow} {s' : Shared} (h : SP (X.wish E) pins D f s') : SP X pins D f s' := by
  cases f with
  | next => obtain ⟨σ', H', I, q⟩ := h; exact ⟨σ', H', I.unwish, q⟩
  | brk => obtain ⟨σ', H', I, q⟩ := h; exact ⟨σ', H', I.unwish, q⟩
  | cont => obtain ⟨σ', H', I, q⟩ := h; exact ⟨σ', H', I.unwish, q⟩
  | ret u => obtain ⟨v, σ', H', I, r, q⟩ := h; exact ⟨v, σ', H', I.unwish, r, q⟩
theorem PE.nox {e : Expr} {t : TE} (h : PE X.nox e t) : PE X e t := fun pins s σ H Q I hw =>
  wpAny_mono (h pins s σ H Q (I.wish _) hw) (fun _ _ ⟨v, H', I', r, q⟩ => ⟨v, H', I'.unwish, r, q⟩) fun _ _ z => False.elim z
theorem PT.nox {e : Expr} {t : TT} (h : PT X.nox e t) : PT X e t := fun pins s σ H Q I hw =>
  wpAny_mono (h pins s σ H Q (I.wish _) hw) (fun _ _ ⟨H', I', q⟩ => ⟨H', I'.unwish, q⟩) fun _ _ z => False.elim z
theorem PSs.nox {st : List Stmt} {t : TS} (h : PSs X.nox st t) : PSs X st t := fun pins s σ H D I hw =>
  wpAny_mono (h pins s σ H D (I.wish _) hw) (fun _ _ q => q.unwish) fun _ _ z => False.elim z
end
section
variable {X : Cx} {st : Stmt} {rest : List Stmt} {t u : TS} {e : Expr} {te : TE} {pos : Pos}
def tNext : TS := fun D σ H => D.nx σ H
def tSeq (t u : TS) : TS := fun D σ H => t { D with nx := u D } σ H
theorem pss_nil : PSs X [] tNext := fun _ _ σ H _ I h => wpAny_execs_nil ⟨σ, H, I, h⟩
theorem pss_cons (h1 : PS X st t) (h2 : PSs X rest u) : PSs X (st :: rest) (tSeq t u) := by
  intro pins s σ H D I h
  refine wpAny_execs_cons (thn (h1 pins s σ H { D with nx := u D } I h) fun f s1 q => ?_)
  cases f with
  | next =>
    obtain ⟨σ', H', I', q⟩ := q
    exact h2 pins s1 σ' H' D I' q
  | ret v => exact q
  | brk => exact q
  | cont => exact q
theorem pss_one (h1 : PS X st t) : PSs X [st] t := by
  intro pins s σ H D I h
  refine wpAny_execs_cons (thn (h1 pins s σ H D I h) fun f s1 q => ?_)
  cases f with
  | next => exact wpAny_execs_nil q
  | ret v => exact q
  | brk => exact q
  | cont => exact q
theorem Inv.quiet {pins : List (Addr × Obj)} {σ : St} {H : Hp} {s : Shared} (I : Inv X pins σ H s) : interactive X.env = false := by simp [interactive, I.ok.kind]
def tDrop (te : TE) : TS := fun D σ H => te σ H fun _ H1 => D.nx σ H1
theorem ps_expr (he : PE X e te) (hs : swapsWith e none pos.line X.env = pure false := by rfl) : PS X (.Expr e pos) (tDrop te) := by
  intro pins s σ H D I h
  exact wpAny_Expr_any (thn (he pins s σ H _ I h) fun v s1 ⟨x, H1, I1, r1, q1⟩ => ⟨σ, H1, I1, q1⟩) I.quiet hs
def tRet (te : TE) : TS := fun D σ H => te σ H D.rt
theorem ps_ret (he : PE X e te) : PS X (.Return (some e) pos) (tRet te) := by
  intro pins s σ H D I h
  exact wpAny_Return_some (thn (he pins s σ H _ I h) fun v s1 ⟨x, H1, I1, r1, q1⟩ => ⟨x, σ, H1, I1, r1, q1⟩)
def tRetN : TS := fun D _ H => D.rt .non H
theorem ps_retN : PS X (.Return none pos) tRetN := fun _ _ σ H _ I h => wpAny_Return_none ⟨.non, σ, H, I, rfl, h⟩
def tIfS (c : TT) (t u : TS) : TS := fun D σ H => c σ H fun b H1 => if b = true then t D σ H1 else u D σ H1
theorem ps_if {c : Expr} {a b : List Stmt} {tc : TT} (hc : PT X c tc) (ha : PSs X a t) (hb : PSs X b u) : PS X (.If c a b pos) (tIfS tc t u) := by
  intro pins s σ H D I h
  refine wpAny_If (thn (hc pins s σ H _ I h) fun d s1 ⟨H1, I1, q1⟩ => ?_)
  cases d with
  | true => exact ha pins s1 σ H1 D I1 q1
  | false => exact hb pins s1 σ H1 D I1 q1
end
abbrev TG := V → St → Hp → (St → Hp → Prop) → Prop
abbrev TGs := List V → St → Hp → (St → Hp → Prop) → Prop
def PG (X : Cx) (target : Expr) (t : TG) : Prop :=
  ∀ (pins : List (Addr × Obj)) (s : Shared) (σ : St) (H : Hp) (v : V) (u : Value) (Q : St → Hp → Prop), Inv X pins σ H s → RelV v u → t v σ H Q →
    wpAny (model X.prog X.w) X.A (assign target X.env u) (fun _ s' => ∃ σ' H', Inv X pins σ' H' s' ∧ Q σ' H') X.xe s
def PGs (X : Cx) (ts : List Expr) (t : TGs) : Prop :=
  ∀ (pins : List (Addr × Obj)) (s : Shared) (σ : St) (H : Hp) (vs : List V) (us : List Value) (Q : St → Hp → Prop), Inv X pins σ H s → Vals vs us → t vs σ H Q →
    wpAny (model X.prog X.w) X.A (assignInOrder ((assignEach ts X.env).map (·.2)) us) (fun _ s' => ∃ σ' H', Inv X pins σ' H' s' ∧ Q σ' H') X.xe s
abbrev TSet := V → V → V → Hp → (Hp → Prop) → Prop
def PSet (X : Cx) (t : TSet) : Prop :=
  ∀ (pins : List (Addr × Obj)) (s : Shared) (σ : St) (H : Hp) (o i v : V) (ov iv u : Value) (Q : Hp → Prop), Inv X pins σ H s → RelV o ov → RelV i iv → RelV v u → t o i v H Q →
    wpAny (model X.prog X.w) X.A (setItem ov iv u) (fun _ s' => ∃ H', Inv X pins σ H' s' ∧ Q H') X.xe s
abbrev TIp := V → V → Hp → VK → Prop
def PIp (X : Cx) (op : Operator) (t : TIp) : Prop :=
  ∀ (pins : List (Addr × Obj)) (s : Shared) (σ : St) (H : Hp) (x y : V) (v u : Value) (Q : VK), Inv X pins σ H s → RelV x v → RelV y u → t x y H Q →
    wpAny (model X.prog X.w) X.A (inplaceOp op v u) (EP X pins σ Q) X.xe s
section
variable {X : Cx} {pos : Pos}
def gName (i : Nat) : TG := fun v σ H Q => Q (σ.set i (some v)) H
theorem pg_name {i : Nat} {x : Str} (hN : X.N.Nodup) (hi : X.N[i]? = some x) (hx : Loc X.env.scope x) (hf : X.fn x = true ∨ X.env.scope.names.lookup x = some .local := by first | exact .inl rfl | exact .inr rfl | assumption) : PG X (.Name x pos) (gName i) := by
  intro pins s σ H v u Q I r h
  exact wpAny_assign_Name (store_ok I hN hi hx r (fun s' I' => ⟨_, H, I', h⟩) hf)
def gNil : TGs := fun vs σ H Q => vs = [] ∧ Q σ H
def gCons (t : TG) (u : TGs) : TGs := fun vs σ H Q => ∃ v r, vs = v :: r ∧ t v σ H fun σ' H' => u r σ' H' Q
theorem pgs_nil : PGs X [] gNil := by
  intro pins s σ H vs us Q I r h
  obtain ⟨e, h⟩ := h
  subst e
  cases r
  exact assignInOrder_nil ⟨σ, H, I, h⟩
theorem pgs_cons {e : Expr} {es : List Expr} {t : TG} {u : TGs} (h1 : PG X e t) (h2 : PGs X es u)
    (hs : (assignEach (e :: es) X.env).map (·.2) = assign e X.env :: (assignEach es X.env).map (·.2) := by rfl) : PGs X (e :: es) (gCons t u) := by
  intro pins s σ H vs us Q I r h
  obtain ⟨v, vr, e1, h⟩ := h
  subst e1
  cases r with
  | cons r rr =>
    rw [hs]
    refine assignInOrder_cons (thn (h1 pins s σ H _ _ _ I r h) fun _ s1 ⟨σ1, H1, I1, q1⟩ => ?_)
    exact h2 pins s1 σ1 H1 _ _ Q I1 rr q1
def gTup (K : PySem.W.Frag) (n : Nat) (t : TGs) : TG := fun v σ H Q => ∃ a xs, v = .ref a ∧ SqT K H a xs ∧ xs.length = n ∧ t xs σ H Q
theorem pg_tup {es : List Expr} {k : Nat} {t : TGs} {n : Nat} (hc : X.calm = true) (h : PGs X es t)
    (hn : (assignEach es X.env).length = n := by rfl) (hst : (assignEach es X.env).findIdx? (·.1) = none := by rfl) : PG X (.Tuple es k pos) (gTup X.K n t) := by
  intro pins s σ H v u Q I r hw
  obtain ⟨a, xs, e1, hq, hl, hw⟩ := hw
  subst e1
  cases r
  obtain ⟨its, rv, ht, hz⟩ := I.tuple hq
  refine assign_Tuple_tuple (I.ok.hd hc) ht (by simp [hn, ← hl, rv.length]) hst fun h' hx => ?_
  have I1 : Inv X pins σ H { s with heap := h' } := I.kept (t' := s.toks) fun b o e => hx b o (Nat.ne_of_lt (Heap.lt_size e)) e
  exact h pins _ σ H xs _ Q I1 (by simpa using rv) hw
def tAsg (te : TE) (g : TG) : TS := fun D σ H => te σ H fun x H1 => g x σ H1 D.nx
theorem ps_set {i : Nat} {x : Str} {e : Expr} {te : TE} {pos' : Pos} (hN : X.N.Nodup) (hi : X.N[i]? = some x) (hx : Loc X.env.scope x) (he : PE X e te) (hs : swapsWith e (some (.Name x pos')) pos.line X.env = pure false := by rfl) (hf : X.fn x = true ∨ X.env.scope.names.lookup x = some .local := by first | exact .inl rfl | exact .inr rfl | assumption) :
    PS X (.Assign [.Name x pos'] e pos) (tAsg te (gName i)) := by
  intro pins s σ H D I h
  refine wpAny_Assign_Name (thn (he pins s σ H _ I h) fun v s1 ⟨y, H1, I1, r1, q1⟩ => ?_) hs
  exact store_ok I1 hN hi hx r1 (fun s2 I2 => ⟨_, H1, I2, q1⟩) hf
def tAug (i : Nat) (te : TE) (ti : TIp) : TS := fun D σ H => ∃ x, σ[i]? = some (some x) ∧ te σ H fun y H1 => ti x y H1 fun z H2 => D.nx (σ.set i (some z)) H2
theorem ps_aug {i : Nat} {x : Str} {e : Expr} {te : TE} {op : Operator} {ti : TIp} {pos' : Pos} (hN : X.N.Nodup) (hi : X.N[i]? = some x) (hx : Loc X.env.scope x) (he : PE X e te) (ho : PIp X op ti) (hf : X.fn x = true ∨ X.env.scope.names.lookup x = some .local := by first | exact .inl rfl | exact .inr rfl | assumption) :
    PS X (.AugAssign (.Name x pos') op e pos) (tAug i te ti) := by
  intro pins s σ H D I h
  obtain ⟨v, e1, h⟩ := h
  obtain ⟨m, hn, hl⟩ := I.loc
  have vis : Vis X.env.scope x := by rcases hx with k | k; exact .inl k; exact .inr (.inl k)
  obtain ⟨u, r, l⟩ := hl i x v hi e1 vis
  refine wpAny_AugAssign_Name ?_
  have go : wpAny (model X.prog X.w) X.A (eval e X.env) (fun w s₂ => wpAny (model X.prog X.w) X.A (inplaceOp op u w) (fun r s₃ => wpAny (model X.prog X.w) X.A (storeName X.env x r) (fun _ => SP X pins D .next) X.xe s₃) X.xe s₂) X.xe s := by
    refine thn (he pins s σ H _ I h) fun w s1 ⟨y, H1, I1, r1, q1⟩ => ?_
    refine thn (ho pins s1 σ H1 v y u w _ I1 r r1 q1) fun z s2 ⟨zv, H2, I2, r2, q2⟩ => ?_
    exact store_ok I2 hN hi hx r2 (fun s3 I3 => ⟨_, H2, I3, q2⟩) hf
  rcases l with ⟨hk, hm⟩ | ⟨hk, c, hc, hcell⟩
  · exact wpAny_loadName_local I.ok.kind hk hn hm go
  · rcases hk with hk | hk
    · exact wpAny_loadName_cell I.ok.kind hk hc hcell go
    · rcases hx with k | k
      · have : X.env.scope.names.lookup x = some .free := hk
        rw [k] at this; cases this
      · have : X.env.scope.names.lookup x = some .free := hk
        rw [k] at this; cases this
def tAugS (to ti te : TE) (tget : V → V → Hp → VK → Prop) (tip : TIp) (tset : TSet) : TS := fun D σ H => to σ H fun o H1 => ti σ H1 fun i H2 => tget o i H2 fun x H3 => te σ H3 fun y H4 => tip x y H4 fun z H5 => tset o i z H5 fun H6 => D.nx σ H6
def PGet (X : Cx) (t : V → V → Hp → VK → Prop) : Prop :=
  ∀ (pins : List (Addr × Obj)) (s : Shared) (σ : St) (H : Hp) (o i : V) (ov iv : Value) (Q : VK), Inv X pins σ H s → RelV o ov → RelV i iv → t o i H Q →
    wpAny (model X.prog X.w) X.A (getItem ov iv) (EP X pins σ Q) X.xe s
theorem ps_augS {o i e : Expr} {to ti te : TE} {tget : V → V → Hp → VK → Prop} {tip : TIp} {tset : TSet} {op : Operator} {tpos : Pos} (ho : PE X o to) (hi : PE X i ti) (hg : PGet X tget) (he : PE X e te) (hp : PIp X op tip) (hs : PSet X tset)
    (ha : ∀ ov iv new, augStore i ov iv new = (do holding [new, ov, iv] (setItem ov iv new); release [new, ov, iv] []; pure .next) := by intros; rfl) : PS X (.AugAssign (.Subscript o i tpos) op e pos) (tAugS to ti te tget tip tset) := by
  intro pins s σ H D I h
  refine wpAny_AugAssign_SubscriptAny (thn (ho pins s σ H _ I h) fun ov s1 ⟨x1, H1, I1, r1, q1⟩ => ?_) ha
  refine thn (hi pins s1 σ H1 _ I1 q1) fun iv s2 ⟨x2, H2, I2, r2, q2⟩ => ?_
  refine thn (hg pins s2 σ H2 x1 x2 ov iv _ I2 r1 r2 q2) fun old s3 ⟨x3, H3, I3, r3, q3⟩ => ?_
  refine thn (he pins s3 σ H3 _ I3 q3) fun v s4 ⟨x4, H4, I4, r4, q4⟩ => ?_
  refine thn (hp pins s4 σ H4 x3 x4 old v _ I4 r3 r4 q4) fun new s5 ⟨x5, H5, I5, r5, q5⟩ => ?_
  exact thn (hs pins s5 σ H5 x1 x2 x5 ov iv new _ I5 r1 r2 r5 q5) fun _ s6 ⟨H6, I6, q6⟩ => ⟨σ, H6, I6, q6⟩
def ipI (f : Int → Int → Int) : TIp := fun x y H Q => ∃ i j, x = .int i ∧ y = .int j ∧ Q (.int (f i j)) H
theorem ip_add : PIp X .Add (ipI fun i j => i + j) := by
  intro pins s σ H x y v u Q I r1 r2 h
  obtain ⟨i, j, e1, e2, q⟩ := h
  subst e1; subst e2
  obtain ⟨t, rfl⟩ := r1
  obtain ⟨t', rfl⟩ := r2
  exact iadd_int ⟨.int _, H, I.tok _, ⟨_, rfl⟩, q⟩
end
section
variable {X : Cx} {pos : Pos}
def tWhile (c : TT) (tb : TS) : TS := fun D σ H => ∃ W : Nat → St → Hp → Prop, (∃ m, W m σ H) ∧ ∀ m σ H, W m σ H →
  c σ H fun b H1 => if b = true then ∃ N : St → Hp → Prop, (∀ σ' H', N σ' H' → ∃ m', m' < m ∧ W m' σ' H') ∧ tb { D with nx := N, ct := N, bk := D.nx } σ H1 else D.nx σ H1
theorem ps_while {c : Expr} {body : List Stmt} {tc : TT} {tb : TS} (hp : PassesOwn (model X.prog X.w) X.A X.env X.xe) (hc : PT X c tc) (hb : PSs X body tb) : PS X (.While c body [] pos) (tWhile tc tb) := by
  intro pins s σ H D I h
  obtain ⟨W, ⟨m0, w0⟩, turn⟩ := h
  refine wpAny_While (codeAny_whileLoop (fun n s' => ∃ σ' H', Inv X pins σ' H' s' ∧ W n σ' H') ?_ m0 ⟨σ, H, I, w0⟩)
  rintro n s1 ⟨σ1, H1, I1, w1⟩
  refine wpAny_passesOwn hp (thn (hc pins s1 σ1 H1 _ I1 (turn n σ1 H1 w1)) fun b s2 ⟨H2, I2, q2⟩ => ?_)
  cases b with
  | true =>
    obtain ⟨N, hN, q2⟩ := q2
    rw [if_pos rfl]
    refine wpAny_passesOwn hp (thn (hb pins s2 σ1 H2 _ I2 q2) fun f s3 q3 => ?_)
    cases f with
    | next =>
      obtain ⟨σ3, H3, I3, n3⟩ := q3
      obtain ⟨m', hm, w3⟩ := hN σ3 H3 n3
      exact ⟨m', hm, σ3, H3, I3, w3⟩
    | cont =>
      obtain ⟨σ3, H3, I3, n3⟩ := q3
      obtain ⟨m', hm, w3⟩ := hN σ3 H3 n3
      exact ⟨m', hm, σ3, H3, I3, w3⟩
    | brk => exact q3
    | ret v => exact q3
  | false =>
    rw [if_neg Bool.false_ne_true]
    exact wpAny_execs_nil ⟨σ1, H2, I2, q2⟩
end
structure It where
  go : Nat → Hp → Prop
  yld : Nat → Hp → V → Hp → Prop
  stop : Nat → Hp → Prop
def FpOk (X : Cx) (pins : List (Addr × Obj)) (H : Hp) (b : Addr) : Prop :=
  H b = none ∧ b ≠ X.env.locals ∧ b ∉ X.fs ∧ (b ∈ X.ex ∨ X.s₀.heap.objs.size ≤ b) ∧ (∀ x c, X.env.cells.lookup x = some c → c ≠ b) ∧ ∀ p ∈ X.pn ++ pins, p.1 ≠ b
theorem Inv.fpOk {X : Cx} {pins : List (Addr × Obj)} {σ : St} {H H' : Hp} {s : Shared} {b : Addr} (I : Inv X pins σ H s) (hb : s.heap.objs.size ≤ b) (hn : H' b = none) : FpOk X pins H' b := by
  refine ⟨hn, Nat.ne_of_gt (Nat.lt_of_lt_of_le I.lt hb), I.nofs hb, .inr (Nat.le_trans I.sz hb), fun x c e z => ?_, fun p hp z => ?_⟩
  · obtain ⟨v, q⟩ := I.cell x c e
    exact absurd (Nat.lt_of_lt_of_le q.lt (by rw [z]; exact hb)) (Nat.lt_irrefl _)
  · exact absurd (Nat.lt_of_lt_of_le (Heap.lt_size (I.pin p hp).1) (by rw [z]; exact hb)) (Nat.lt_irrefl _)
structure Turn (P : Program) (w : World) (K : PySem.W.Frag) (tg : Expr) (J : It) (fp : List Addr) (it : Addr) (tn : Nat → Heap → Prop) : Prop where
  mem : it ∈ fp
  obj : ∀ i h, tn i h → ∀ b ∈ fp, ∃ o, h.get? b = some o ∧ ∀ v, o.data ≠ .cell v
  keep : ∀ i h h', tn i h → (∀ b ∈ fp, ∀ o, h.get? b = some o → h'.get? b = some o) → tn i h'
  item : ∀ (X : Cx), X.prog = P → X.w = w → X.K = K → X.calm = true → ∀ (i : Nat) (pins : List (Addr × Obj)) (s : Shared) (σ : St) (H : Hp) (E : Value → Shared → Prop), Inv X pins σ H s → (∀ b ∈ fp, FpOk X pins H b) → tn i s.heap → J.go i H →
    wpAny (model P w) X.A (pyNext (.ref it)) (fun r s1 => ∃ u, r = some u ∧
      wpAny (model P w) X.A (letOwnedTupleGo tg (.ref it) u) (fun _ s2 => ∃ x H', Inv X pins σ H' s2 ∧ RelV x u ∧ J.yld i H x H' ∧ tn (i + 1) s2.heap ∧ ∀ b ∈ fp, H' b = none) E s1) E s
  done : ∀ (X : Cx), X.prog = P → X.w = w → X.K = K → X.calm = true → ∀ (i : Nat) (pins : List (Addr × Obj)) (s : Shared) (σ : St) (H : Hp) (E : Value → Shared → Prop), Inv X pins σ H s → (∀ b ∈ fp, FpOk X pins H b) → tn i s.heap → J.stop i H →
    wpAny (model P w) X.A (pyNext (.ref it)) (fun r s1 => r = none ∧ Inv X pins σ H s1) E s
  self : ∀ (A : Around) (i : Nat) (s : Shared) (Q : Value → Shared → Prop) (E : Value → Shared → Prop), tn i s.heap → Q (.ref it) s → wpAny (model P w) A (pyIter (.ref it)) Q E s
abbrev TI := St → Hp → (It → Hp → Prop) → Prop
def PIE (X : Cx) (pins : List (Addr × Obj)) (σ : St) (tg : Expr) (R : It → Hp → Prop) (itv : Value) (s2 : Shared) : Prop :=
  ∃ (it : Addr) (fp : List Addr) (tn : Nat → Heap → Prop) (J : It) (H' : Hp), itv = .ref it ∧ Inv X pins σ H' s2 ∧ Turn X.prog X.w X.K tg J fp it tn ∧ tn 0 s2.heap ∧ (∀ b ∈ fp, FpOk X pins H' b) ∧ R J H'
def PI (X : Cx) (tg iter : Expr) (wi : TI) : Prop :=
  ∀ (pins : List (Addr × Obj)) (s : Shared) (σ : St) (H : Hp) (R : It → Hp → Prop), Inv X pins σ H s → wi σ H R →
    wpAny (model X.prog X.w) X.A (eval iter X.env) (fun v s1 => wpAny (model X.prog X.w) X.A (pyIter v) (PIE X pins σ tg R) X.xe s1) X.xe s
theorem go_of {M : Model} {A : Around} {E : Value → Shared → Prop} {s : Shared} {tg : Expr} {it : Addr} {u : Value} {o : Obj} {n : String} {vs : Array Value} {Q : Unit → Shared → Prop} (ho : s.heap.get? it = some o) (hc : o.cls = .type n) (hd : o.data = .fields vs)
    (hn : ["enumerate", "zip", "dict_itemiterator", "dict_reverseitemiterator", "odict_iterator", "itertools.zip_longest", "itertools.pairwise"].contains n = false) (hQ : Q () s) : wpAny M A (letOwnedTupleGo tg (.ref it) u) Q E s := by
  unfold letOwnedTupleGo
  cases tg <;> first
    | exact wpAny_pure hQ
    | (cases u <;> first
        | exact wpAny_pure hQ
        | (refine wpAny_bind (wpAny_load ho ?_)
           rw [hc, hd]
           show wpAny M A (if (["enumerate", "zip", "dict_itemiterator", "dict_reverseitemiterator", "odict_iterator", "itertools.zip_longest", "itertools.pairwise"].contains n && vs[0]? == some (rawInt _)) = true then _ else _) Q E s
           rw [if_neg (by intro h; rw [hn, Bool.false_and] at h; cases h)]
           exact wpAny_pure hQ))
def Itl (K : PySem.W.Frag) (a : Addr) : It :=
  ⟨fun i H => ∃ xs x, SqL K H a xs ∧ xs[i]? = some x, fun i H x H' => H' = H ∧ ∀ xs, SqL K H a xs → xs[i]? = some x, fun i H => ∃ xs, SqL K H a xs ∧ xs.length ≤ i⟩
def Itt (K : PySem.W.Frag) (a : Addr) : It :=
  ⟨fun i H => ∃ xs x, SqT K H a xs ∧ xs[i]? = some x, fun i H x H' => H' = H ∧ ∀ xs, SqT K H a xs → xs[i]? = some x, fun i H => ∃ xs, SqT K H a xs ∧ xs.length ≤ i⟩
def Itr (lo : Int) (n : Nat) : It := ⟨fun i _ => i < n, fun i H x H' => H' = H ∧ x = .int (lo + i), fun i _ => n ≤ i⟩
theorem turn_list {P : Program} {w : World} {K : PySem.W.Frag} {tg : Expr} (a it : Addr) : Turn P w K tg (Itl K a) [it] it (fun i h => h.IsListIter it a i) where
  mem := by simp
  obj := fun i h st b hb => by
    have e : b = it := by simpa using hb
    subst e
    obtain ⟨o, e, c, d⟩ := st
    exact ⟨o, e, fun v z => by rw [d] at z; cases z⟩
  keep := fun i h h' st k => st.at fun o e => k it (by simp) o e
  item := by
    intro X hP hw hK hc i pins s σ H E I hf st hg
    subst hP hw hK
    obtain ⟨xs, x, hq, hx⟩ := hg
    obtain ⟨its, rv, p, hz⟩ := I.list hq
    obtain ⟨u, hu, ru⟩ := rv.get hx
    obtain ⟨f0, f1, f2, f3, f4, f5⟩ := hf it (by simp)
    refine wpAny_pyNext_list_item st p.isList (x := u) (by simpa using hu) fun h' st' sb => ?_
    have I1 : Inv X pins σ H { s with heap := h' } := I.turned (t' := s.toks) (fun b o hb e => (sb.2 b hb).trans e) f0 f1 f3 f4 f5
    obtain ⟨o, e, c, d⟩ := id st'
    exact ⟨u, rfl, go_of (s := { s with heap := h' }) e c d (by decide) ⟨x, H, I1, ru, ⟨rfl, fun ys hy => by rw [I.list_inj hy hq]; exact hx⟩, st', fun b hb => (hf b hb).1⟩⟩
  done := by
    intro X hP hw hK hc i pins s σ H E I hf st hg
    subst hP hw hK
    obtain ⟨xs, hq, hx⟩ := hg
    obtain ⟨its, rv, p, hz⟩ := I.list hq
    obtain ⟨f0, f1, f2, f3, f4, f5⟩ := hf it (by simp)
    have hl := rv.length
    exact wpAny_pyNext_list_end (I.ok.hd hc) st p.isList (by simp; omega) fun h' eb => ⟨rfl, I.turned (t' := s.toks) (fun b o hb e => eb b o hb e) f0 f1 f3 f4 f5⟩
  self := fun _ _ _ _ _ st h => wpAny_pyIter_listiter st h
theorem turn_tuple {P : Program} {w : World} {K : PySem.W.Frag} {tg : Expr} (a it : Addr) : Turn P w K tg (Itt K a) [it] it (fun i h => h.IsTupleIter it a i) where
  mem := by simp
  obj := fun i h st b hb => by
    have e : b = it := by simpa using hb
    subst e
    obtain ⟨o, e, c, d⟩ := st
    exact ⟨o, e, fun v z => by rw [d] at z; cases z⟩
  keep := fun i h h' st k => st.at fun o e => k it (by simp) o e
  item := by
    intro X hP hw hK hc i pins s σ H E I hf st hg
    subst hP hw hK
    obtain ⟨xs, x, hq, hx⟩ := hg
    obtain ⟨its, rv, p, hz⟩ := I.tuple hq
    obtain ⟨u, hu, ru⟩ := rv.get hx
    obtain ⟨f0, f1, f2, f3, f4, f5⟩ := hf it (by simp)
    refine wpAny_pyNext_tuple_item st (show s.heap.IsTuple a its.toArray from p) (x := u) (by simpa using hu) fun h' st' sb => ?_
    have I1 : Inv X pins σ H { s with heap := h' } := I.turned (t' := s.toks) (fun b o hb e => (sb.2 b hb).trans e) f0 f1 f3 f4 f5
    obtain ⟨o, e, c, d⟩ := id st'
    exact ⟨u, rfl, go_of (s := { s with heap := h' }) e c d (by decide) ⟨x, H, I1, ru, ⟨rfl, fun ys hy => by rw [I.tuple_inj hy hq]; exact hx⟩, st', fun b hb => (hf b hb).1⟩⟩
  done := by
    intro X hP hw hK hc i pins s σ H E I hf st hg
    subst hP hw hK
    obtain ⟨xs, hq, hx⟩ := hg
    obtain ⟨its, rv, p, hz⟩ := I.tuple hq
    obtain ⟨f0, f1, f2, f3, f4, f5⟩ := hf it (by simp)
    have hl := rv.length
    exact wpAny_pyNext_tuple_end (I.ok.hd hc) st (show s.heap.IsTuple a its.toArray from p) (by simp; omega) fun h' eb => ⟨rfl, I.turned (t' := s.toks) (fun b o hb e => eb b o hb e) f0 f1 f3 f4 f5⟩
  self := fun _ _ _ _ _ st h => wpAny_pyIter_tupleiter st h
theorem turn_range {P : Program} {w : World} {K : PySem.W.Frag} {tg : Expr} (it : Addr) (lo : Int) (n : Nat) : Turn P w K tg (Itr lo n) [it] it (fun i h => IsRangeIter h it (lo + (i : Nat) * 1) ((n : Int) - (i : Nat)) 1) where
  mem := by simp
  obj := fun i h st b hb => by
    have e : b = it := by simpa using hb
    subst e
    exact ⟨_, st, fun v z => by
      have z' : Data.fields _ = Data.cell v := z
      cases z'⟩
  keep := fun i h h' st k => k it (by simp) _ st
  item := by
    intro X hP hw hK hc i pins s σ H E I hf st hg
    subst hP hw hK
    obtain ⟨f0, f1, f2, f3, f4, f5⟩ := hf it (by simp)
    have W := Walks.range (prog := X.prog) (w := X.w) (I.ok.hd hc) it lo 1 n
    refine W.item i s _ _ hg st fun v h' tk hv st' kk => ?_
    obtain ⟨t, rfl⟩ := hv
    have I1 : Inv X pins σ H { s with heap := h', toks := tk } := I.turned (fun b o hb e => kk b o (by simpa using hb) e) f0 f1 f3 f4 f5
    refine ⟨_, rfl, go_of (s := { s with heap := h', toks := tk }) (n := "range_iterator") st' rfl rfl (by decide) ⟨.int (lo + i), H, I1, ⟨t, ?_⟩, ⟨rfl, rfl⟩, st', fun b hb => (hf b hb).1⟩⟩
    rw [Int.mul_one]
  done := by
    intro X hP hw hK hc i pins s σ H E I hf st hg
    subst hP hw hK
    obtain ⟨f0, f1, f2, f3, f4, f5⟩ := hf it (by simp)
    exact wpAny_pyNext_range_end (I.ok.hd hc) st (by have : n ≤ i := hg; omega) fun h' eb => ⟨rfl, I.turned (t' := s.toks) (fun b o hb e => eb b o hb e) f0 f1 f3 f4 f5⟩
  self := fun _ _ _ _ _ st h => wpAny_pyIter_rangeiter st h
end L2
namespace L2
open PySem PySem.Spec PyProof.Rows
section
variable {X : Cx} {tg : Expr}
def iList (K : PySem.W.Frag) (tl : TE) : TI := fun σ H R => tl σ H fun x H1 => ∃ a, x = .ref a ∧ (∃ xs, SqL K H1 a xs) ∧ R (Itl K a) H1
def iTup (K : PySem.W.Frag) (tl : TE) : TI := fun σ H R => tl σ H fun x H1 => ∃ a, x = .ref a ∧ (∃ xs, SqT K H1 a xs) ∧ R (Itt K a) H1
theorem pi_list {l : Expr} {tl : TE} (hl : PE X l tl) : PI X tg l (iList X.K tl) := by
  intro pins s σ H R I h
  refine thn (hl pins s σ H _ I h) fun v s1 ⟨x, H1, I1, r1, q1⟩ => ?_
  obtain ⟨a, e, ⟨xs, hq⟩, q⟩ := q1
  subst e
  cases r1
  obtain ⟨its, rv, p, hz⟩ := I1.list hq
  refine wpAny_pyIter_list p.isList ?_
  refine ⟨s1.heap.objs.size, [s1.heap.objs.size], _, _, H1, rfl, I1.kept (t' := s1.toks) fun b o e => Heap.get?_push_of_some _ e, turn_list a _, ⟨_, Heap.get?_push_size _ rfl, rfl, rfl⟩, fun b hb => ?_, q⟩
  have e : b = s1.heap.objs.size := by simpa using hb
  subst e
  exact I1.fpOk (Nat.le_refl _) (I1.hok.fresh (Nat.le_refl _))
theorem pi_tup {l : Expr} {tl : TE} (hl : PE X l tl) : PI X tg l (iTup X.K tl) := by
  intro pins s σ H R I h
  refine thn (hl pins s σ H _ I h) fun v s1 ⟨x, H1, I1, r1, q1⟩ => ?_
  obtain ⟨a, e, ⟨xs, hq⟩, q⟩ := q1
  subst e
  cases r1
  obtain ⟨its, rv, p, hz⟩ := I1.tuple hq
  refine wpAny_pyIter_tuple (show s1.heap.IsTuple a its.toArray from p) ?_
  refine ⟨s1.heap.objs.size, [s1.heap.objs.size], _, _, H1, rfl, I1.kept (t' := s1.toks) fun b o e => Heap.get?_push_of_some _ e, turn_tuple a _, ⟨_, Heap.get?_push_size _ rfl, rfl, rfl⟩, fun b hb => ?_, q⟩
  have e : b = s1.heap.objs.size := by simpa using hb
  subst e
  exact I1.fpOk (Nat.le_refl _) (I1.hok.fresh (Nat.le_refl _))
theorem range_it {pins : List (Addr × Obj)} {σ : St} {H : Hp} {s : Shared} {R : It → Hp → Prop} {E : Value → Shared → Prop} {lo hi : Int} {t u v : Tok} {tk : Nat} (I : Inv X pins σ H s) (h1 : -(2 ^ 62) ≤ lo) (h2 : lo < 2 ^ 62) (h3 : -(2 ^ 62) ≤ hi) (h4 : hi < 2 ^ 62)
    (q : R (Itr lo (hi - lo).toNat) H) : wpAny (model X.prog X.w) X.A (pyIter (.ref s.heap.objs.size)) (PIE X pins σ tg R) E { s with heap := s.heap.push { cls := .type "range", data := .fields #[.int lo t, .int hi u, .int 1 v] }, toks := tk } := by
  refine wpAny_pyIter_range (IsRange.new ..) (small_one h1 h2 h3 h4) ?_
  have I1 : Inv X pins σ H { s with heap := s.heap.push { cls := .type "range", data := .fields #[.int lo t, .int hi u, .int 1 v] }, toks := tk } := I.kept fun b o e => Heap.get?_push_of_some _ e
  refine ⟨(s.heap.push { cls := .type "range", data := .fields #[.int lo t, .int hi u, .int 1 v] }).objs.size, [(s.heap.push { cls := .type "range", data := .fields #[.int lo t, .int hi u, .int 1 v] }).objs.size], _, _, H, rfl,
    I1.kept (t' := tk) fun b o e => Heap.get?_push_of_some _ e, turn_range _ lo (hi - lo).toNat, ?_, fun b hb => ?_, q⟩
  · have e1 : lo + ((0 : Nat) : Int) * 1 = lo := by simp
    have e2 : (((hi - lo).toNat : Nat) : Int) - ((0 : Nat) : Int) = Builtin.Range.rangeSize lo hi 1 := by rw [rangeSize_one]; split <;> omega
    show IsRangeIter _ _ (lo + ((0 : Nat) : Int) * 1) ((((hi - lo).toNat : Nat) : Int) - ((0 : Nat) : Int)) 1
    rw [e1, e2]
    exact Heap.get?_push_size _ rfl
  · have e : b = (s.heap.push { cls := .type "range", data := .fields #[.int lo t, .int hi u, .int 1 v] }).objs.size := by simpa using hb
    subst e
    exact I1.fpOk (Nat.le_refl _) (I1.hok.fresh (Nat.le_refl _))
def iRng1 (ta : TA) : TI := fun σ H R => ta σ H fun vs H1 => ∃ j : Int, vs = [.int j] ∧ -(2 ^ 62) ≤ j ∧ j < 2 ^ 62 ∧ R (Itr 0 j.toNat) H1
def iRng2 (ta : TA) : TI := fun σ H R => ta σ H fun vs H1 => ∃ i j : Int, vs = [.int i, .int j] ∧ (-(2 ^ 62) ≤ i ∧ i < 2 ^ 62 ∧ -(2 ^ 62) ≤ j ∧ j < 2 ^ 62) ∧ R (Itr i (j - i).toNat) H1
theorem pi_range1 {a : Expr} {ta : TA} {p pos : Pos} (hg : Gl X "range") (hm : X.mg "range" = none) (ha : PA X [a] ta) (hs : starEach [a] X.env = [(false, eval a X.env)] := by rfl) : PI X tg (.Call (.Name "range" p) [a] [] pos) (iRng1 ta) := by
  intro pins s σ H R I h
  refine Call_ (ld_blt I hg hm boot_range (PyProof.Rows.callWith_type1 (thn (ha pos pins s σ H _ I h) fun us s1 ⟨vs, H1, I1, r1, q1⟩ => ?_) hs rfl))
  obtain ⟨j, e, q1, q2, q⟩ := q1
  subst e
  cases r1 with
  | cons r rr =>
    cases rr
    obtain ⟨t, rfl⟩ := r
    exact call_range_1 (range_it I1 (by omega) (by omega) q1 q2 (by simpa using q))
def tFor (wi : TI) (g : TG) (tb : TS) : TS := fun D σ H => wi σ H fun J H1 => ∃ W : Nat → Nat → St → Hp → Prop, (∃ m, W 0 m σ H1) ∧ ∀ i m σ H, W i m σ H →
  (J.stop i H ∧ D.nx σ H) ∨ (J.go i H ∧ ∃ N : St → Hp → Prop, (∀ σ' H', N σ' H' → ∃ m', m' < m ∧ W (i + 1) m' σ' H') ∧ ∀ x H', J.yld i H x H' → g x σ H' fun σ2 H2 => tb { D with nx := N, ct := N, bk := D.nx } σ2 H2)
def pinsAt (fp : List Addr) (h : Heap) : List (Addr × Obj) := fp.filterMap fun b => (h.get? b).map fun o => (b, o)
theorem mem_pinsAt {fp : List Addr} {h : Heap} {b : Addr} {o : Obj} (hb : b ∈ fp) (e : h.get? b = some o) : (b, o) ∈ pinsAt fp h := List.mem_filterMap.mpr ⟨b, hb, by rw [e]; rfl⟩
theorem of_pinsAt {fp : List Addr} {h : Heap} {p : Addr × Obj} (hp : p ∈ pinsAt fp h) : p.1 ∈ fp ∧ h.get? p.1 = some p.2 := by
  obtain ⟨b, hb, e⟩ := List.mem_filterMap.mp hp
  cases q : h.get? b with
  | none => rw [q] at e; cases e
  | some o =>
    rw [q] at e
    have e' : (b, o) = p := Option.some.inj e
    subst e'
    exact ⟨hb, q⟩
theorem Inv.pinned {pins : List (Addr × Obj)} {σ : St} {H : Hp} {s : Shared} {fp : List Addr} (I : Inv X pins σ H s) (hf : ∀ b ∈ fp, FpOk X pins H b) (ho : ∀ b ∈ fp, ∃ o, s.heap.get? b = some o ∧ ∀ v, o.data ≠ .cell v) : Inv X (pins ++ pinsAt fp s.heap) σ H s :=
  I.pins_of fun p hp => (List.mem_append.mp hp).elim (fun z => I.pin p (List.mem_append_right _ z)) fun z => by
    obtain ⟨hb, e⟩ := of_pinsAt z
    obtain ⟨f0, f1, f2, _⟩ := hf p.1 hb
    obtain ⟨o, e', d⟩ := ho p.1 hb
    rw [e] at e'; cases e'
    exact ⟨e, f0, f1, f2, d⟩
theorem Inv.unpinned {pins pl : List (Addr × Obj)} {σ : St} {H : Hp} {s : Shared} (I : Inv X (pins ++ pl) σ H s) : Inv X pins σ H s := I.pins_of fun p hp => I.pin p (List.mem_append_right _ (List.mem_append_left _ hp))
theorem ps_for {iter : Expr} {body : List Stmt} {wi : TI} {g : TG} {tb : TS} {pos : Pos} (hp : PassesOwn (model X.prog X.w) X.A X.env X.xe) (hc : X.calm = true) (hi : PI X tg iter wi) (hg : PG X tg g) (hb : PSs X body tb)
    (hs : ∀ x, foldedSetIterable iter X.env x = pure x := by intro _; rfl) : PS X (.For tg iter body [] pos) (tFor wi g tb) := by
  intro pins s σ H D I h
  refine wpAny_For (thn (hi pins s σ H _ I h) fun v s1 h1 => thn h1 fun itv s2 h2 => ?_) hs
  obtain ⟨it, fp, tn, J, H2, e, I2, T, st2, f2, W, ⟨m0, w0⟩, turn⟩ := h2
  subst e
  -- what stays true of the iterator's objects through the loop
  have stat : ∀ {H' : Hp}, (∀ b ∈ fp, H' b = none) → ∀ b ∈ fp, FpOk X pins H' b := fun hn b hb => ⟨hn b hb, (f2 b hb).2⟩
  refine codeAny_forLoop_any (fun n s' => ∃ i σ' H', Inv X pins σ' H' s' ∧ tn i s'.heap ∧ (∀ b ∈ fp, H' b = none) ∧ W i n σ' H') ?_ m0 ⟨0, σ, H2, I2, st2, fun b hb => (f2 b hb).1, w0⟩
  rintro n s3 ⟨i, σ3, H3, I3, st3, fr3, w3⟩
  rcases turn i n σ3 H3 w3 with ⟨stop, qn⟩ | ⟨go, N, hN, step⟩
  · refine wpAny_passesOwn hp (thn (T.done X rfl rfl rfl hc i pins s3 σ3 H3 X.xe I3 (stat fr3) st3 stop) fun r s4 ⟨hr, I4⟩ => ?_)
    subst hr
    exact wpAny_execs_nil ⟨σ3, H3, I4, qn⟩
  · refine wpAny_passesOwn hp (thn (T.item X rfl rfl rfl hc i pins s3 σ3 H3 X.xe I3 (stat fr3) st3 go) fun r s4 ⟨u, hr, h4⟩ => ?_)
    subst hr
    refine wpAny_passesOwn hp (thn h4 fun _ s5 ⟨x, H5, I5, r5, y5, st5, fr5⟩ => ?_)
    have I5' := I5.pinned (stat fr5) (T.obj _ _ st5)
    refine wpAny_passesOwn hp (thn (hg _ s5 σ3 H5 x u _ I5' r5 (step x H5 y5)) fun _ s6 ⟨σ6, H6, I6, q6⟩ => ?_)
    refine wpAny_passesOwn hp (thn (hb _ s6 σ6 H6 _ I6 q6) fun f s7 q7 => ?_)
    have again : ∀ {σ7 : St} {H7 : Hp}, Inv X (pins ++ pinsAt fp s5.heap) σ7 H7 s7 → N σ7 H7 → ∃ m, m < n ∧ ∃ i σ' H', Inv X pins σ' H' s7 ∧ tn i s7.heap ∧ (∀ b ∈ fp, H' b = none) ∧ W i m σ' H' := fun {σ7 H7} I7 n7 => by
      obtain ⟨m', hm, w7⟩ := hN σ7 H7 n7
      refine ⟨m', hm, i + 1, σ7, H7, I7.unpinned, T.keep _ _ _ st5 fun b hb o e => (I7.pin (b, o) (List.mem_append_right _ (List.mem_append_right _ (mem_pinsAt hb e)))).1, fun b hb => ?_, w7⟩
      obtain ⟨o, e, d⟩ := T.obj _ _ st5 b hb
      exact (I7.pin (b, o) (List.mem_append_right _ (List.mem_append_right _ (mem_pinsAt hb e)))).2.1
    cases f with
    | next => obtain ⟨σ7, H7, I7, n7⟩ := q7; exact again I7 n7
    | cont => obtain ⟨σ7, H7, I7, n7⟩ := q7; exact again I7 n7
    | brk => obtain ⟨σ7, H7, I7, q7⟩ := q7; exact ⟨σ7, H7, I7.unpinned, q7⟩
    | ret v => obtain ⟨x7, σ7, H7, I7, r7, q7⟩ := q7; exact ⟨x7, σ7, H7, I7.unpinned, r7, q7⟩
end
theorem for_list {K : PySem.W.Frag} {a : Addr} {xs : List V} {g : TG} {tb : TS} {D : Ends} {σ : St} {H : Hp} (Pv : Nat → St → Hp → Prop) (h0 : Pv 0 σ H) (hl : ∀ i σ H, i ≤ xs.length → Pv i σ H → SqL K H a xs)
    (hs : ∀ i x σ H, xs[i]? = some x → Pv i σ H → g x σ H fun σ2 H2 => tb { D with nx := Pv (i + 1), ct := Pv (i + 1), bk := D.nx } σ2 H2) (hd : ∀ σ H, Pv xs.length σ H → D.nx σ H) :
    ∃ W : Nat → Nat → St → Hp → Prop, (∃ m, W 0 m σ H) ∧ ∀ i m σ H, W i m σ H →
      ((Itl K a).stop i H ∧ D.nx σ H) ∨ ((Itl K a).go i H ∧ ∃ N : St → Hp → Prop, (∀ σ' H', N σ' H' → ∃ m', m' < m ∧ W (i + 1) m' σ' H') ∧ ∀ x H', (Itl K a).yld i H x H' → g x σ H' fun σ2 H2 => tb { D with nx := N, ct := N, bk := D.nx } σ2 H2) := by
  refine ⟨fun i m σ H => m = xs.length - i ∧ i ≤ xs.length ∧ Pv i σ H, ⟨xs.length, by simp, Nat.zero_le _, h0⟩, ?_⟩
  rintro i m σ H ⟨rfl, hi, p⟩
  have q := hl i σ H hi p
  by_cases hlt : i < xs.length
  · refine .inr ⟨⟨xs, xs[i], q, by simp [hlt]⟩, Pv (i + 1), fun σ' H' p' => ⟨xs.length - (i + 1), by omega, rfl, hlt, p'⟩, fun x H' y => ?_⟩
    obtain ⟨e, y⟩ := y
    subst e
    exact hs i x σ _ (y xs q) p
  · have e : i = xs.length := by omega
    subst e
    exact .inl ⟨⟨xs, q, Nat.le_refl _⟩, hd σ H p⟩
theorem for_range {lo : Int} {n : Nat} {g : TG} {tb : TS} {D : Ends} {σ : St} {H : Hp} (Pv : Nat → St → Hp → Prop) (h0 : Pv 0 σ H)
    (hs : ∀ i σ H, i < n → Pv i σ H → g (.int (lo + i)) σ H fun σ2 H2 => tb { D with nx := Pv (i + 1), ct := Pv (i + 1), bk := D.nx } σ2 H2) (hd : ∀ σ H, Pv n σ H → D.nx σ H) :
    ∃ W : Nat → Nat → St → Hp → Prop, (∃ m, W 0 m σ H) ∧ ∀ i m σ H, W i m σ H →
      ((Itr lo n).stop i H ∧ D.nx σ H) ∨ ((Itr lo n).go i H ∧ ∃ N : St → Hp → Prop, (∀ σ' H', N σ' H' → ∃ m', m' < m ∧ W (i + 1) m' σ' H') ∧ ∀ x H', (Itr lo n).yld i H x H' → g x σ H' fun σ2 H2 => tb { D with nx := N, ct := N, bk := D.nx } σ2 H2) := by
  refine ⟨fun i m σ H => m = n - i ∧ i ≤ n ∧ Pv i σ H, ⟨n, by simp, Nat.zero_le _, h0⟩, ?_⟩
  rintro i m σ H ⟨rfl, hi, p⟩
  by_cases hlt : i < n
  · refine .inr ⟨hlt, Pv (i + 1), fun σ' H' p' => ⟨n - (i + 1), by omega, rfl, hlt, p'⟩, fun x H' y => ?_⟩
    obtain ⟨e, y⟩ := y
    subst e y
    exact hs i σ _ hlt p
  · have e : i = n := by omega
    subst e
    exact .inl ⟨Nat.le_refl _, hd σ H p⟩
end L2
namespace L2
open PySem PySem.Spec PyProof.Rows
abbrev R2 := V → V → Hp → VK → Prop
def OpR (X : Cx) (f : Value → Value → Sem Value) (r : R2) : Prop :=
  ∀ (pins : List (Addr × Obj)) (s : Shared) (σ : St) (H : Hp) (x y : V) (v u : Value) (Q : VK), Inv X pins σ H s → RelV x v → RelV y u → r x y H Q →
    wpAny (model X.prog X.w) X.A (f v u) (EP X pins σ Q) X.xe s
def UnR (X : Cx) (f : Value → Sem Value) (r : V → Hp → VK → Prop) : Prop :=
  ∀ (pins : List (Addr × Obj)) (s : Shared) (σ : St) (H : Hp) (x : V) (v : Value) (Q : VK), Inv X pins σ H s → RelV x v → r x H Q →
    wpAny (model X.prog X.w) X.A (f v) (EP X pins σ Q) X.xe s
def CallR (X : Cx) (f : Value) (r : List V → Hp → VK → Prop) : Prop :=
  ∀ (pins : List (Addr × Obj)) (s : Shared) (σ : St) (H : Hp) (xs : List V) (us : List Value) (Q : VK), Inv X pins σ H s → Vals xs us → r xs H Q →
    wpAny (model X.prog X.w) X.A (call f us) (EP X pins σ Q) X.xe s
def TruR (X : Cx) (r : V → Hp → (Bool → Hp → Prop) → Prop) : Prop :=
  ∀ (pins : List (Addr × Obj)) (s : Shared) (σ : St) (H : Hp) (x : V) (v : Value) (Q : Bool → Hp → Prop), Inv X pins σ H s → RelV x v → r x H Q →
    wpAny (model X.prog X.w) X.A (truthy v) (TP X pins σ Q) X.xe s
def tOp (r : R2) (ta tb : TE) : TE := fun σ H Q => ta σ H fun x H1 => tb σ H1 fun y H2 => r x y H2 Q
def tUn (r : V → Hp → VK → Prop) (ta : TE) : TE := fun σ H Q => ta σ H fun x H1 => r x H1 Q
def rI (C : Int → Int → Prop) (g : Int → Int → V) : R2 := fun x y H Q => ∃ i j, x = .int i ∧ y = .int j ∧ C i j ∧ Q (g i j) H
def rI0 (g : Int → Int → V) : R2 := fun x y H Q => ∃ i j, x = .int i ∧ y = .int j ∧ Q (g i j) H
def rU (g : Int → V) : V → Hp → VK → Prop := fun x H Q => ∃ i, x = .int i ∧ Q (g i) H
section
variable {X : Cx} {a b c : Expr} {ta tb tc : TE} {pos : Pos}
theorem binT (ha : PE X a ta) (hb : PE X b tb) {pins : List (Addr × Obj)} {s : Shared} {σ : St} {H : Hp} {R : V → V → Hp → Prop} (I : Inv X pins σ H s)
    (h : ta σ H fun x H1 => tb σ H1 fun y H2 => R x y H2) {Q : Value → Shared → Prop} {f : Value → Value → Sem Value}
    (hf : ∀ v u s2 x y H2, Inv X pins σ H2 s2 → RelV x v → RelV y u → R x y H2 → wpAny (model X.prog X.w) X.A (f v u) Q X.xe s2) :
    wpAny (model X.prog X.w) X.A (eval a X.env) (fun v s₁ => wpAny (model X.prog X.w) X.A (eval b X.env) (fun u s₂ => wpAny (model X.prog X.w) X.A (f v u) Q X.xe s₂) X.xe s₁) X.xe s := by
  refine thn (ha pins s σ H _ I h) fun v s1 ⟨x, H1, I1, r1, q1⟩ => ?_
  refine thn (hb pins s1 σ H1 _ I1 q1) fun u s2 ⟨y, H2, I2, r2, q2⟩ => ?_
  exact hf v u s2 x y H2 I2 r1 r2 q2
theorem pe_op {op : Operator} {r : R2} (ho : OpR X (binaryOp op) r) (ha : PE X a ta) (hb : PE X b tb) : PE X (.BinOp a op b pos) (tOp r ta tb) := by
  intro pins s σ H Q I h
  exact wpAny_BinOp (binT ha hb I h fun v u s2 x y H2 I2 rx ry q => ho pins s2 σ H2 x y v u Q I2 rx ry q)
theorem pe_un {op : UnaryOp} {r : V → Hp → VK → Prop} (ho : UnR X (unaryOp op) r) (ha : PE X a ta) : PE X (.UnaryOp op a pos) (tUn r ta) := by
  intro pins s σ H Q I h
  exact UnaryOp_ (thn (ha pins s σ H _ I h) fun v s1 ⟨x, H1, I1, r1, q1⟩ => ho pins s1 σ H1 x v Q I1 r1 q1)
theorem opI {f : Value → Value → Sem Value} {C : Int → Int → Prop} {g : Int → Int → Int}
    (rule : ∀ (i j : Int) (t u : Tok) (s : Shared) (Q : Value → Shared → Prop) (E : Value → Shared → Prop), C i j → Q (.int (g i j) s.toks) { s with toks := s.toks + 1 } → wpAny (model X.prog X.w) X.A (f (.int i t) (.int j u)) Q E s) :
    OpR X f (rI C fun i j => .int (g i j)) := by
  intro pins s σ H x y v u Q I rx ry h
  obtain ⟨i, j, rfl, rfl, hc, q⟩ := h
  obtain ⟨t, rfl⟩ := rx
  obtain ⟨t', rfl⟩ := ry
  exact rule i j t t' s _ _ hc ⟨.int (g i j), H, I.tok _, ⟨_, rfl⟩, q⟩
theorem opI0 {f : Value → Value → Sem Value} {g : Int → Int → Int}
    (rule : ∀ (i j : Int) (t u : Tok) (s : Shared) (Q : Value → Shared → Prop) (E : Value → Shared → Prop), Q (.int (g i j) s.toks) { s with toks := s.toks + 1 } → wpAny (model X.prog X.w) X.A (f (.int i t) (.int j u)) Q E s) :
    OpR X f (rI0 fun i j => .int (g i j)) := by
  intro pins s σ H x y v u Q I rx ry h
  obtain ⟨i, j, rfl, rfl, q⟩ := h
  obtain ⟨t, rfl⟩ := rx
  obtain ⟨t', rfl⟩ := ry
  exact rule i j t t' s _ _ ⟨.int (g i j), H, I.tok _, ⟨_, rfl⟩, q⟩
theorem opB0 {f : Value → Value → Sem Value} {g : Int → Int → Bool}
    (rule : ∀ (i j : Int) (t u : Tok) (s : Shared) (Q : Value → Shared → Prop) (E : Value → Shared → Prop), Q (.bool (g i j)) s → wpAny (model X.prog X.w) X.A (f (.int i t) (.int j u)) Q E s) :
    OpR X f (rI0 fun i j => .bl (g i j)) := by
  intro pins s σ H x y v u Q I rx ry h
  obtain ⟨i, j, rfl, rfl, q⟩ := h
  obtain ⟨t, rfl⟩ := rx
  obtain ⟨t', rfl⟩ := ry
  exact rule i j t t' s _ _ ⟨.bl (g i j), H, I, rfl, q⟩
def CDiv (i j : Int) : Prop := 0 < j ∧ j < 1073741824
def CPow (i j : Int) : Prop := 0 ≤ j ∧ j ≤ 1000000 ∧ i.natAbs < 2 ^ 64
def CMul (i j : Int) : Prop := (-(2 ^ 64) < i ∧ i < 2 ^ 64) ∨ (-(2 ^ 64) < j ∧ j < 2 ^ 64)
theorem CMul.ok {i j : Int} (h : CMul i j) : IntMulOk i j := by
  rcases h with ⟨h1, h2⟩ | ⟨h1, h2⟩
  · exact .of_left (intBits_le_64 h1 h2)
  · exact .of_right (intBits_le_64 h1 h2)
theorem op_add : OpR X (binaryOp .Add) (rI0 fun i j => .int (i + j)) := opI0 fun _ _ _ _ _ _ _ q => add_int q
theorem op_sub : OpR X (binaryOp .Sub) (rI0 fun i j => .int (i - j)) := opI0 fun _ _ _ _ _ _ _ q => sub_int q
theorem op_mul : OpR X (binaryOp .Mult) (rI CMul fun i j => .int (i * j)) := opI fun _ _ _ _ _ _ _ hc q => mul_int q hc.ok
theorem op_fdiv : OpR X (binaryOp .FloorDiv) (rI CDiv fun i j => .int (i / j)) := opI fun i j _ _ _ _ _ hc q => by
  have h1 : (0 : Int) < j := hc.1
  have h2 : j < 1073741824 := hc.2
  exact floordiv_int (by omega) (by rw [Int.fdiv_eq_ediv_of_nonneg i (by omega)]; exact q) (.inl (PyProof.noPylong_small (by omega)))
theorem op_mod : OpR X (binaryOp .Mod) (rI (fun _ j => 0 < j) fun i j => .int (i % j)) := opI fun i j _ _ _ _ _ hc q => by
  have h1 : (0 : Int) < j := hc
  exact mod_int' (by omega) (by rw [Int.fmod_eq_emod_of_nonneg i (by omega)]; exact q)
theorem op_pow : OpR X (binaryOp .Pow) (rI CPow fun i j => .int (i ^ j.toNat)) := opI fun _ _ _ _ _ _ _ hc q => pow_int_small hc.1 hc.2.1 hc.2.2 q
theorem op_shl : OpR X (binaryOp .LShift) (rI CPow fun i j => .int (i * 2 ^ j.toNat)) := opI fun _ _ _ _ _ _ _ hc q => lshift_int_small hc.1 hc.2.1 hc.2.2 q
theorem op_and : OpR X (binaryOp .BitAnd) (rI0 fun i j => .int (Builtin.bitAnd i j)) := opI0 fun _ _ _ _ _ _ _ q => and_int q
theorem op_xor : OpR X (binaryOp .BitXor) (rI0 fun i j => .int (Builtin.bitXor i j)) := opI0 fun _ _ _ _ _ _ _ q => xor_int q
theorem unI {f : Value → Sem Value} {g : Int → Int}
    (rule : ∀ (i : Int) (t : Tok) (s : Shared) (Q : Value → Shared → Prop) (E : Value → Shared → Prop), Q (.int (g i) s.toks) { s with toks := s.toks + 1 } → wpAny (model X.prog X.w) X.A (f (.int i t)) Q E s) :
    UnR X f (rU fun i => .int (g i)) := by
  intro pins s σ H x v Q I rx h
  obtain ⟨i, rfl, q⟩ := h
  obtain ⟨t, rfl⟩ := rx
  exact rule i t s _ _ ⟨.int (g i), H, I.tok _, ⟨_, rfl⟩, q⟩
theorem un_neg : UnR X (unaryOp .USub) (rU fun i => .int (-i)) := unI fun _ _ _ _ _ q => neg_int q
theorem un_inv : UnR X (unaryOp .Invert) (rU fun i => .int (Builtin.bitNot i)) := unI fun _ _ _ _ _ q => invert_int q
end
def scal : V → V → Bool
  | .non, .non => true | .non, .int _ => true | .int _, .non => true | .non, .bl _ => true | .bl _, .non => true | .non, .str _ => true | .str _, .non => true
  | .int _, .int _ => true | .bl _, .bl _ => true | .str _, .str _ => true | .byt _, .byt _ => true
  | .int _, .str _ => true | .str _, .int _ => true | .bl _, .str _ => true | .str _, .bl _ => true
  | _, _ => false
def rEq : R2 := fun x y H Q => scal x y = true ∧ Q (.bl (decide (x = y))) H
def rNe : R2 := fun x y H Q => scal x y = true ∧ Q (.bl (!decide (x = y))) H
theorem dec_int {i j : Int} : decide (V.int i = V.int j) = (i == j) := by
  rw [Bool.eq_iff_iff]
  simp
theorem dec_bl {i j : Bool} : decide (V.bl i = V.bl j) = (i == j) := by
  rw [Bool.eq_iff_iff]
  simp
theorem dec_str {i j : Str} : decide (V.str i = V.str j) = (i == j) := by
  rw [Bool.eq_iff_iff]
  simp
theorem dec_byt {i j : Array UInt8} : decide (V.byt i = V.byt j) = (i.toList == j.toList) := by
  rw [Bool.eq_iff_iff]
  cases i
  cases j
  simp
section
variable {X : Cx} {a b c : Expr} {ta tb tc : TE} {pos : Pos}
theorem fin_bl {pins : List (Addr × Obj)} {σ : St} {H : Hp} {s : Shared} {Q : VK} {k k' : Bool} (I : Inv X pins σ H s) (q : Q (.bl k) H) (e : k = k') : EP X pins σ Q (.bool k') s := by
  subst e
  exact ⟨.bl k, H, I, rfl, q⟩
theorem op_eq : OpR X (compareOp .Eq) rEq := by
  intro pins s σ H x y v u Q I rx ry h
  obtain ⟨hs, q⟩ := h
  cases x with
  | non =>
    cases rx
    cases y with
    | non => cases ry; exact PySem.EqNone.eq_none_none (fin_bl I q (by simp))
    | bl j => cases ry; exact PySem.EqNone.eq_none_bool (fin_bl I q (by simp))
    | int j => obtain ⟨t', rfl⟩ := ry; exact PySem.EqNone.eq_none_int (fin_bl I q (by simp))
    | str j => obtain ⟨t', rfl⟩ := ry; exact PySem.EqNone.eq_none_str (fin_bl I q (by simp))
    | _ => exact absurd (show false = true from hs) Bool.false_ne_true
  | bl i =>
    cases rx
    cases y with
    | non => cases ry; exact PySem.EqNone.eq_bool_none (fin_bl I q (by simp))
    | bl j => cases ry; exact eq_bool (fin_bl I q dec_bl)
    | str j => obtain ⟨t', rfl⟩ := ry; exact PySem.EqMixed.eq_bool_str (fin_bl I q (by simp))
    | _ => exact absurd (show false = true from hs) Bool.false_ne_true
  | int i =>
    obtain ⟨t, rfl⟩ := rx
    cases y with
    | non => cases ry; exact PySem.EqNone.eq_int_none (fin_bl I q (by simp))
    | int j => obtain ⟨t', rfl⟩ := ry; exact eq_int (fin_bl I q dec_int)
    | str j => obtain ⟨t', rfl⟩ := ry; exact PySem.EqMixed.eq_int_str (fin_bl I q (by simp))
    | _ => exact absurd (show false = true from hs) Bool.false_ne_true
  | str i =>
    obtain ⟨t, rfl⟩ := rx
    cases y with
    | non => cases ry; exact PySem.EqNone.eq_str_none (fin_bl I q (by simp))
    | bl j => cases ry; exact PySem.EqMixed.eq_str_bool (fin_bl I q (by simp))
    | int j => obtain ⟨t', rfl⟩ := ry; exact PySem.EqMixed.eq_str_int (fin_bl I q (by simp))
    | str j => obtain ⟨t', rfl⟩ := ry; exact eq_str (fin_bl I q dec_str)
    | _ => exact absurd (show false = true from hs) Bool.false_ne_true
  | byt i =>
    obtain ⟨t, rfl⟩ := rx
    cases y with
    | byt j => obtain ⟨t', rfl⟩ := ry; exact PySem.W.eq_bytes (fin_bl I q dec_byt)
    | _ => exact absurd (show false = true from hs) Bool.false_ne_true
  | _ => cases y <;> exact absurd (show false = true from hs) Bool.false_ne_true
theorem op_ne : OpR X (compareOp .NotEq) rNe := by
  intro pins s σ H x y v u Q I rx ry h
  obtain ⟨hs, q⟩ := h
  cases x with
  | non =>
    cases rx
    cases y with
    | non => cases ry; exact PySem.EqNone.ne_none_none (fin_bl I q (by simp))
    | bl j => cases ry; exact PySem.EqNone.ne_none_bool (fin_bl I q (by simp))
    | int j => obtain ⟨t', rfl⟩ := ry; exact PySem.EqNone.ne_none_int (fin_bl I q (by simp))
    | str j => obtain ⟨t', rfl⟩ := ry; exact PySem.EqNone.ne_none_str (fin_bl I q (by simp))
    | _ => exact absurd (show false = true from hs) Bool.false_ne_true
  | bl i =>
    cases rx
    cases y with
    | non => cases ry; exact PySem.EqNone.ne_bool_none (fin_bl I q (by simp))
    | bl j => cases ry; exact ne_bool (fin_bl I q (congrArg not dec_bl))
    | str j => obtain ⟨t', rfl⟩ := ry; exact PySem.EqMixed.ne_bool_str (fin_bl I q (by simp))
    | _ => exact absurd (show false = true from hs) Bool.false_ne_true
  | int i =>
    obtain ⟨t, rfl⟩ := rx
    cases y with
    | non => cases ry; exact PySem.EqNone.ne_int_none (fin_bl I q (by simp))
    | int j => obtain ⟨t', rfl⟩ := ry; exact ne_int (fin_bl I q (congrArg not dec_int))
    | str j => obtain ⟨t', rfl⟩ := ry; exact PySem.EqMixed.ne_int_str (fin_bl I q (by simp))
    | _ => exact absurd (show false = true from hs) Bool.false_ne_true
  | str i =>
    obtain ⟨t, rfl⟩ := rx
    cases y with
    | non => cases ry; exact PySem.EqNone.ne_str_none (fin_bl I q (by simp))
    | bl j => cases ry; exact PySem.EqMixed.ne_str_bool (fin_bl I q (by simp))
    | int j => obtain ⟨t', rfl⟩ := ry; exact PySem.EqMixed.ne_str_int (fin_bl I q (by simp))
    | str j => obtain ⟨t', rfl⟩ := ry; exact ne_str (fin_bl I q (congrArg not dec_str))
    | _ => exact absurd (show false = true from hs) Bool.false_ne_true
  | byt i =>
    obtain ⟨t, rfl⟩ := rx
    cases y with
    | byt j => obtain ⟨t', rfl⟩ := ry; exact PySem.W.ne_bytes (fin_bl I q (congrArg not dec_byt))
    | _ => exact absurd (show false = true from hs) Bool.false_ne_true
  | _ => cases y <;> exact absurd (show false = true from hs) Bool.false_ne_true
theorem op_lt : OpR X (compareOp .Lt) (rI0 fun i j => .bl (decide (i < j))) := opB0 fun _ _ _ _ _ _ _ q => lt_int q
theorem op_le : OpR X (compareOp .LtE) (rI0 fun i j => .bl (decide (i ≤ j))) := opB0 fun _ _ _ _ _ _ _ q => le_int q
theorem op_gt : OpR X (compareOp .Gt) (rI0 fun i j => .bl (decide (j < i))) := opB0 fun _ _ _ _ _ _ _ q => gt_int q
theorem nomark (b : Expr) {op : CmpOp} (h : op ≠ .In := by decide) (h2 : op ≠ .NotIn := by decide) : behindInMarks op b = false := by
  have e1 : (op == CmpOp.In) = false := by cases op <;> first | rfl | exact absurd rfl h
  have e2 : (op == CmpOp.NotIn) = false := by cases op <;> first | rfl | exact absurd rfl h2
  cases b <;> simp [behindInMarks, e1, e2]
theorem pe_cmpR {op : CmpOp} {r : R2} (ho : OpR X (compareOp op) r) (ha : PE X a ta) (hb : PE X b tb) (hm : behindInMarks op b = false) : PE X (.Compare a [op] [b] pos) (tOp r ta tb) := by
  intro pins s σ H Q I h
  exact wpAny_Compare1 (binT ha hb I h fun v u s2 x y H2 I2 rx ry q => ho pins s2 σ H2 x y v u Q I2 rx ry q) hm
def tTest (t : TE) : TT := fun σ H Q => t σ H fun x H' => ∃ k, x = .bl k ∧ Q k H'
theorem pt_cmpR {op : CmpOp} {r : R2} (ho : OpR X (compareOp op) r) (ha : PE X a ta) (hb : PE X b tb) (hm : behindInMarks op b = false) : PT X (.Compare a [op] [b] pos) (tTest (tOp r ta tb)) := by
  intro pins s σ H Q I h
  refine wpAny_isTrue_Compare1 (thn (ha pins s σ H _ I h) fun v s1 ⟨x, H1, I1, r1, q1⟩ => thn (hb pins s1 σ H1 _ I1 q1) fun u s2 ⟨y, H2, I2, r2, q2⟩ =>
    thn (ho pins s2 σ H2 x y v u _ I2 r1 r2 q2) fun c s3 ⟨z, H3, I3, r3, k, e, q3⟩ => ?_) hm
  subst e
  cases r3
  exact wpAny_truthy_bool ⟨H3, I3, q3⟩
def tChain (r r' : R2) (ta tb tc : TE) : TE := fun σ H Q => ta σ H fun x H1 => tb σ H1 fun y H2 => r x y H2 fun z H3 => ∃ k, z = .bl k ∧
  (if k = true then tc σ H3 fun w' H4 => r' y w' H4 Q else Q (.bl false) H3)
theorem pe_chain {op op' : CmpOp} {r r' : R2} (ho : OpR X (compareOp op) r) (ho' : OpR X (compareOp op') r') (ha : PE X a ta) (hb : PE X b tb) (hc : PE X c tc)
    (hm : lastMarks [op, op'] [b, c] = false := by with_unfolding_all rfl) : PE X (.Compare a [op, op'] [b, c] pos) (tChain r r' ta tb tc) := by
  intro pins s σ H Q I h
  refine Compare_chain (thn (ha pins s σ H _ I h) fun v s1 ⟨x, H1, I1, r1, q1⟩ => chain_link (thn (hb pins s1 σ H1 _ I1 q1) fun u s2 ⟨y, H2, I2, r2, q2⟩ =>
    thn (ho pins s2 σ H2 x y v u _ I2 r1 r2 q2) fun d s3 ⟨z, H3, I3, r3, k, e, q3⟩ => ?_)) hm
  subst e
  cases r3
  refine wpAny_truthy_bool ?_
  cases k with
  | false => exact ite_ff ⟨.bl false, H3, I3, rfl, q3⟩
  | true => exact ite_tt (chain_last (thn (hc pins s3 σ H3 _ I3 q3) fun w' s4 ⟨z', H4, I4, r4, q4⟩ => ho' pins s4 σ H4 y z' u w' Q I4 r2 r4 q4))
def TruV (K : PySem.W.Frag) (x : V) (H : Hp) (k : Bool) : Prop :=
  match x with
  | .non => k = false
  | .bl b => k = b
  | .int i => k = (i != 0)
  | .str y => y.length ≤ sizeLine ∧ k = ((y.length : Int) != 0)
  | .byt y => y.size ≤ sizeLine ∧ k = ((y.size : Int) != 0)
  | .ref p => (∃ xs, SqL K H p xs ∧ k = !xs.isEmpty) ∨ (∃ xs, SqT K H p xs ∧ k = !xs.isEmpty) ∨ ∃ kvs, H p = some (.dK kvs) ∧ k = !kvs.isEmpty
  | _ => False
theorem isEmpty_kv {κ : Type} {kvs : List (κ × V)} {vs : List (κ × Value)} (r : KV kvs vs) : (!vs.isEmpty) = !kvs.isEmpty := by
  cases r <;> rfl
theorem isEmpty_of {xs : List V} {its : List Value} (r : Vals xs its) : (!its.toArray.isEmpty) = !xs.isEmpty := by
  cases r <;> simp
theorem line63 : (sizeLine : Nat) < 2 ^ 63 := by rw [sizeLine_eq]; decide
theorem tru_ok : TruR X (fun x H Q => ∃ k, TruV X.K x H k ∧ Q k H) := by
  intro pins s σ H x v Q I rx h
  obtain ⟨k, e, q⟩ := h
  have hl := line63
  have hs : sizeLine = 16777216 := sizeLine_eq
  cases x with
  | non =>
    cases rx
    have e' : k = false := e
    subst e'
    exact truthy_none ⟨H, I, q⟩
  | bl b =>
    cases rx
    have e' : k = b := e
    subst e'
    exact wpAny_truthy_bool ⟨H, I, q⟩
  | int i =>
    obtain ⟨t, rfl⟩ := rx
    have e' : k = (i != 0) := e
    subst e'
    exact PySem.P.truthy_int ⟨H, I, q⟩
  | str y =>
    obtain ⟨t, rfl⟩ := rx
    obtain ⟨hy, e'⟩ : y.length ≤ sizeLine ∧ k = ((y.length : Int) != 0) := e
    subst e'
    exact PySem.P.truthy_str (by omega) ⟨H, I.tok _, q⟩
  | byt y =>
    obtain ⟨t, rfl⟩ := rx
    obtain ⟨hy, e'⟩ : y.size ≤ sizeLine ∧ k = ((y.size : Int) != 0) := e
    subst e'
    exact PySem.W.truthy_bytes (by omega) ⟨H, I.tok _, q⟩
  | ref p =>
    cases rx
    have e' : (∃ xs, SqL X.K H p xs ∧ k = !xs.isEmpty) ∨ (∃ xs, SqT X.K H p xs ∧ k = !xs.isEmpty) ∨ ∃ kvs, H p = some (.dK kvs) ∧ k = !kvs.isEmpty := e
    rcases e' with ⟨xs, hx, e'⟩ | ⟨xs, hx, e'⟩ | ⟨kvs, hx, e'⟩
    · subst e'
      obtain ⟨its, r, pl, hz⟩ := I.list hx
      have hlen := r.length
      exact wpAny_truthy_list pl.isList (by simp only [List.size_toArray]; omega) ⟨H, I.tok _, by rw [isEmpty_of r]; exact q⟩
    · subst e'
      obtain ⟨its, r, pl, hz⟩ := I.tuple hx
      have hlen := r.length
      exact truthy_tuple pl (by simp only [List.size_toArray]; omega) ⟨H, I.tok _, by rw [isEmpty_of r]; exact q⟩
    · subst e'
      obtain ⟨hz, hS, vs, r, m⟩ : kvs.length ≤ sizeLine ∧ (p == sysModules) = false ∧ ∃ vs, KV kvs vs ∧ s.heap.DictOf (mixKind X.prog X.w) p vs := I.hok p _ hx
      have hlen : kvs.length = vs.length := Paired.length r
      exact wpAny_truthy_dict hS m (by omega) ⟨H, I.tok _, by rw [isEmpty_kv r]; exact q⟩
  | _ => exact (show False from e).elim
theorem pt_truth (ha : PE X a ta) (he : ∀ whole, isTrue a X.env whole = (do let v ← whole; standAt a.pos; holding [v] (truthy v))) :
    PT X a (fun σ H Q => ta σ H fun x H' => ∃ k, TruV X.K x H' k ∧ Q k H') := by
  intro pins s σ H Q I h
  exact isTrue_plain (thn (ha pins s σ H _ I h) fun v s1 ⟨x, H1, I1, r1, q1⟩ => tru_ok pins s1 σ H1 x v Q I1 r1 q1) (he _)
theorem op_add_str : OpR X (binaryOp .Add) (fun x y H Q => ∃ i j, x = .str i ∧ y = .str j ∧ i.length + j.length ≤ sizeLine ∧ Q (.str (i ++ j)) H) := by
  intro pins s σ H x y v u Q I rx ry h
  obtain ⟨i, j, rfl, rfl, hz, q⟩ := h
  obtain ⟨t, rfl⟩ := rx
  obtain ⟨t', rfl⟩ := ry
  exact add_str (fun t' tk => ⟨.str (i ++ j), H, I.tok _, ⟨_, rfl⟩, q⟩) hz
theorem vals1 {x : V} {us : List Value} (r : Vals [x] us) : ∃ u, us = [u] ∧ RelV x u := by
  cases r with
  | cons r1 r2 => cases r2; exact ⟨_, rfl, r1⟩
theorem vals2 {x y : V} {us : List Value} (r : Vals [x, y] us) : ∃ u w', us = [u, w'] ∧ RelV x u ∧ RelV y w' := by
  cases r with
  | cons r1 r2 =>
    cases r2 with
    | cons r3 r4 => cases r4; exact ⟨_, _, rfl, r1, r3⟩
def LenV (K : PySem.W.Frag) (x : V) (H : Hp) (n : Nat) : Prop :=
  match x with
  | .str y => y.length ≤ sizeLine ∧ n = y.length
  | .byt y => y.size ≤ sizeLine ∧ n = y.size
  | .ref p => (∃ xs, SqL K H p xs ∧ n = xs.length) ∨ ∃ xs, SqT K H p xs ∧ n = xs.length
  | _ => False
theorem call_len : CallR X (.builtin "len") (fun xs H Q => ∃ x n, xs = [x] ∧ LenV X.K x H n ∧ Q (.int n) H) := by
  intro pins s σ H xs us Q I r h
  obtain ⟨x, n, rfl, e, q⟩ := h
  obtain ⟨u, rfl, rx⟩ := vals1 r
  have hl := line63
  have hs : sizeLine = 16777216 := sizeLine_eq
  cases x with
  | str y =>
    obtain ⟨t, rfl⟩ := rx
    obtain ⟨hy, e'⟩ : y.length ≤ sizeLine ∧ n = y.length := e
    subst e'
    exact len_str (by omega) ⟨.int _, H, I.tok _, ⟨_, rfl⟩, q⟩
  | byt y =>
    obtain ⟨t, rfl⟩ := rx
    obtain ⟨hy, e'⟩ : y.size ≤ sizeLine ∧ n = y.size := e
    subst e'
    exact PySem.W.len_bytes (by omega) ⟨.int _, H, I.tok _, ⟨_, rfl⟩, q⟩
  | ref p =>
    cases rx
    have e' : (∃ xs, SqL X.K H p xs ∧ n = xs.length) ∨ ∃ xs, SqT X.K H p xs ∧ n = xs.length := e
    rcases e' with ⟨xs, hx, e'⟩ | ⟨xs, hx, e'⟩
    · subst e'
      obtain ⟨its, r', pl, hz⟩ := I.list hx
      have hlen := r'.length
      exact Calls.call_len_list pl.isList (by simp only [List.size_toArray]; omega) ⟨.int xs.length, H, I.tok _, ⟨_, by simp only [List.size_toArray]; rw [hlen]⟩, q⟩
    · subst e'
      obtain ⟨its, r', pl, hz⟩ := I.tuple hx
      have hlen := r'.length
      exact len_tuple pl (by simp only [List.size_toArray]; omega) ⟨.int xs.length, H, I.tok _, ⟨_, by simp only [List.size_toArray]; rw [hlen]⟩, q⟩
  | _ => exact (show False from e).elim
end
end L2
namespace L2
open PySem PySem.Spec PyProof.Rows
structure ObjM (h : Heap) (x dx C : Addr) (mA : Str → Option Value) : Prop where
  obj : h.get? x = some (PySem.W.instObj C dx)
  ns : h.Ns1 dx mA
  ne : dx ≠ x
theorem lookIn_ns {h : Heap} {dx : Addr} {mA : Str → Option Value} (n : h.Ns1 dx mA) : ∃ od, h.get? dx = some od ∧ ∀ name, PySem.W.lookIn name od = some (mA name) := by
  obtain ⟨o, es, ep, ho, hd, hk, _, hm⟩ := n
  refine ⟨o, ho, fun name => ?_⟩
  have e := hm name
  unfold nsFind findBy at e
  rw [← Array.find?_toList] at e
  unfold PySem.W.lookIn
  rw [hd]
  dsimp only
  split
  · rename_i y q
    rw [q] at e
    exact congrArg some e
  · rename_i q
    rw [q] at e
    have a : es.toList.any (·.refKey) = false := by
      rw [List.any_eq_false]
      intro y hy
      obtain ⟨z, t, hkey⟩ := hk y (Array.mem_toList_iff.mp hy)
      simp [DictEntry.refKey, hkey]
    have a' : ¬ es.toList.any (·.refKey) = true := by rw [a]; exact Bool.false_ne_true
    rw [if_neg a']
    exact congrArg some e
theorem ObjM.look {h : Heap} {x dx C : Addr} {mA : Str → Option Value} (I : ObjM h x dx C mA) : ∃ od, PySem.W.InstAt h x (PySem.W.instObj C dx) C (some od) ∧ ∀ name, PySem.W.lookIn name od = some (mA name) :=
  let ⟨od, ho, hl⟩ := lookIn_ns I.ns
  ⟨od, ⟨I.obj, rfl, rfl, ho⟩, hl⟩
section
variable {prog : Program} {w : World} {A : Around} {E : Value → Shared → Prop} {s : Shared} {K : PySem.W.Frag} {x dx C f : Addr} {mA : Str → Option Value} {name : Str} {v : Value}
theorem get_map {expr : Bool} {Q : Value → Shared → Prop} (X : K.In s.heap) (I : ObjM s.heap x dx C mA) (hg : PySem.W.plainGet K C name = true) (hh : PySem.W.hasDictIn K C = true)
    (ha : PySem.W.findIn K (.ref C) name = some none) (hv : mA name = some v) (hv' : PySem.W.handedIn v = true) (h : Q v { s with toks := s.toks + 1 }) :
    wpAny (model prog w) A (getAttr (.ref x) name expr) Q E s := by
  obtain ⟨od, J, hl⟩ := I.look
  exact PySem.W.get_value X J (PySem.W.plainGet_of hg).1 (PySem.W.findObj_own hh ha rfl (by rw [hl, hv])) hv' h
theorem get_meth {pl : Sem Bool} {Q : Value × List Value → Shared → Prop} (X : K.In s.heap) (I : ObjM s.heap x dx C mA) (hg : PySem.W.plainGet K C name = true)
    (hf : PySem.W.findIn K (.ref C) name = some (some (.ref f))) (ht : PySem.W.isFn K (.ref f) = true) (hv : mA name = none) (h : Q (.ref f, [.ref x]) s) :
    wpAny (model prog w) A (getMethod (.ref x) name pl) Q E s := by
  obtain ⟨od, J, hl⟩ := I.look
  exact PySem.W.method_fn X J (PySem.W.plainGet_of hg).1 (PySem.W.plainGet_of hg).2 hf (beq_iff_eq.mp ht) (by show (PySem.W.lookIn name od).map (·.isSome) = some false; rw [hl, hv]; rfl) h
theorem set_map {ns : List Str} {Q : Unit → Shared → Prop} (X : K.In s.heap) (I : ObjM s.heap x dx C mA)
    (hs : PySem.W.findIn K (.ref C) "__setattr__" = some (some (.builtin "object.__setattr__"))) (hp : PySem.W.plainOver K C = true) (ht : PySem.W.takerIn K C name = some none) (hh : PySem.W.hasDictIn K C = true)
    (hw : PySem.Within mA ns) (hsz : ns.length ≤ sizeLine)
    (h : ∀ h', ObjM h' x dx C (fun y => if y = name then some v else mA y) → Heap.SameBut dx s.heap h' → Q () { s with heap := h', toks := s.toks + 2 }) :
    wpAny (model prog w) A (setAttr (.ref x) name v) Q E s := by
  obtain ⟨od, J, hl⟩ := I.look
  refine PySem.W.set_plain X J hs (PySem.W.osa_open (s := { s with toks := s.toks + 1 }) (r := none) X J hp ht fun b => ?_)
  obtain ⟨cd, hc, hd'⟩ := PySem.W.any_some hh
  have hx : s.heap.get? x = some ⟨.ref C, some dx, .plain, #[]⟩ := I.obj
  refine wpAny_bind (wpAny_pure (wpAny_bind (wpAny_bind (wpAny_loadPart hx (wpAny_bind (PySem.W.Looks.here (s := { s with toks := s.toks + 1 }) (PySem.W.looks_clsIn X hc) ?_))))))
  rw [hd']
  refine wpAny_pure (a := some dx) (wpAny_bind (wpAny_pure (wpAny_bind ?_)))
  refine wpAny_nsSet1 (s := { s with toks := s.toks + 1 }) I.ns fun h' hn2 hs2 => ?_
  obtain ⟨oD, esD, epD, hoD, hdD, hcD⟩ := hn2.count (PySem.Within.cons name v hw)
  refine wpAny_bind (wpAny_lookBehind hoD (by rw [hdD]; exact pastItsLine_dict (Nat.le_trans hcD (by rw [List.length_cons]; omega))) ?_)
  exact wpAny_pure (h _ ⟨(hs2.2 _ (Ne.symm I.ne)).trans I.obj, hn2, I.ne⟩ hs2)
theorem make_map {R : Result → Shared → Prop} {vs : List Value} {kw : List (Str × Value)} (X : K.In s.heap) (hm : PySem.W.makesIn K C = true)
    (hi : PySem.W.findIn K (.ref C) "__init__" = some (some (.ref f))) (hf : PySem.W.typeIn K (.ref f) = some (.type "function"))
    (h : codeAny (model prog w) (A.under (.builtin "type.__call__" ⟨.ref C :: vs, kw⟩)) (.call (.ref f) ⟨.ref (s.heap.objs.size + 1) :: vs, kw⟩) (PySem.W.InitBack (s.heap.objs.size + 1) R)
      { s with heap := (s.heap.push PySem.W.emptyDict).push (PySem.W.instObj C s.heap.objs.size) }) :
    codeAny (model prog w) A (.call (.ref C) ⟨vs, kw⟩) R s := by
  obtain ⟨hh, g, d, t, os⟩ := s
  exact PySem.W.make_core (PySem.W.makes_of X hm) (PySem.W.looks_findIn X hi) (fun self => PySem.W.bind_fn X self hf) (.inl rfl) h
end
def putF (f : Str) (v : V) : List (Str × V) → List (Str × V)
  | [] => [(f, v)]
  | (g, x) :: r => if g = f then (g, v) :: r else (g, x) :: putF f v r
theorem lookup_putF (f g : Str) (v : V) : ∀ fs : List (Str × V), (putF f v fs).lookup g = if g = f then some v else fs.lookup g
  | [] => by
    show List.lookup g [(f, v)] = _
    by_cases h : g = f
    · have hb : (g == f) = true := beq_iff_eq.mpr h
      simp only [List.lookup, hb, if_pos h]
    · have hb : (g == f) = false := beq_eq_false_iff_ne.mpr h
      simp only [List.lookup, hb, if_neg h]
  | (k, x) :: r => by
    have ih := lookup_putF f g v r
    rw [show putF f v ((k, x) :: r) = (if k = f then (k, v) :: r else (k, x) :: putF f v r) from rfl]
    by_cases hk : k = f
    · rw [if_pos hk]
      by_cases h : g = k
      · have hb : (g == k) = true := beq_iff_eq.mpr h
        simp only [List.lookup, hb, if_pos (h.trans hk)]
      · have hb : (g == k) = false := beq_eq_false_iff_ne.mpr h
        simp only [List.lookup, hb, if_neg (fun e : g = f => h (e.trans hk.symm))]
    · rw [if_neg hk]
      by_cases h : g = k
      · have hb : (g == k) = true := beq_iff_eq.mpr h
        simp only [List.lookup, hb, if_neg (fun e : g = f => hk (h.symm.trans e))]
      · have hb : (g == k) = false := beq_eq_false_iff_ne.mpr h
        simp only [List.lookup, hb]
        exact ih
theorem keys_putF (f : Str) (v : V) : ∀ fs : List (Str × V), f ∈ (putF f v fs).map (·.1) ∧ ∀ g, g ∈ fs.map (·.1) → g ∈ (putF f v fs).map (·.1)
  | [] => ⟨by simp [putF], fun g h => by simp at h⟩
  | (k, x) :: r => by
    obtain ⟨i1, i2⟩ := keys_putF f v r
    rw [show putF f v ((k, x) :: r) = (if k = f then (k, v) :: r else (k, x) :: putF f v r) from rfl]
    by_cases hk : k = f
    · rw [if_pos hk]
      subst hk
      exact ⟨by simp, fun g h => by simpa using h⟩
    · rw [if_neg hk]
      refine ⟨?_, fun g h => ?_⟩
      · rw [List.map_cons]
        exact List.mem_cons_of_mem _ i1
      · rw [List.map_cons] at h ⊢
        rcases List.mem_cons.mp h with e | e
        · exact List.mem_cons.mpr (.inl e)
        · exact List.mem_cons_of_mem _ (i2 g e)
theorem length_putF (f : Str) (v : V) : ∀ fs : List (Str × V), (putF f v fs).length ≤ fs.length + 1
  | [] => by simp [putF]
  | (k, x) :: r => by
    have ih := length_putF f v r
    rw [show putF f v ((k, x) :: r) = (if k = f then (k, v) :: r else (k, x) :: putF f v r) from rfl]
    by_cases hk : k = f
    · rw [if_pos hk, List.length_cons, List.length_cons]; omega
    · rw [if_neg hk, List.length_cons, List.length_cons]; omega
theorem RelO.some_of {v : V} {o : Option Value} (r : RelO (some v) o) : ∃ u, o = some u ∧ RelV v u := by
  cases o with
  | none => exact (show False from r).elim
  | some u => exact ⟨u, rfl, r⟩
theorem RelO.none_of {o : Option Value} (r : RelO none o) : o = none := by
  cases o with
  | none => rfl
  | some u => exact (show False from r).elim
theorem handed_of {v : V} {u : Value} (r : RelV v u) : PySem.W.handedIn u = true := by
  cases v with
  | non => cases (show u = Value.none from r); rfl
  | bl b => cases (show u = Value.bool b from r); rfl
  | int i => obtain ⟨t, e⟩ := (show ∃ t, u = Value.int i t from r); cases e; rfl
  | str x => obtain ⟨t, e⟩ := (show ∃ t, u = Value.str x t from r); cases e; rfl
  | byt b => obtain ⟨t, e⟩ := (show ∃ t, u = Value.bytes b t from r); cases e; rfl
  | flt b => obtain ⟨t, e⟩ := (show ∃ t, u = Value.float b t from r); cases e; rfl
  | ref a => cases (show u = Value.ref a from r); rfl
  | ty n => cases (show u = Value.type n from r); rfl
section
variable {P : Program} {w : World} {H H' : Hp} {h h' : Heap} {a C dx : Addr} {fs fs' : List (Str × V)}
theorem ins_get (hok : HOk P w H h) (e : H a = some (.ins C dx fs)) : ∃ mA, ObjM h a dx C mA ∧ (∀ f, RelO (fs.lookup f) (mA f)) ∧ PySem.Within mA (fs.map (·.1)) ∧ fs.length ≤ 1000 ∧ H dx = some (.own a) := by
  obtain ⟨d, z, ne, ob, mA, n, r, q⟩ := (show ObjOk P w H h a (.ins C dx fs) from hok a _ e)
  exact ⟨mA, ⟨ob, n, ne⟩, r, q, z, d⟩
end
structure Cls (K : PySem.W.Frag) (C : Addr) : Prop where
  pg : PySem.W.plainGet K C Str.empty = true
  hd : PySem.W.hasDictIn K C = true
  po : PySem.W.plainOver K C = true
  sa : PySem.W.findIn K (.ref C) "__setattr__" = some (some (.builtin "object.__setattr__"))
theorem Cls.get {K : PySem.W.Frag} {C : Addr} (c : Cls K C) (f : Str) : PySem.W.plainGet K C f = true := c.pg
def NoAttr (K : PySem.W.Frag) (C : Addr) (f : Str) : Prop := PySem.W.findIn K (.ref C) f = some none
theorem NoAttr.taker {K : PySem.W.Frag} {C : Addr} {f : Str} (n : NoAttr K C f) : PySem.W.takerIn K C f = some none := by
  unfold PySem.W.takerIn
  rw [show PySem.W.findIn K (.ref C) f = some none from n]
  rfl
structure Con (K : PySem.W.Frag) (C : Addr) (f : Str) (v : V) (u : Value) : Prop where
  at_ : PySem.W.findIn K (.ref C) f = some (some u)
  rel : RelV v u
  get : PySem.W.specialIn K u "__get__" = some none
  cp : PySem.W.copiedNames.contains f = false
structure Meth (K : PySem.W.Frag) (C : Addr) (m : Str) (f : Addr) : Prop where
  at_ : PySem.W.findIn K (.ref C) m = some (some (.ref f))
  fn : PySem.W.isFn K (.ref f) = true
  kp : PySem.W.keepIn K (.ref f) = true
section
variable {X : Cx} {pins : List (Addr × Obj)} {σ : St} {H : Hp} {s : Shared} {a C dx : Addr} {fs : List (Str × V)} {f : Str} {v : V} {A : Around} {E : Value → Shared → Prop}
theorem getattr_ok {b : Bool} {Q : Value → Shared → Prop} (I : Inv X pins σ H s) (e : H a = some (.ins C dx fs)) (c : Cls X.K C) (n : NoAttr X.K C f) (l : fs.lookup f = some v)
    (h : ∀ u s', Inv X pins σ H s' → RelV v u → Q u s') : wpAny (model X.prog X.w) A (getAttr (.ref a) f b) Q E s := by
  obtain ⟨mA, O, r, _, _, _⟩ := ins_get I.hok e
  obtain ⟨u, hu, ru⟩ := RelO.some_of (v := v) (o := mA f) (by rw [← l]; exact r f)
  exact get_map I.kIn O (c.get f) c.hd n hu (handed_of ru) (h u _ (I.tok _) ru)
theorem getmeth_ok {m : Str} {g : Addr} {pl : Sem Bool} {Q : Value × List Value → Shared → Prop} (I : Inv X pins σ H s) (e : H a = some (.ins C dx fs)) (c : Cls X.K C) (k : Meth X.K C m g) (l : fs.lookup m = none)
    (h : Q (.ref g, [.ref a]) s) : wpAny (model X.prog X.w) A (getMethod (.ref a) m pl) Q E s := by
  obtain ⟨mA, O, r, _, _, _⟩ := ins_get I.hok e
  have hn : mA m = none := RelO.none_of (by rw [← l]; exact r m)
  exact get_meth I.kIn O (c.get m) k.at_ k.fn hn h
theorem setattr_ok {y : V} {u : Value} {Q : Unit → Shared → Prop} (I : Inv X pins σ H s) (e : H a = some (.ins C dx fs)) (c : Cls X.K C) (n : NoAttr X.K C f) (hl : fs.length < 1000) (ry : RelV y u)
    (h : ∀ s', Inv X pins σ (upd H a (.ins C dx (putF f y fs))) s' → Q () s') : wpAny (model X.prog X.w) A (setAttr (.ref a) f u) Q E s := by
  obtain ⟨mA, O, r, wi, _, ho⟩ := ins_get I.hok e
  have hz : (fs.map (·.1)).length ≤ sizeLine := by rw [List.length_map, sizeLine_eq]; omega
  refine set_map I.kIn O c.sa c.po n.taker c.hd wi hz fun h' O' sb => h _ ?_
  have hd : ∃ o, h'.get? dx = some o := let ⟨o, _, _, e', _⟩ := O'.ns; ⟨o, e'⟩
  refine I.write (x := a) (e := dx) (by rw [e]; exact True.intro) (.inr ho) (fun b q hb z => (sb.2 b hb).trans z) hd ?_
  refine ⟨by rw [upd_ne O.ne]; exact ho, ?_, O.ne, O'.obj, _, O'.ns, fun g => ?_, fun g hg => ?_⟩
  · have := length_putF f y fs; omega
  · show RelO ((putF f y fs).lookup g) (if g = f then some u else mA g)
    rw [lookup_putF]
    by_cases q : g = f
    · rw [if_pos q, if_pos q]; exact ry
    · rw [if_neg q, if_neg q]; exact r g
  · by_cases q : g = f
    · rw [q]; exact (keys_putF f y fs).1
    · refine (keys_putF f y fs).2 g (wi g fun z => hg ?_)
      show (if g = f then some u else mA g) = none
      rw [if_neg q]; exact z
theorem Inv.made (I : Inv X pins σ H s) : Inv X pins σ (upd (upd H s.heap.objs.size (.own (s.heap.objs.size + 1))) (s.heap.objs.size + 1) (.ins C s.heap.objs.size []))
    { s with heap := (s.heap.push PySem.W.emptyDict).push (PySem.W.instObj C s.heap.objs.size) } := by
  have e1 : (s.heap.push PySem.W.emptyDict).get? s.heap.objs.size = some PySem.W.emptyDict := Heap.get?_push_size s.heap rfl
  have e2 : ((s.heap.push PySem.W.emptyDict).push (PySem.W.instObj C s.heap.objs.size)).get? (s.heap.objs.size + 1) = some (PySem.W.instObj C s.heap.objs.size) := by
    have := Heap.get?_push_size (s.heap.push PySem.W.emptyDict) (o := PySem.W.instObj C s.heap.objs.size) rfl
    rwa [Heap.size_push] at this
  have e3 : (s.heap.push PySem.W.emptyDict).Ns s.heap.objs.size (fun _ => none) := ⟨PySem.W.emptyDict, #[], _, e1, rfl, (fun e he => absurd he (by simp)), fun _ => rfl⟩
  have I1 := I.laid (a := s.heap.objs.size) (o := .own (s.heap.objs.size + 1)) (h' := s.heap.push PySem.W.emptyDict) (t' := s.toks) (fun b u q => Heap.get?_push_of_some _ q) (Nat.le_refl _) ⟨_, e1⟩
  refine I1.laid (a := s.heap.objs.size + 1) (o := .ins C s.heap.objs.size []) (t' := s.toks) (fun b u q => Heap.get?_push_of_some _ q) (Nat.le_of_eq (Heap.size_push _ _)) ?_
  have ne : s.heap.objs.size ≠ s.heap.objs.size + 1 := Nat.ne_of_lt (Nat.lt_succ_self _)
  refine ⟨by rw [upd_ne ne, upd_same], Nat.zero_le _, ne, e2, fun _ => none, (Heap.Ns1.of_empty e3).at fun o q => Heap.get?_push_of_some _ q, fun _ => True.intro, fun y hy => absurd rfl hy⟩
theorem attr_of {prog : Program} {w : World} {env : Env} {e : Expr} {f : Str} {pos : Pos} {s : Shared} {Q : Value → Shared → Prop} (hb : attributeBase e f env (eval e env) = eval e env)
    (h : wpAny (model prog w) A (eval e env) (fun o s₁ => wpAny (model prog w) A (getAttr o f true) Q E s₁) E s) : wpAny (model prog w) A (eval (.Attribute e f pos) env) Q E s :=
  Attribute_any_ h (by rw [arm_eval_Attribute, hb])
end
def tFld (K : PySem.W.Frag) (ta : TE) (f : Str) : TE := fun σ H Q => ta σ H fun x H1 => ∃ a C dx fs v, x = .ref a ∧ H1 a = some (.ins C dx fs) ∧ Cls K C ∧ NoAttr K C f ∧ fs.lookup f = some v ∧ Q v H1
def sFld (K : PySem.W.Frag) (ta tv : TE) (f : Str) : TS := fun D σ H => tv σ H fun y H1 => ta σ H1 fun x H2 => ∃ a C dx fs, x = .ref a ∧ H2 a = some (.ins C dx fs) ∧ Cls K C ∧ NoAttr K C f ∧ fs.length < 1000 ∧
  D.nx σ (upd H2 a (.ins C dx (putF f y fs)))
section
variable {X : Cx} {o e value : Expr} {f : Str} {pos pos' tpos : Pos} {ta tv : TE}
theorem pe_fld (he : PE X e ta) (hb : attributeBase e f X.env (eval e X.env) = eval e X.env) : PE X (.Attribute e f pos) (tFld X.K ta f) := by
  intro pins s σ H Q I h
  refine attr_of hb (thn (he pins s σ H _ I h) fun u s1 ⟨x, H1, I1, rx, a, C, dx, fs, v, ex, ea, c, n, l, q⟩ => ?_)
  subst ex
  obtain rfl : u = Value.ref a := rx
  exact getattr_ok I1 ea c n l fun u' s2 I2 ru => ⟨v, H1, I2, ru, q⟩
theorem ps_fld (ha : PE X o ta) (hv : PE X value tv) (hs : swapsWith value (some (.Attribute o f pos')) pos.line X.env = pure false) : PS X (.Assign [.Attribute o f pos'] value pos) (sFld X.K ta tv f) := by
  intro pins s σ H D I h
  refine plainObj_wpAny_Assign_Attribute (thn (hv pins s σ H _ I h) fun u s1 ⟨y, H1, I1, ry, q⟩ => thn (ha pins s1 σ H1 _ I1 q) fun ov s2 ⟨x, H2, I2, rx, a, C, dx, fs, ex, ea, c, n, l, q2⟩ => ?_) hs
  subst ex
  obtain rfl : ov = Value.ref a := rx
  exact setattr_ok I2 ea c n l ry fun s3 I3 => ⟨σ, _, I3, q2⟩
end
section
variable {X : Cx} {pins : List (Addr × Obj)} {σ : St} {H : Hp} {s : Shared} {A : Around} {E : Value → Shared → Prop} {Q : Value → Shared → Prop} {c : Value} {b : Bool}
inductive TyOf (K : PySem.W.Frag) (H : Hp) : V → Value → Prop where
  | non : TyOf K H .non (.type "NoneType")
  | bl (x : Bool) : TyOf K H (.bl x) (.type "bool")
  | int (i : Int) : TyOf K H (.int i) (.type "int")
  | str (x : Str) : TyOf K H (.str x) (.type "str")
  | flt (x : UInt64) : TyOf K H (.flt x) (.type "float")
  | lst {a : Addr} {xs : List V} (e : H a = some (.lst xs)) : TyOf K H (.ref a) (.type "list")
  | frz {a : Addr} {o : Obj} {xs : List V} (e : H a = some (.frz o (.lst xs))) : TyOf K H (.ref a) (.type "list")
  | tup {a : Addr} {xs : List V} (e : H a = some (.tup xs)) : TyOf K H (.ref a) (.type "tuple")
  | dK {a : Addr} {kvs : List (Key × V)} (e : H a = some (.dK kvs)) : TyOf K H (.ref a) (.type "dict")
  | dT {a : Addr} {kvs : List (List Key × V)} (e : H a = some (.dT kvs)) : TyOf K H (.ref a) (.type "dict")
  | ins {a C dx : Addr} {fs : List (Str × V)} (e : H a = some (.ins C dx fs)) (cl : Cls K C) (ha : PySem.W.findIn K (.ref C) "__class__" = some (some (.builtin "object.__class__")))
      (hn : PySem.W.specialIn K (.builtin "object.__class__") "__get__" = some (some (.builtin "getset_descriptor.__get__"))) (htk : PySem.W.takesIn K (.builtin "object.__class__") = some true)
      (hm : PySem.W.mroIn K C (.type "object") = some true) : TyOf K H (.ref a) (.ref C)
theorem isinst_ok {x : V} {u t : Value} (I : Inv X pins σ H s) (rx : RelV x u) (ty : TyOf X.K H x t) (e : PySem.W.kitOne X.K t c = some b) (h : ∀ tk, Q (.bool b) { s with toks := tk }) :
    wpAny (model X.prog X.w) A (call (.builtin "isinstance") [u, c]) Q E s := by
  cases ty with
  | non => cases (show u = Value.none from rx); exact PySem.W.kia_one PySem.W.kitx_none I.kIn True.intro e (fun z => nomatch z) h
  | bl y => cases (show u = Value.bool y from rx); exact PySem.W.kia_one PySem.W.kitx_bool I.kIn True.intro e (fun z => nomatch z) h
  | int i => obtain ⟨t, q⟩ := (show ∃ t, u = Value.int i t from rx); cases q; exact PySem.W.kia_one PySem.W.kitx_int I.kIn True.intro e (fun z => nomatch z) h
  | str y => obtain ⟨t, q⟩ := (show ∃ t, u = Value.str y t from rx); cases q; exact PySem.W.kia_one PySem.W.kitx_str I.kIn True.intro e (fun z => nomatch z) h
  | flt y => obtain ⟨t, q⟩ := (show ∃ t, u = Value.float y t from rx); cases q; exact PySem.W.kia_one PySem.W.kitx_float I.kIn True.intro e (fun z => nomatch z) h
  | @lst a xs ea =>
    cases (show u = Value.ref a from rx)
    obtain ⟨_, _, n, _, h1⟩ := (show ObjOk X.prog X.w H s.heap a (.lst xs) from I.hok a _ ea)
    exact PySem.W.kia_one PySem.W.kitx_list I.kIn ⟨_, h1, rfl⟩ e (fun z => nomatch z) h
  | @frz a ob xs ea =>
    cases (show u = Value.ref a from rx)
    obtain ⟨_, _, _, n, _, h1⟩ := (show ObjOk X.prog X.w H s.heap a (.frz ob (.lst xs)) from I.hok a _ ea)
    exact PySem.W.kia_one PySem.W.kitx_list I.kIn ⟨_, h1, rfl⟩ e (fun z => nomatch z) h
  | @tup a xs ea =>
    cases (show u = Value.ref a from rx)
    obtain ⟨_, _, _, p⟩ := (show ObjOk X.prog X.w H s.heap a (.tup xs) from I.hok a _ ea)
    obtain ⟨o, h1, h2, _⟩ := p
    exact PySem.W.kia_one PySem.W.kitx_tuple I.kIn ⟨o, h1, h2⟩ e (fun z => nomatch z) h
  | @dK a kvs ea =>
    cases (show u = Value.ref a from rx)
    obtain ⟨_, _, vs, _, p⟩ := (show ObjOk X.prog X.w H s.heap a (.dK kvs) from I.hok a _ ea)
    obtain ⟨o, es, ep, h1, h2, _⟩ := p
    exact PySem.W.kia_one PySem.W.kitx_dict I.kIn ⟨o, h1, h2.1⟩ e (fun z => nomatch z) h
  | @dT a kvs ea =>
    cases (show u = Value.ref a from rx)
    obtain ⟨_, _, xs, _, o, es, ep, h1, h2, _⟩ := (show ObjOk X.prog X.w H s.heap a (.dT kvs) from I.hok a _ ea)
    exact PySem.W.kia_one PySem.W.kitx_dict I.kIn ⟨o, h1, h2.1⟩ e (fun z => nomatch z) h
  | @ins a C dx fs ea cl ha hn htk hm =>
    cases (show u = Value.ref a from rx)
    obtain ⟨mA, O, _⟩ := ins_get I.hok ea
    obtain ⟨od, J, _⟩ := O.look
    exact PySem.W.kia_one (PySem.W.kitx_own (cl.get _) cl.hd ha hn htk hm) I.kIn J e (fun z => nomatch z) h
end
end L2
namespace L2
open PySem PySem.Spec PyProof.Rows
structure Room (k : Nat) (A : Around) : Prop where
  hd : A.handled = none
  dp : A.depth + 3 * k + 5 < recursionLimit
  un : A.units + 16 * k + 200 < cLine
theorem Room.mono {j k : Nat} {A : Around} (r : Room k A) (h : j ≤ k) : Room j A := ⟨r.hd, by have := r.dp; omega, by have := r.un; omega⟩
theorem Room.deeper {k : Nat} {A : Around} (r : Room (k + 1) A) (env : Env) : Room k (A.deeper env) :=
  ⟨r.hd, by have := r.dp; show A.depth + 1 + 3 * k + 5 < _; omega, by have := r.un; show A.units + 3 + 16 * k + 200 < _; omega⟩
theorem Room.in1 {k : Nat} {A : Around} (r : Room (k + 1) A) : Room k A.in1 :=
  ⟨r.hd, by have := r.dp; show A.depth + 3 * k + 5 < _; omega, by have := r.un; show A.units + 1 + 16 * k + 200 < _; omega⟩
theorem make_depth {A : Around} {C : Addr} {us : List Value} {kw : List (Str × Value)} : (A.under (.builtin "type.__call__" ⟨.ref C :: us, kw⟩)).depth = A.depth + 1 := by
  first | rfl | simp [Around.under, Code.weight, Code.isCreation, Code.isGuard, Code.isCaller, Code.frames, Code.isFrame, guardIds]
theorem make_units {A : Around} {C : Addr} {us : List Value} {kw : List (Str × Value)} : (A.under (.builtin "type.__call__" ⟨.ref C :: us, kw⟩)).units = A.units + 1 := by
  first | rfl | simp [Around.under, Code.cUnits, Code.frames, Code.isFrame]
theorem Room.make {k : Nat} {A : Around} (r : Room (k + 1) A) (C : Addr) (us : List Value) (kw : List (Str × Value)) : Room k (A.under (.builtin "type.__call__" ⟨.ref C :: us, kw⟩)) :=
  ⟨r.hd, by have := r.dp; rw [make_depth]; omega, by have := r.un; rw [make_units]; omega⟩
theorem Room.depth {k : Nat} {A : Around} (r : Room k A) : A.depth < recursionLimit := by have := r.dp; omega
theorem Room.units {k : Nat} {A : Around} (r : Room k A) : A.units + 64 < cLine := by have := r.un; omega
def tNil : TA := fun _ H Q => Q [] H
def tCons (ta : TE) (tr : TA) : TA := fun σ H Q => ta σ H fun x H1 => tr σ H1 fun xs H2 => Q (x :: xs) H2
section
variable {X : Cx} {e : Expr} {es : List Expr} {te : TE} {t : TA} {pos : Pos}
theorem pa_nil : PA X [] tNil := fun _ _ _ _ H Q I h => Calls.spliced_nil ⟨[], H, I, .nil, h⟩
theorem pa_cons (ha : PE X e te) (hr : PA X es t) (hs : starEach (e :: es) X.env = (false, eval e X.env) :: starEach es X.env := by rfl) : PA X (e :: es) (tCons te t) := by
  intro pos pins s σ H Q I h
  rw [hs]
  show wpAny _ _ (spliced ((false, eval e X.env) :: backTo pos (starEach es X.env))) _ _ s
  refine Calls.spliced_cons (thn (ha pins s σ H _ I h) fun u s1 ⟨x, H1, I1, r1, q1⟩ => ?_)
  exact thn (hr pos pins s1 σ H1 _ I1 q1) fun us s2 ⟨xs, H2, I2, r2, q2⟩ => ⟨x :: xs, H2, I2, .cons r1 r2, q2⟩
def tTup (t : TA) : TE := fun σ H Q => t σ H fun xs H1 => xs.length ≤ sizeLine ∧ ∀ p, H1 p = none → Q (.ref p) (upd H1 p (.tup xs))
def tLst (t : TA) : TE := fun σ H Q => t σ H fun xs H1 => xs.length ≤ sizeLine ∧ ∀ p, H1 p = none → Q (.ref p) (upd H1 p (.lst xs))
theorem pe_tup {x1} (h : PA X es t) : PE X (.Tuple es x1 pos) (tTup t) := by
  intro pins s σ H Q I hq
  refine wpAny_Tuple_spliced (thn (h pos pins s σ H _ I hq) fun us s1 ⟨xs, H1, I1, r, z, q⟩ => ⟨by rw [← r.length]; exact z, ?_⟩)
  have hf : H1 s1.heap.objs.size = none := I1.hok.fresh (Nat.le_refl _)
  refine ⟨.ref s1.heap.objs.size, upd H1 s1.heap.objs.size (.tup xs), I1.laid (t' := s1.toks) (fun b u e => Heap.get?_push_of_some _ e) (Nat.le_refl _) ?_, rfl, q _ hf⟩
  exact ⟨z, us, r, ⟨_, Heap.get?_push_size _ rfl, rfl, _, rfl⟩⟩
theorem pe_lst (h : PA X es t) : PE X (.List es pos) (tLst t) := by
  intro pins s σ H Q I hq
  refine wpAny_List_spliced (thn (h pos pins s σ H _ I hq) fun us s1 ⟨xs, H1, I1, r, z, q⟩ => ⟨by rw [← r.length]; exact z, ?_⟩)
  have hf : H1 s1.heap.objs.size = none := I1.hok.fresh (Nat.le_refl _)
  refine ⟨.ref s1.heap.objs.size, upd H1 s1.heap.objs.size (.lst xs), I1.laid (t' := s1.toks) (fun b u e => Heap.get?_push_of_some _ e) (Nat.le_refl _) ?_, rfl, q _ hf⟩
  exact ⟨z, us, 0, r, Heap.get?_push_size _ rfl⟩
end
abbrev Sp := List V → Hp → VK → XK → Prop
abbrev CXT := List Env → Hp → Shared → XK → Value → Shared → Prop
structure Env0 (P : Program) (w : World) (K : PySem.W.Frag) (mg : Str → Option Value) (base : Heap) (A : Around) (outer : List Env) (s : Shared) (H : Hp) : Prop where
  frames : A.frames = some outer
  mod : Mod K mg base
  bs : ∀ b o, base.get? b = some o → s.heap.get? b = some o ∧ H b = none
  bsz : base.objs.size ≤ s.heap.objs.size
  funs : s.heap.FunFrames base outer
  frf : ∀ b ∈ frs outer, H b = none
  hok : HOk P w H s.heap
  bare : AllBare s.gens
def CE (outer : List Env) (P : Program) (w : World) (H : Hp) (s : Shared) (Q : VK) (u : Value) (s' : Shared) : Prop :=
  ∃ v H', s'.os = s.os ∧ AllBare s'.gens ∧ Un (frs outer) [] H H' s.heap s'.heap ∧ HOk P w H' s'.heap ∧ RelV v u ∧ Q v H'
def CR (CX : CXT) (outer : List Env) (P : Program) (w : World) (H : Hp) (s : Shared) (Q : VK) (E : XK) (r : Result) (s' : Shared) : Prop :=
  match r with
  | .ok (.ret u) => CE outer P w H s Q u s'
  | .ok _ => False
  | .error e => CX outer H s E e s'
structure FnOk (P : Program) (w : World) (K : PySem.W.Frag) (mg : Str → Option Value) (base : Heap) (CX : CXT) (k : Nat) (f : Addr) (fd : FuncData) (ps : List Str) (sp : Sp) : Prop where
  len : ∀ vs H Q E, sp vs H Q E → vs.length = ps.length
  run : ∀ (A : Around) (outer : List Env) (s : Shared) (H : Hp) (args : Args) (us : List Value) (vs : List V) (Q : VK) (E : XK), Room k A → Env0 P w K mg base A outer s H → BindsTo s fd args (ps.zip us) → Vals vs us → sp vs H Q E →
    codeAny (model P w) A (.call (.ref f) args) (CR CX outer P w H s Q E) s
theorem FnOk.mono {P : Program} {w : World} {K : PySem.W.Frag} {mg : Str → Option Value} {base : Heap} {CX : CXT} {j k : Nat} {f : Addr} {fd : FuncData} {ps : List Str} {sp : Sp} (F : FnOk P w K mg base CX j f fd ps sp) (h : j ≤ k) :
    FnOk P w K mg base CX k f fd ps sp := ⟨F.len, fun A outer s H args us vs Q E hr => F.run A outer s H args us vs Q E (hr.mono h)⟩
theorem Env0.make {P : Program} {w : World} {K : PySem.W.Frag} {mg : Str → Option Value} {base : Heap} {A : Around} {outer : List Env} {s : Shared} {H : Hp} (e : Env0 P w K mg base A outer s H) (C : Addr) (us : List Value) (kw : List (Str × Value)) :
    Env0 P w K mg base (A.under (.builtin "type.__call__" ⟨.ref C :: us, kw⟩)) outer s H := ⟨by first | exact e.frames | (simpa [Around.under, Code.envs, Code.isFrame, pushEnvs] using e.frames), e.mod, e.bs, e.bsz, e.funs, e.frf, e.hok, e.bare⟩
theorem Env0.in1 {P : Program} {w : World} {K : PySem.W.Frag} {mg : Str → Option Value} {base : Heap} {A : Around} {outer : List Env} {s : Shared} {H : Hp} (e : Env0 P w K mg base A outer s H) :
    Env0 P w K mg base A.in1 outer s H := ⟨e.frames, e.mod, e.bs, e.bsz, e.funs, e.frf, e.hok, e.bare⟩
section
variable {X : Cx} {pins : List (Addr × Obj)} {σ : St} {H : Hp} {s s' : Shared}
theorem Inv.env0 (I : Inv X pins σ H s) : Env0 X.prog X.w X.K X.mg X.base X.A X.stack s H :=
  ⟨I.ok.frames, I.ok.mod, I.bs, Nat.le_trans I.ok.bsz I.sz, I.stack, I.stkFree, I.hok, I.bare⟩
theorem Inv.after {Q : VK} {u : Value} (I : Inv X pins σ H s) (h : CE X.stack X.prog X.w H s Q u s') : EP X pins σ Q u s' := by
  obtain ⟨v, H', os, bare, un, hok, r, q⟩ := h
  obtain ⟨hh, g, d, t, os'⟩ := s'
  obtain rfl : os' = s.os := os
  exact ⟨v, H', I.call (h' := hh) (g' := g) (d' := d) (t' := t) (ch := []) un hok bare (fun b z => absurd z (by simp)), r, q⟩
end
def tCall (sp : Sp) (dvs : List V) (E : XK) (t : TA) : TE := fun σ H Q => t σ H fun vs H1 => sp (vs ++ dvs) H1 Q E
def tMeth (C : Addr) (m : Str) (sp : Sp) (dvs : List V) (E : XK) (ta : TE) (t : TA) : TE := fun σ H Q => ta σ H fun x H1 => ∃ a dx fs, x = .ref a ∧ H1 a = some (.ins C dx fs) ∧ fs.lookup m = none ∧
  t σ H1 fun vs H2 => sp (x :: (vs ++ dvs)) H2 Q E
def tMake (C : Addr) (sp : Sp) (dvs : List V) (E : XK) (t : TA) : TE := fun σ H Q => t σ H fun vs H1 => ∀ x dx, H1 x = none → H1 dx = none → dx ≠ x →
  sp (.ref x :: (vs ++ dvs)) (upd (upd H1 dx (.own x)) x (.ins C dx [])) (fun v H2 => v = .non ∧ Q (.ref x) H2) E
def Binds (K : PySem.W.Frag) (fd : FuncData) (ps : List Str) (ds : List Value) : Prop :=
  ∀ (s : Shared) (us : List Value), K.In s.heap → (us ++ ds).length = ps.length → BindsTo s fd ⟨us, []⟩ (ps.zip (us ++ ds))
theorem Binds.all {K : PySem.W.Frag} {fd : FuncData} {ps : List Str} (h : ∀ us : List Value, us.length = ps.length → bindArgs fd ⟨us, []⟩ = pure (ps.zip us)) : Binds K fd ps [] := fun s us _ hl => by
  rw [List.append_nil] at hl ⊢
  exact .of_eq (h us hl)
def Passes (CX : CXT) (X : Cx) (E : XK) : Prop := ∀ (pins : List (Addr × Obj)) (σ : St) (H : Hp) (s : Shared) (e : Value) (s' : Shared), Inv X pins σ H s → CX X.stack H s E e s' → X.xe e s'
section
variable {X : Cx} {CX : CXT} {k : Nat} {f C : Addr} {fd : FuncData} {ps : List Str} {sp : Sp} {dvs : List V} {ds : List Value} {E : XK} {x m : Str} {p pos apos : Pos} {e o : Expr} {es : List Expr} {ta : TE} {t : TA}
theorem run_fn {pins : List (Addr × Obj)} {σ : St} {H : Hp} {s : Shared} {Q : VK} {us : List Value} {vs : List V} (F : FnOk X.prog X.w X.K X.mg X.base CX k f fd ps sp) (hr : Room k X.A) (hb : Binds X.K fd ps ds) (hd : Vals dvs ds) (hx : Passes CX X E)
    (I : Inv X pins σ H s) (r : Vals vs us) (h : sp (vs ++ dvs) H Q E) : wpAny (model X.prog X.w) X.A (call (.ref f) us) (EP X pins σ Q) X.xe s := by
  have r2 : Vals (vs ++ dvs) (us ++ ds) := r.append hd
  have hl : (us ++ ds).length = ps.length := by rw [← r2.length]; exact F.len _ _ _ _ h
  refine wpAny_call (codeAny_mono (F.run X.A X.stack s H ⟨us, []⟩ (us ++ ds) (vs ++ dvs) Q E hr I.env0 (hb s us I.kIn hl) r2 h) fun r s' hq => ?_)
  cases r with
  | error e => exact hx pins σ H s e s' I hq
  | ok fl =>
    cases fl with
    | ret u => exact I.after hq
    | next => exact False.elim hq
    | brk => exact False.elim hq
    | cont => exact False.elim hq
theorem pe_call (F : FnOk X.prog X.w X.K X.mg X.base CX k f fd ps sp) (hr : Room k X.A) (hg : Gl X x) (hm : X.mg x = some (.ref f)) (hk : PySem.W.keepIn X.K (.ref f) = true) (hb : Binds X.K fd ps ds) (hd : Vals dvs ds) (hx : Passes CX X E)
    (ha : PA X (e :: es) t) (hdb : (x == ("__debug__" : Str)) = false := by decide) (he : starEach (e :: es) X.env = (false, eval e X.env) :: starEach es X.env := by rfl) (hpl : (backTo pos (starEach es X.env)).any (·.1) = false := by rfl) :
    PE X (.Call (.Name x p) (e :: es) [] pos) (tCall sp dvs E t) := by
  intro pins s σ H Q I h
  refine wpAny_Call_Name_kw (ld_glob I hg hm ?_ hdb)
  refine PySem.W.callWith_K (h₀ := X.base) I.ok.mod.kin hk (thn (ha pos pins s σ H _ I h) fun us s1 ⟨vs, H1, I1, r, q⟩ => ⟨I1.kIn, ?_⟩) he hpl
  exact run_fn F hr hb hd hx I1 r q
theorem pe_meth {pl : Sem Bool} (he : PE X o ta) (c : Cls X.K C) (hm : Meth X.K C m f) (F : FnOk X.prog X.w X.K X.mg X.base CX k f fd ps sp) (hr : Room k X.A) (hb : Binds X.K fd ps ds) (hd : Vals dvs ds) (hx : Passes CX X E) (ha : PA X (e :: es) t)
    (hst : starEach (e :: es) X.env = (false, eval e X.env) :: starEach es X.env := by rfl) (hpl : (backTo pos (starEach es X.env)).any (·.1) = false := by rfl)
    (ht : eval (.Call (.Attribute o m apos) (e :: es) [] pos) X.env = (do
      let ov ← eval o X.env
      standAt apos.atName
      let (f, first) ← holding [ov] (getMethod ov m pl)
      callWith pos f first (backTo pos (starEach (e :: es) X.env)) (backToKw pos (keywordEach [] X.env))) := by rfl) :
    PE X (.Call (.Attribute o m apos) (e :: es) [] pos) (tMeth C m sp dvs E ta t) := by
  intro pins s σ H Q I h
  refine PySem.W.methodCall_KW (pl := pl) (thn (he pins s σ H _ I h) fun u s1 ⟨x, H1, I1, rx, a, dx, fs, ex, ea, l, q⟩ => ?_) ht
  subst ex
  obtain rfl : u = Value.ref a := rx
  refine getmeth_ok I1 ea c hm l ?_
  refine PySem.W.callWith_K (first := [.ref a]) (h₀ := X.base) I.ok.mod.kin hm.kp (thn (ha pos pins s1 σ H1 _ I1 q) fun us s2 ⟨vs, H2, I2, r, q2⟩ => ⟨I2.kIn, ?_⟩) hst hpl
  exact run_fn (us := .ref a :: us) (vs := .ref a :: vs) F hr hb hd hx I2 (.cons rfl r) q2
structure Mk (K : PySem.W.Frag) (C f : Addr) : Prop where
  makes : PySem.W.makesIn K C = true
  init : PySem.W.findIn K (.ref C) "__init__" = some (some (.ref f))
  fn : PySem.W.isFn K (.ref f) = true
  kp : PySem.W.keepIn K (.ref C) = true
theorem run_make {pins : List (Addr × Obj)} {σ : St} {H : Hp} {s : Shared} {Q : VK} {us : List Value} {vs : List V} (M : Mk X.K C f) (F : FnOk X.prog X.w X.K X.mg X.base CX k f fd ps sp) (hr : Room (k + 1) X.A) (hb : Binds X.K fd ps ds) (hd : Vals dvs ds)
    (hx : Passes CX X E) (I : Inv X pins σ H s) (r : Vals vs us)
    (h : ∀ x dx, H x = none → H dx = none → dx ≠ x → sp (.ref x :: (vs ++ dvs)) (upd (upd H dx (.own x)) x (.ins C dx [])) (fun v H2 => v = .non ∧ Q (.ref x) H2) E) :
    wpAny (model X.prog X.w) X.A (call (.ref C) us) (EP X pins σ Q) X.xe s := by
  have hq := h (s.heap.objs.size + 1) s.heap.objs.size (I.hok.fresh (Nat.le_succ _)) (I.hok.fresh (Nat.le_refl _)) (Nat.ne_of_lt (Nat.lt_succ_self _))
  have I2 := Inv.made (C := C) I
  have r2 : Vals (V.ref (s.heap.objs.size + 1) :: (vs ++ dvs)) (Value.ref (s.heap.objs.size + 1) :: (us ++ ds)) := .cons rfl (r.append hd)
  have hl : (Value.ref (s.heap.objs.size + 1) :: us ++ ds).length = ps.length := by
    have e := r2.length
    rw [F.len _ _ _ _ hq] at e
    exact e.symm
  refine wpAny_call (make_map (f := f) I.kIn M.makes M.init (beq_iff_eq.mp M.fn) (codeAny_mono (F.run _ X.stack _ _ ⟨Value.ref (s.heap.objs.size + 1) :: us, []⟩ (Value.ref (s.heap.objs.size + 1) :: (us ++ ds)) _ _ E (hr.make C us [])
    (I2.env0.make C us []) (hb _ (Value.ref (s.heap.objs.size + 1) :: us) I2.kIn hl) r2 hq) fun r s' hq' => ?_))
  cases r with
  | error e => exact hx pins σ _ _ e s' I2 hq'
  | ok fl =>
    cases fl with
    | ret u =>
      obtain ⟨v, H', I3, rv, ev, q3⟩ := I2.after hq'
      subst ev
      exact ⟨rv, ⟨V.ref (s.heap.objs.size + 1), H', I3, rfl, q3⟩⟩
    | next => exact False.elim hq'
    | brk => exact False.elim hq'
    | cont => exact False.elim hq'
theorem pe_make (M : Mk X.K C f) (F : FnOk X.prog X.w X.K X.mg X.base CX k f fd ps sp) (hr : Room (k + 1) X.A) (hg : Gl X x) (hm : X.mg x = some (.ref C)) (hb : Binds X.K fd ps ds) (hd : Vals dvs ds) (hx : Passes CX X E)
    (ha : PA X (e :: es) t) (hdb : (x == ("__debug__" : Str)) = false := by decide) (he : starEach (e :: es) X.env = (false, eval e X.env) :: starEach es X.env := by rfl) (hpl : (backTo pos (starEach es X.env)).any (·.1) = false := by rfl) :
    PE X (.Call (.Name x p) (e :: es) [] pos) (tMake C sp dvs E t) := by
  intro pins s σ H Q I h
  refine wpAny_Call_Name_kw (ld_glob I hg hm ?_ hdb)
  refine PySem.W.callWith_K (h₀ := X.base) I.ok.mod.kin M.kp (thn (ha pos pins s σ H _ I h) fun us s1 ⟨vs, H1, I1, r, q⟩ => ⟨I1.kIn, ?_⟩) he hpl
  exact run_make M F hr hb hd hx I1 r q
end
section
variable {X : Cx} {CX : CXT} {k : Nat} {f C : Addr} {fd : FuncData} {ps ks : List Str} {sp : Sp} {E : XK} {x m : Str} {p pos apos kpos : Pos} {e o : Expr} {es : List Expr} {kws : List Keyword} {te ta : TE} {t tk : TA} {nm : Option Str}
structure KBinds (K : PySem.W.Frag) (fd : FuncData) (ps ks : List Str) (g : List Value → List Value → List Value) (gV : List V → List V → List V) : Prop where
  to : ∀ (s : Shared) (us ws : List Value), K.In s.heap → (g us ws).length = ps.length → BindsTo s fd ⟨us, ks.zip ws⟩ (ps.zip (g us ws))
  rel : ∀ {vs : List V} {us : List Value} {zs : List V} {ws : List Value}, Vals vs us → Vals zs ws → Vals (gV vs zs) (g us ws)
variable {g : List Value → List Value → List Value} {gV : List V → List V → List V}
end
structure FnScope (N P : List Str) (sc : Scope) : Prop where
  kind : sc.kind = .function
  co : sc.isCoroutine = false
  gen : sc.isGenerator = false
  nd : N.Nodup
  pre : N.take P.length = P
  par : ∀ x ∈ P, sc.names.lookup x = some .local ∨ sc.names.lookup x = some .cell
  nofree : ∀ y ∈ sc.names, y.2 ≠ .free
theorem bindL_out {kindOf : Str → Option NameKind} {x : Str} : ∀ {binds : List (Str × Value)} {m : Str → Option Value}, (∀ v, (x, v) ∉ binds) → bindL kindOf binds m x = m x
  | [], _, _ => rfl
  | (n, v) :: r, m, h => by
    unfold bindL
    rw [bindL_out fun w hw => h w (List.mem_cons_of_mem _ hw)]
    split
    · have : x ≠ n := by rintro rfl; exact h v List.mem_cons_self
      simp [this]
    · rfl
theorem bindC_out {kindOf : Str → Option NameKind} {x : Str} : ∀ {binds : List (Str × Value)} {m : Str → Option Value}, (∀ v, (x, v) ∉ binds) → bindC kindOf binds m x = m x
  | [], _, _ => rfl
  | (n, v) :: r, m, h => by
    unfold bindC
    rw [bindC_out fun w hw => h w (List.mem_cons_of_mem _ hw)]
    split
    · rfl
    · have : x ≠ n := by rintro rfl; exact h v List.mem_cons_self
      simp [this]
theorem bindL_get {kindOf : Str → Option NameKind} {x : Str} {v : Value} : ∀ {P : List Str} {vs : List Value} {i : Nat} {m : Str → Option Value}, P.Nodup → P[i]? = some x → vs[i]? = some v → kindOf x = some .local →
    bindL kindOf (P.zip vs) m x = some v
  | [], _, _, _, _, h, _, _ => by simp at h
  | _ :: _, [], _, _, _, _, h, _ => by simp at h
  | p :: P, w :: vs, 0, m, nd, h1, h2, hk => by
    simp at h1 h2; subst h1; subst h2
    show bindL kindOf ((p, w) :: P.zip vs) m p = _
    unfold bindL
    rw [bindL_out fun v hv => (List.nodup_cons.mp nd).1 (List.of_mem_zip hv).1, if_pos hk]
    simp
  | p :: P, w :: vs, i + 1, m, nd, h1, h2, hk => by
    show bindL kindOf ((p, w) :: P.zip vs) m x = _
    unfold bindL
    exact bindL_get (i := i) (List.nodup_cons.mp nd).2 (by simpa using h1) (by simpa using h2) hk
theorem bindC_get {kindOf : Str → Option NameKind} {x : Str} {v : Value} : ∀ {P : List Str} {vs : List Value} {i : Nat} {m : Str → Option Value}, P.Nodup → P[i]? = some x → vs[i]? = some v → kindOf x ≠ some .local →
    bindC kindOf (P.zip vs) m x = some v
  | [], _, _, _, _, h, _, _ => by simp at h
  | _ :: _, [], _, _, _, _, h, _ => by simp at h
  | p :: P, w :: vs, 0, m, nd, h1, h2, hk => by
    simp at h1 h2; subst h1; subst h2
    show bindC kindOf ((p, w) :: P.zip vs) m p = _
    unfold bindC
    rw [bindC_out fun v hv => (List.nodup_cons.mp nd).1 (List.of_mem_zip hv).1, if_neg hk]
    simp
  | p :: P, w :: vs, i + 1, m, nd, h1, h2, hk => by
    show bindC kindOf ((p, w) :: P.zip vs) m x = _
    unfold bindC
    exact bindC_get (i := i) (List.nodup_cons.mp nd).2 (by simpa using h1) (by simpa using h2) hk
def start (N : List Str) (vs : List V) : St := vs.map some ++ List.replicate (N.length - vs.length) none
def cxOf (CX : CXT) (P : Program) (w : World) (K : PySem.W.Frag) (mg : Str → Option Value) (base : Heap) (N : List Str) (qual : Str) (scope : Scope) (f : Addr) (cd : Value) (A : Around) (outer : List Env) (s : Shared) (H : Hp) (E : XK) : Cx where
  prog := P
  w := w
  K := K
  mg := mg
  base := base
  A := A.deeper (envOfC qual scope s.heap.objs.size f cd)
  N := N
  s₀ := s
  H₀ := H
  env := envOfC qual scope s.heap.objs.size f cd
  outer := outer
  stack := envOfC qual scope s.heap.objs.size f cd :: outer
  ex := []
  calm := true
  fn := fun _ => true
  pn := []
  xe := fun e s' => wpAny (model P w) (A.deeper (envOfC qual scope s.heap.objs.size f cd)) (leaving (envOfC qual scope s.heap.objs.size f cd) e) (fun _ s'' => CX outer H s E e s'') (fun e' s'' => CX outer H s E e' s'') s'
theorem cell_has {sc : Scope} {n : Nat} {x : Str} (h : sc.names.lookup x = some .cell) : ∃ c, (cellsFrom n sc.names []).lookup x = some c := by
  have q := PySem.W.cellsFrom_some sc.names n [] (.inl h)
  exact Option.isSome_iff_exists.mp q
theorem inv_start {CX : CXT} {P : Program} {w : World} {K : PySem.W.Frag} {mg : Str → Option Value} {base : Heap} {N ps : List Str} {qual : Str} {scope : Scope} {f : Addr} {cd : Value} {A : Around} {outer : List Env} {s s1 : Shared} {H : Hp} {E : XK} {us : List Value} {vs : List V}
    (S : FnScope N ps scope) (hd : A.handled = none) (e0 : Env0 P w K mg base A outer s H) (hl : vs.length = ps.length) (r : Vals vs us)
    (x : InCallC s s.heap.objs.size (bindL (envOfC qual scope s.heap.objs.size f cd).kindOf (ps.zip us) fun _ => none) (cellsFrom (s.heap.objs.size + 1) scope.names []) (bindC (envOfC qual scope s.heap.objs.size f cd).kindOf (ps.zip us) fun _ => none) s1) :
    Inv (cxOf CX P w K mg base N qual scope f cd A outer s H E) [] (start N vs) H s1 := by
  have hpl : ps.length ≤ N.length := by have := congrArg List.length S.pre; rw [List.length_take] at this; omega
  obtain ⟨h1, tk, rfl, hk⟩ := x.done
  have noA : ∀ b : Addr, b ∉ (cxOf CX P w K mg base N qual scope f cd A outer s H E).ex := fun b z => absurd (show b ∈ ([] : List Addr) from z) (by simp)
  refine ⟨⟨e0.mod, S.kind, rfl, rfl, Nat.le_refl _, fun y z c h1 h2 => ?_, fun y hy => ?_, fun y c _ h => ?_, fun _ => hd, Around.frames_deeper e0.frames, .inr ⟨rfl, rfl⟩, fun b z => absurd z (noA b), e0.bs, e0.bsz, fun b _ _ => noA b, fun b z => absurd z (noA b), e0.funs, e0.frf⟩,
    rfl, e0.bare, Un.kept hk, ⟨_, x.toInCall.ns, fun i y v h1 h2 h3 => ?_⟩, fun y c h => ⟨_, x.cell y c h⟩, e0.hok.fresh (Nat.le_refl _), fun y c h => ?_, fun p hp => absurd (show p ∈ ([] : List (Addr × Obj)) from hp) (by simp), e0.hok.kept hk, ?_⟩
  · exact name_of_addr x.apart (PySem.mem_of_lookup h1) (PySem.mem_of_lookup h2)
  · have hy : scope.names.lookup y = some .cell ∨ scope.names.lookup y = some .free := hy
    rcases hy with hy | hy
    · exact cell_has hy
    · exact absurd rfl (S.nofree _ (PySem.mem_of_lookup hy))
  · exact Nat.le_of_lt (x.above y c (PySem.mem_of_lookup h))
  · have hi : i < vs.length := by
      unfold start at h2
      by_cases hi : i < vs.length
      · exact hi
      · rw [List.getElem?_append_right (by simpa using hi)] at h2
        rw [List.getElem?_replicate] at h2
        split at h2 <;> cases h2
    have ha : vs[i]? = some v := by
      unfold start at h2
      rw [List.getElem?_append_left (by simpa using hi), List.getElem?_map] at h2
      cases e : vs[i]? with
      | none => rw [e] at h2; cases h2
      | some a => rw [e] at h2; cases h2; rfl
    obtain ⟨u, hu, rv⟩ := r.get ha
    have hp : ps[i]? = some y := by
      rw [← S.pre, List.getElem?_take_of_lt (by omega)]; exact h1
    have ndP : ps.Nodup := by rw [← S.pre]; exact S.nd.sublist (List.take_sublist _ _)
    refine ⟨u, rv, ?_⟩
    rcases S.par y (List.mem_of_getElem? hp) with k | k
    · exact .inl ⟨k, bindL_get ndP hp hu k⟩
    · obtain ⟨c, e⟩ := cell_has (n := s.heap.objs.size + 1) k
      refine .inr ⟨.inl k, c, e, ?_⟩
      have q := x.cell y c e
      rw [bindC_get ndP hp hu (by show scope.names.lookup y ≠ _; rw [k]; decide)] at q
      exact q
  · exact e0.hok.fresh (Nat.le_of_lt (x.above y c (PySem.mem_of_lookup h)))
  · unfold start
    show _ = N.length
    rw [List.length_append, List.length_map, List.length_replicate]
    omega
theorem fn_of {CX : CXT} {P : Program} {w : World} {K : PySem.W.Frag} {mg : Str → Option Value} {base : Heap} {k : Nat} {f : Addr} {name qual : Str} {params : Arguments} {body : List Stmt} {scope : Scope} {dV kV doc pm cdv ct oc : Value} {an od : Option Addr}
    {osl : Array (Option Value)} {N ps : List Str} {sp : Sp} (lk : K.lookup f = some ⟨oc, od, .func (PySem.W.fnOf name qual params body scope dV kV doc pm an cdv ct), osl⟩) (hcd : PySem.W.codeIn K cdv qual = true) (S : FnScope N ps scope)
    (len : ∀ vs H Q E, sp vs H Q E → vs.length = ps.length)
    (hbody : ∀ (A : Around) (outer : List Env) (s : Shared) (H : Hp) (vs : List V) (Q : VK) (E : XK), Room k (A.deeper (envOfC qual scope s.heap.objs.size f cdv)) → sp vs H Q E →
      ∃ t, PSs (cxOf CX P w K mg base N qual scope f cdv A outer s H E) body t ∧ t { nx := fun _ H' => Q .non H', rt := Q } (start N vs) H) :
    FnOk P w K mg base CX (k + 1) f (PySem.W.fnOf name qual params body scope dV kV doc pm an cdv ct) ps sp := by
  refine ⟨len, fun A outer s H args us vs Q E hr e0 hb r hsp => ?_⟩
  have hl := len _ _ _ _ hsp
  have KX : K.In s.heap := e0.mod.kin.keeps fun b o e => (e0.bs b o e).1
  have lim : s.heap.NoLimit := e0.mod.nolimit.keeps fun b o e => (e0.bs b o e).1
  have hkind : ∀ y ∈ ps.zip us, scope.names.lookup y.1 = some .local ∨ (scope.names.lookup y.1 = some .cell ∧ ((cellsFrom (s.heap.objs.size + 1) scope.names []).lookup y.1).isSome = true) := fun ⟨n, v⟩ hy => by
    rcases S.par n (List.of_mem_zip hy).1 with q | q
    · exact .inl q
    · exact .inr ⟨q, PySem.W.cellsFrom_some _ _ _ (.inl q)⟩
  refine codeAny_call_function hr.depth (KX _ _ lk) rfl S.co S.gen rfl (PySem.W.codeRec_of KX hcd) (hb _ _ _ _ ?_)
  refine wpAny_newFunctionEnv_cells S.kind hkind fun env he s1 x => ?_
  subst he
  refine ⟨lim.keeps x.toInCall.keep, codeAny_func ?_⟩
  obtain ⟨t, ht, hq⟩ := hbody A outer s H vs Q E (hr.deeper _) hsp
  have I : Inv (cxOf CX P w K mg base N qual scope f cdv A outer s H E) [] (start N vs) H s1 := inv_start S hr.hd e0 hl r x
  refine wpAny_mono (ht [] s1 (start N vs) H _ I hq) (fun fl s' hs => ?_) fun e s' hs => hs
  have fin : ∀ {σ' : St} {H' : Hp} {v : V} {u : Value}, Inv (cxOf CX P w K mg base N qual scope f cdv A outer s H E) [] σ' H' s' → RelV v u → Q v H' → CE outer P w H s Q u s' :=
    fun {σ' H' v u} J rv q => ⟨v, H', J.os, J.bare, J.base, J.hok, rv, q⟩
  cases fl with
  | ret u =>
    obtain ⟨v, σ', H', J, rv, q⟩ := hs
    exact fin J rv q
  | next =>
    obtain ⟨σ', H', J, q⟩ := hs
    exact fin (v := V.non) (u := Value.none) J rfl q
  | brk =>
    obtain ⟨_, _, _, q⟩ := hs
    exact False.elim q
  | cont =>
    obtain ⟨_, _, _, q⟩ := hs
    exact False.elim q
end L2
namespace L2
open PySem PySem.Spec PyProof.Rows
section
variable {X : Cx} {x : Str} {p pos : Pos} {e : Expr} {es : List Expr} {t : TA} {id T : String} {r : List V → Hp → VK → Prop}
def tCB (r : List V → Hp → VK → Prop) (t : TA) : TE := fun σ H Q => t σ H fun vs H1 => r vs H1 Q
theorem pe_callB (hc : CallR X (.builtin id) r) (hg : Gl X x) (hm : X.mg x = none) (hv : bootBuiltins x = some (.builtin id)) (ha : PA X (e :: es) t) (hn : x ≠ "__name__" := by decide) (hdb : (x == ("__debug__" : Str)) = false := by decide)
    (he : starEach (e :: es) X.env = (false, eval e X.env) :: starEach es X.env := by rfl) (hpl : (backTo pos (starEach es X.env)).any (·.1) = false := by rfl) : PE X (.Call (.Name x p) (e :: es) [] pos) (tCB r t) := by
  intro pins s σ H Q I h
  refine wpAny_Call_Name_kw (ld_blt I hg hm hv ?_ hn hdb)
  exact PyProof.Rows.callWith_builtin1 (thn (ha pos pins s σ H _ I h) fun us s1 ⟨vs, H1, I1, r1, q1⟩ => hc pins s1 σ H1 vs us Q I1 r1 q1) he hpl
theorem pe_callTy (hc : CallR X (.type T) r) (hg : Gl X x) (hm : X.mg x = none) (hv : bootBuiltins x = some (.type T)) (ha : PA X (e :: es) t) (hn : x ≠ "__name__" := by decide) (hdb : (x == ("__debug__" : Str)) = false := by decide)
    (he : starEach (e :: es) X.env = (false, eval e X.env) :: starEach es X.env := by rfl) (hpl : (backTo pos (starEach es X.env)).any (·.1) = false := by rfl) : PE X (.Call (.Name x p) (e :: es) [] pos) (tCB r t) := by
  intro pins s σ H Q I h
  refine wpAny_Call_Name_kw (ld_blt I hg hm hv ?_ hn hdb)
  exact PyProof.Rows.callWith_type1 (thn (ha pos pins s σ H _ I h) fun us s1 ⟨vs, H1, I1, r1, q1⟩ => hc pins s1 σ H1 vs us Q I1 r1 q1) he hpl
end
end L2
namespace HT
open PySem PyProof.Rows
section
open PySem.SeqAt
open PySem.AutoSeq1 (wpAny_loadPart')
open PySem.MeetsSeq PySem.MeetsSeq2 PySem.MeetsSeq3
end
section
variable {prog : Program} {w : World} {A : Around} {E : Value → Shared → Prop} {s : Shared}
def sIx (n d : Nat) : Option Int → Nat
  | none => d
  | some v => if v < 0 then (v + (n : Int)).toNat else min v.toNat n
end
end HT
namespace L2
open PySem PySem.Spec PyProof.Rows
abbrev TO := St → Hp → (Option Int → Hp → Prop) → Prop
def PO (X : Cx) (e : Option Expr) (t : TO) : Prop :=
  ∀ (pins : List (Addr × Obj)) (s : Shared) (σ : St) (H : Hp) (Q : Option Int → Hp → Prop), Inv X pins σ H s → t σ H Q →
    wpAny (model X.prog X.w) X.A (evalPart e X.env) (fun u s' => ∃ o H', Inv X pins σ H' s' ∧ IsPart u o ∧ Q o H') X.xe s
def tNoPart : TO := fun _ H Q => Q none H
def tPart (t : TE) : TO := fun σ H Q => t σ H fun x H1 => ∃ i, x = .int i ∧ Q (some i) H1
section
variable {X : Cx} {e : Expr} {te : TE} {lo hi : Option Expr} {tl th : TO} {pos p2 : Pos}
theorem po_none : PO X none tNoPart := by
  intro pins s σ H Q I h
  rw [evalPart_none]
  exact wpAny_pure ⟨none, H, I, .none, h⟩
theorem po_some (h : PE X e te) : PO X (some e) (tPart te) := by
  intro pins s σ H Q I hw
  rw [evalPart_some]
  refine thn (h pins s σ H _ I hw) fun u s1 ⟨x, H1, I1, r1, q1⟩ => ?_
  obtain ⟨i, rfl, q⟩ := q1
  obtain ⟨t, rfl⟩ := r1
  exact ⟨some i, H1, I1, .int i t, q⟩
def SlR (X : Cx) (r : V → Option Int → Option Int → Hp → VK → Prop) : Prop :=
  ∀ (pins : List (Addr × Obj)) (s : Shared) (σ : St) (H : Hp) (x : V) (v vl vu : Value) (lo hi : Option Int) (sl : Addr) (Q : VK), Inv X pins σ H s → RelV x v → s.heap.IsSliceOf sl vl vu .none → IsPart vl lo → IsPart vu hi → r x lo hi H Q →
    ∃ T id, typeLookup (.type T) "__getitem__" = pure (some (.builtin id)) ∧ s.TypeIs v T ∧ wpAny (model X.prog X.w) X.A (getItem v (.ref sl)) (EP X pins σ Q) X.xe s
def tSl (r : V → Option Int → Option Int → Hp → VK → Prop) (te : TE) (tl th : TO) : TE := fun σ H Q => te σ H fun x H1 => tl σ H1 fun l H2 => th σ H2 fun u H3 => r x l u H3 Q
theorem pe_slice {r : V → Option Int → Option Int → Hp → VK → Prop} (hr : SlR X r) (he : PE X e te) (hl : PO X lo tl) (hu : PO X hi th) : PE X (.Subscript e (.Slice lo hi none p2) pos) (tSl r te tl th) := by
  intro pins s σ H Q I h
  refine Subscript_ (thn (he pins s σ H _ I h) fun v s1 ⟨x, H1, I1, r1, q1⟩ => ?_)
  refine wpAny_Slice (thn (hl pins s1 σ H1 _ I1 q1) fun vl s2 ⟨l, H2, I2, pl, q2⟩ => thn (hu pins s2 σ H2 _ I2 q2) fun vu s3 ⟨u, H3, I3, pu, q3⟩ => ?_)
  rw [evalPart_none]
  refine wpAny_pure ?_
  have I4 : Inv X pins σ H3 { s3 with heap := s3.heap.push { cls := .type "slice", data := .fields #[vl, vu, .none] } } := I3.kept (t' := s3.toks) fun b ob q => Heap.get?_push_of_some _ q
  obtain ⟨T, id, hT, ht, hg⟩ := hr pins { s3 with heap := s3.heap.push { cls := .type "slice", data := .fields #[vl, vu, .none] } } σ H3 x v vl vu l u s3.heap.objs.size Q I4 r1 (Heap.IsSliceOf.new ..) pl pu q3
  show wpAny (model X.prog X.w) X.A (subscriptTail e (.Slice lo hi none p2) v (.ref s3.heap.objs.size)) (EP X pins σ Q) X.xe { s3 with heap := s3.heap.push { cls := .type "slice", data := .fields #[vl, vu, .none] } }
  exact tail_any (ops := [.ref s3.heap.objs.size, v]) ht hT hg (by with_unfolding_all rfl)
def cutV (xs : List V) (lo hi : Option Int) : List V := (xs.drop (HT.sIx xs.length 0 lo)).take (HT.sIx xs.length xs.length hi - HT.sIx xs.length 0 lo)
theorem cutV_length (xs : List V) (lo hi : Option Int) : (cutV xs lo hi).length ≤ xs.length := by
  unfold cutV
  rw [List.length_take, List.length_drop]
  omega
def rSlT (K : PySem.W.Frag) : V → Option Int → Option Int → Hp → VK → Prop := fun x lo hi H Q => ∃ a xs, x = .ref a ∧ SqT K H a xs ∧
  ¬ (HT.sIx xs.length 0 lo = 0 ∧ HT.sIx xs.length xs.length hi = xs.length) ∧ ∀ p, H p = none → Q (.ref p) (upd H p (.tup (cutV xs lo hi)))
def rCatT (K : PySem.W.Frag) : R2 := fun x y H Q => ∃ a b xs ys, x = .ref a ∧ y = .ref b ∧ SqT K H a xs ∧ SqT K H b ys ∧ xs ≠ [] ∧ xs.length + ys.length ≤ sizeLine ∧
  (ys = [] → Q (.ref a) H) ∧ (ys ≠ [] → ∀ p, H p = none → Q (.ref p) (upd H p (.tup (xs ++ ys))))
end
end L2
namespace L2
open PySem PySem.Spec PyProof.Rows
def ixN (n : Nat) (i : Int) : Option Nat := if 0 ≤ i then (if i < n then some i.toNat else none) else if -(n : Int) ≤ i then some (i + n).toNat else none
def atI {α : Type} (xs : List α) (i : Int) : Option α := (ixN xs.length i).bind fun j => xs[j]?
theorem ixN_seq {n : Nat} {i : Int} {j : Nat} (h : ixN n i = some j) : seqIndex? i n = some j ∧ j < n ∧ -(n : Int) ≤ i ∧ i < n := by
  unfold ixN at h
  by_cases h0 : 0 ≤ i
  · rw [if_pos h0] at h
    by_cases h1 : i < n
    · rw [if_pos h1] at h
      have e : i.toNat = j := Option.some.inj h
      exact ⟨by rw [seqIndex_of h0 h1, e], by omega, by omega, h1⟩
    · rw [if_neg h1] at h; cases h
  · rw [if_neg h0] at h
    by_cases h1 : -(n : Int) ≤ i
    · rw [if_pos h1] at h
      have e : (i + n).toNat = j := Option.some.inj h
      exact ⟨by rw [seqIndex_neg (by omega) h1, e], by omega, h1, by omega⟩
    · rw [if_neg h1] at h; cases h
theorem atI_get {α : Type} {xs : List α} {i : Int} {v : α} (h : atI xs i = some v) : ∃ j, seqIndex? i xs.length = some j ∧ xs[j]? = some v ∧ j < xs.length ∧ -(xs.length : Int) ≤ i ∧ i < xs.length := by
  unfold atI at h
  cases e : ixN xs.length i with
  | none => rw [e] at h; cases h
  | some j =>
    rw [e] at h
    obtain ⟨h1, h2, h3, h4⟩ := ixN_seq e
    exact ⟨j, h1, h, h2, h3, h4⟩
theorem atI_nat {α : Type} {xs : List α} {j : Nat} {v : α} (h : xs[j]? = some v) : atI xs (j : Int) = some v := by
  have hj : j < xs.length := (List.getElem?_eq_some_iff.mp h).1
  have e : ixN xs.length (j : Int) = some j := by
    unfold ixN
    rw [if_pos (by omega), if_pos (by omega)]; simp
  unfold atI; rw [e]; exact h
theorem atI_last {α : Type} (xs : List α) (v : α) : atI (xs ++ [v]) (-1) = some v := by
  have hl : (xs ++ [v]).length = xs.length + 1 := by simp
  have e : ixN (xs ++ [v]).length (-1) = some xs.length := by
    unfold ixN
    rw [hl, if_neg (by decide), if_pos (by omega)]
    congr 1
    omega
  unfold atI
  rw [e]
  show (xs ++ [v])[xs.length]? = some v
  simp
def PlainIx (b : Expr) : Prop := ∀ o i, subscripted b false o i = operate [o, i] (getItem o i)
def IxR (X : Cx) (r : R2) : Prop :=
  ∀ (value slice : Expr) (pins : List (Addr × Obj)) (s : Shared) (σ : St) (H : Hp) (x y : V) (v u : Value) (Q : VK), Inv X pins σ H s → RelV x v → RelV y u → r x y H Q →
    subscripted slice false v u = operate [v, u] (getItem v u) → wpAny (model X.prog X.w) X.A (subscriptTail value slice v u) (EP X pins σ Q) X.xe s
def MtR (X : Cx) (id : String) (r : V → List V → Hp → VK → Prop) : Prop :=
  ∀ (pins : List (Addr × Obj)) (s : Shared) (σ : St) (H : Hp) (x : V) (xs : List V) (v : Value) (us : List Value) (Q : VK), Inv X pins σ H s → RelV x v → Vals xs us → r x xs H Q →
    wpAny (model X.prog X.w) X.A (call (.builtin id) (v :: us)) (EP X pins σ Q) X.xe s
section
variable {X : Cx} {a b : Expr} {ta tb : TE} {pos : Pos}
theorem pe_ix {r : R2} (hr : IxR X r) (ha : PE X a ta) (hb : PE X b tb) (hs : PlainIx b) : PE X (.Subscript a b pos) (tOp r ta tb) := by
  intro pins s σ H Q I h
  exact Subscript_ (binT ha hb I h fun v u s2 x y H2 I2 rx ry q => hr a b pins s2 σ H2 x y v u Q I2 rx ry q (hs _ _))
def rIxL (K : PySem.W.Frag) : R2 := fun x y H Q => ∃ p xs i v, x = .ref p ∧ y = .int i ∧ SqL K H p xs ∧ atI xs i = some v ∧ Q v H
def rIxT (K : PySem.W.Frag) : R2 := fun x y H Q => ∃ p xs i v, x = .ref p ∧ y = .int i ∧ SqT K H p xs ∧ atI xs i = some v ∧ Q v H
def rIxS : R2 := fun x y H Q => ∃ z i c, x = .str z ∧ y = .int i ∧ z.length ≤ sizeLine ∧ atI z.cps.toList i = some c ∧ Q (.str ⟨#[c]⟩) H
theorem ix_list : IxR X (rIxL X.K) := by
  intro value slice pins s σ H x y v u Q I rx ry h hs
  obtain ⟨p, xs, i, z, rfl, rfl, hq, he, q⟩ := h
  cases rx
  obtain ⟨t, rfl⟩ := ry
  obtain ⟨its, r, pl, hz⟩ := I.list hq
  obtain ⟨j, h1, h2, h3, h4, h5⟩ := atI_get he
  obtain ⟨w, ew, rw'⟩ := r.get h2
  have hl := r.length
  have hn := line63
  have fin : EP X pins σ Q w s := ⟨z, H, I, rw', q⟩
  by_cases h0 : 0 ≤ i
  · have hj : i.toNat = j := by
      rw [seqIndex_of h0 h5] at h1
      exact Option.some.inj h1
    exact item_listR pl.isList h0 (by omega) (by rw [hj]; simpa using ew) fin hs
  · have hj : (i + (its.toArray.size : Int)).toNat = j := by
      rw [seqIndex_neg (by omega) h4] at h1
      rw [List.size_toArray, ← hl]
      exact Option.some.inj h1
    exact subscriptTail_builtinR (x := w) pl.isList.typeIs slot_list_getitem.lookup
      (wpAny_getItem_list_neg (Q := fun r s' => r = w ∧ EP X pins σ Q r s') pl.isList (by omega) (by rw [List.size_toArray] <;> omega) (by omega) (by rw [hj]; simpa using ew) ⟨rfl, fin⟩) hs
theorem ix_tup : IxR X (rIxT X.K) := by
  intro value slice pins s σ H x y v u Q I rx ry h hs
  obtain ⟨p, xs, i, z, rfl, rfl, hq, he, q⟩ := h
  cases rx
  obtain ⟨t, rfl⟩ := ry
  obtain ⟨its, r, pl, hz⟩ := I.tuple hq
  obtain ⟨j, h1, h2, h3, h4, h5⟩ := atI_get he
  obtain ⟨w, ew, rw'⟩ := r.get h2
  have hl := r.length
  have hn := line63
  have fin : EP X pins σ Q w s := ⟨z, H, I, rw', q⟩
  exact subscriptTail_builtinR (x := w) pl.typeIs slot_tuple_getitem.lookup
    (getItem_tuple (j := j) (Q := fun r s' => r = w ∧ EP X pins σ Q r s') pl (by omega) (by omega) (by rw [List.size_toArray, ← hl]; exact h1) (by simpa using ew) ⟨rfl, fin⟩) hs
theorem ix_str : IxR X rIxS := by
  intro value slice pins s σ H x y v u Q I rx ry h hs
  obtain ⟨z, i, c, rfl, rfl, hz, he, q⟩ := h
  obtain ⟨t, rfl⟩ := rx
  obtain ⟨t', rfl⟩ := ry
  obtain ⟨j, h1, h2, h3, h4, h5⟩ := atI_get he
  have hl : z.cps.toList.length = z.length := by simp [Str.length]
  rw [hl] at h1 h4 h5
  have hn := line63
  exact tail_any (typeIs_str s z t) slot_str_getitem.lookup (getItem_str (c := c) (by
    have e1 : decide (i < -(2 ^ 63 : Int)) = false := decide_eq_false (by omega)
    have e2 : decide (i ≥ 2 ^ 63) = false := decide_eq_false (by omega)
    rw [e1, e2, Bool.or_false]) (by rw [h1]; simpa using h2) ⟨.str ⟨#[c]⟩, H, I.tok _, ⟨_, rfl⟩, q⟩) hs
theorem mapSeq_set (its : List Value) (n j : Nat) (u : Value) : Obj.mapSeq (·.setIfInBounds j u) { cls := .type "list", data := .seq its.toArray n } = { cls := .type "list", data := .seq (its.set j u).toArray n } := by
  simp [Obj.mapSeq]
theorem Inv.lst {pins : List (Addr × Obj)} {σ : St} {H : Hp} {s : Shared} {p : Addr} {xs : List V} (I : Inv X pins σ H s) (h : H p = some (.lst xs)) :
    ∃ (its : List Value) (n : Nat), Vals xs its ∧ s.heap.get? p = some { cls := .type "list", data := .seq its.toArray n } ∧ xs.length ≤ sizeLine := by
  obtain ⟨z, its, n, r, e⟩ := I.hok p _ h
  exact ⟨its, n, r, e, z⟩
theorem Inv.lstUpd {pins : List (Addr × Obj)} {σ : St} {H : Hp} {s : Shared} {p : Addr} {xs ys : List V} {its its' : List Value} {n n' : Nat} {f : Obj → Obj} (I : Inv X pins σ H s) (h : H p = some (.lst xs))
    (ho : s.heap.get? p = some { cls := .type "list", data := .seq its.toArray n }) (hf : f { cls := .type "list", data := .seq its.toArray n } = { cls := .type "list", data := .seq its'.toArray n' }) (r : Vals ys its') (hz : ys.length ≤ sizeLine) (t : Nat) :
    Inv X pins σ (upd H p (.lst ys)) { s with heap := s.heap.update p f, toks := t } := by
  have e : (s.heap.update p f).get? p = some { cls := .type "list", data := .seq its'.toArray n' } := by
    rw [Heap.get?_update_self f ho (by rw [hf] <;> rfl), hf]
  refine I.write (x := p) (e := p) (by rw [h]; trivial) (.inl rfl) (fun b u hb q => (Heap.get?_update_other _ _ (Ne.symm hb)).trans q) ⟨_, e⟩ ?_
  exact ⟨hz, its', n', r, e⟩
def rSetL : V → V → V → Hp → (Hp → Prop) → Prop := fun o i v H Q => ∃ p xs k j, o = .ref p ∧ i = .int k ∧ H p = some (.lst xs) ∧ ixN xs.length k = some j ∧ Q (upd H p (.lst (xs.set j v)))
theorem set_list : PSet X rSetL := by
  intro pins s σ H o i v ov iv u Q I ro ri rv h
  obtain ⟨p, xs, k, j, rfl, rfl, hp, hj, q⟩ := h
  cases ro
  obtain ⟨t, rfl⟩ := ri
  obtain ⟨its, n, r, ho, hz⟩ := I.lst hp
  obtain ⟨h1, h2, h3, h4⟩ := ixN_seq hj
  have hl := r.length
  have hn := line63
  have I' : Inv X pins σ (upd H p (.lst (xs.set j v))) { s with heap := s.heap.update p (Obj.mapSeq (·.setIfInBounds j u)) } :=
    I.lstUpd hp ho (mapSeq_set its n j u) (r.set rv j) (by rw [List.length_set]; exact hz) s.toks
  by_cases h0 : 0 ≤ k
  · have hk : k.toNat = j := by
      rw [seqIndex_of h0 h4] at h1
      exact Option.some.inj h1
    exact PySem.W.ki_setAt ho h0 (by omega) (by rw [List.size_toArray, ← hl]; exact h4) (by rw [hk]; exact ⟨_, I', q⟩)
  · have hk : (k + (its.toArray.size : Int)).toNat = j := by
      rw [seqIndex_neg (by omega) h3] at h1
      rw [List.size_toArray, ← hl]
      exact Option.some.inj h1
    exact PySem.W.ki_setBack ho (by omega) (by rw [List.size_toArray, ← hl]; exact h3) (by omega) (by rw [hk]; exact ⟨_, I', q⟩)
theorem slice_bounds (lo hi : Option Int) (n : Nat) : (sliceBounds lo hi none n).1 = ((HT.sIx n 0 lo : Nat) : Int) ∧ (sliceBounds lo hi none n).2.1 = ((HT.sIx n n hi : Nat) : Int) ∧ (sliceBounds lo hi none n).2.2 = 1 := by
  refine ⟨?_, ?_, rfl⟩
  · cases lo with
    | none => simp [sliceBounds, HT.sIx]
    | some i =>
      simp only [sliceBounds, HT.sIx, Option.getD_none, show (1 : Int) > 0 by decide, if_true]
      by_cases h : i < 0
      · simp only [h, if_true] <;> omega
      · simp only [h, if_false] <;> omega
  · cases hi with
    | none => simp [sliceBounds, HT.sIx]
    | some i =>
      simp only [sliceBounds, HT.sIx, Option.getD_none, show (1 : Int) > 0 by decide, if_true]
      by_cases h : i < 0
      · simp only [h, if_true] <;> omega
      · simp only [h, if_false] <;> omega
theorem slicePick_cut (its : List Value) (lo hi : Option Int) : slicePick its.toArray lo hi none = ((its.drop (HT.sIx its.length 0 lo)).take (HT.sIx its.length its.length hi - HT.sIx its.length 0 lo)).toArray := by
  obtain ⟨h1, h2, h3⟩ := slice_bounds lo hi its.toArray.size
  unfold slicePick
  rw [h1, h2, h3]
  simp only [sliceRange_one, pick_run, List.size_toArray] <;> rfl
def rSlL (K : PySem.W.Frag) : V → Option Int → Option Int → Hp → VK → Prop := fun x lo hi H Q => ∃ a xs, x = .ref a ∧ SqL K H a xs ∧ ∀ p, H p = none → Q (.ref p) (upd H p (.lst (cutV xs lo hi)))
theorem sl_list : SlR X (rSlL X.K) := by
  intro pins s σ H x v vl vu lo hi sl Q I rx hs pl pu h
  obtain ⟨a, xs, rfl, hx, q⟩ := h
  cases rx
  obtain ⟨its, r, ht, hz⟩ := I.list hx
  have hlen := r.length
  refine ⟨"list", _, slot_list_getitem.lookup, ht.isList.typeIs, ?_⟩
  refine wpAny_getItem_list_slice ht.isList hs pl pu .none (by simp) ?_ (by rw [List.size_toArray] <;> omega)
  rw [slicePick_cut, ← hlen]
  refine ⟨.ref s.heap.objs.size, _, I.laid (t' := s.toks) (o := .lst (cutV xs lo hi)) (fun b ob q => Heap.get?_push_of_some _ q) (Nat.le_refl _) ?_, rfl, q _ (I.hok.fresh (Nat.le_refl _))⟩
  exact ⟨Nat.le_trans (cutV_length xs lo hi) hz, _, 0, (r.drop (HT.sIx xs.length 0 lo)).take (HT.sIx xs.length xs.length hi - HT.sIx xs.length 0 lo), Heap.get?_push_size _ rfl⟩
theorem call_list_of : CallR X (.type "list") (fun xs H Q => ∃ p ys, xs = [.ref p] ∧ (SqL X.K H p ys ∨ SqT X.K H p ys) ∧ ∀ l, H l = none → Q (.ref l) (upd H l (.lst ys))) := by
  intro pins s σ H xs us Q I r h
  obtain ⟨p, ys, rfl, hq, q⟩ := h
  obtain ⟨u, rfl, rx⟩ := vals1 r
  cases rx
  have fin : ∀ (its : List Value), Vals ys its → ys.length ≤ sizeLine → ∀ (h' : Heap) (c' : Nat), (∀ b o', s.heap.get? b = some o' → h'.get? b = some o') →
      h'.get? s.heap.objs.size = some { cls := .type "list", dict := none, data := .seq its.toArray c', slots := #[] } → EP X pins σ Q (.ref s.heap.objs.size) { s with heap := h' } := fun its r' hz h' c' kp e =>
    ⟨.ref s.heap.objs.size, _, I.laid (t' := s.toks) kp (Nat.le_refl _) (show ObjOk X.prog X.w _ h' _ (.lst ys) from ⟨hz, its, c', r', e⟩), rfl, q _ (I.hok.fresh (Nat.le_refl _))⟩
  rcases hq with hq | hq
  · obtain ⟨its, r', pl, hz⟩ := I.list hq
    have hlen := r'.length
    obtain ⟨o, ho, hc, n, hd⟩ := pl.isList
    exact call_list_seq p (.inl rfl) ho hc hd (fun h' c' kp e => fin its r' hz h' c' kp e) (by simp only [List.size_toArray] <;> omega)
  · obtain ⟨its, r', pl, hz⟩ := I.tuple hq
    have hlen := r'.length
    obtain ⟨o, ho, hc, n, hd⟩ := pl
    exact call_list_seq p (.inr rfl) ho hc hd (fun h' c' kp e => fin its r' hz h' c' kp e) (by simp only [List.size_toArray] <;> omega)
theorem call_tuple_of : CallR X (.type "tuple") (fun xs H Q => ∃ p ys, xs = [.ref p] ∧ ((SqL X.K H p ys ∧ ∀ l, H l = none → Q (.ref l) (upd H l (.tup ys))) ∨ (SqT X.K H p ys ∧ Q (.ref p) H))) := by
  intro pins s σ H xs us Q I r h
  obtain ⟨p, ys, rfl, h⟩ := h
  obtain ⟨u, rfl, rx⟩ := vals1 r
  cases rx
  rcases h with ⟨hq, q⟩ | ⟨hq, q⟩
  · obtain ⟨its, r', pl, hz⟩ := I.list hq
    have hlen := r'.length
    refine call_tuple_list pl.isList (fun h' kp => ?_) (by simp only [List.size_toArray] <;> omega)
    have I1 : Inv X pins σ H { s with heap := h' } := I.kept (t' := s.toks) kp
    have I2 : Inv X pins σ (upd H h'.objs.size (.tup ys)) { s with heap := h'.push { cls := .type "tuple", data := .seq its.toArray } } :=
      I1.laid (t' := s.toks) (fun b o e => Heap.get?_push_of_some _ e) (Nat.le_refl _) (show ObjOk X.prog X.w _ _ _ (.tup ys) from ⟨hz, its, r', IsTup.new _ _⟩)
    exact ⟨.ref h'.objs.size, _, I2, rfl, q _ (I1.hok.fresh (Nat.le_refl _))⟩
  · obtain ⟨its, r', pl, hz⟩ := I.tuple hq
    exact call_tuple_same pl ⟨.ref p, H, I, rfl, q⟩
def tyV (K : PySem.W.Frag) (T : String) (x : V) (H : Hp) : Prop := match x with
  | .str _ => T = "str"
  | .int _ => T = "int"
  | .ref p => (T = "list" ∧ ∃ xs, SqL K H p xs) ∨ (T = "tuple" ∧ ∃ o, K.lookup p = some o ∧ o.cls = .type "tuple" ∧ o.dict = none) ∨
      (T = "dict" ∧ ((∃ kvs, H p = some (.dK kvs)) ∨ ∃ kvs, H p = some (.dT kvs))) ∨ (T = "set" ∧ ∃ S n, H p = some (.set S n))
  | _ => False
theorem tyV_is {pins : List (Addr × Obj)} {σ : St} {H : Hp} {s : Shared} {T : String} {x : V} {v : Value} (I : Inv X pins σ H s) (r : RelV x v) (ty : tyV X.K T x H) :
    s.TypeIs v T ∧ ∀ a, v = .ref a → ∃ ob, s.heap.get? a = some ob ∧ ob.dict = none := by
  cases x with
  | str z =>
    obtain ⟨t, rfl⟩ := r
    cases (show T = "str" from ty)
    exact ⟨typeIs_str s z t, fun _ e => nomatch e⟩
  | int i =>
    obtain ⟨t, rfl⟩ := r
    cases (show T = "int" from ty)
    exact ⟨typeIs_int s i t, fun _ e => nomatch e⟩
  | ref p =>
    cases r
    rcases ty with ⟨rfl, xs, hq⟩ | ⟨rfl, o, hk, hc, hd⟩ | ⟨rfl, hk⟩ | ⟨rfl, S, n, hk⟩
    · obtain ⟨its, _, pl, _⟩ := I.list hq
      refine ⟨pl.isList.typeIs, fun a e => ?_⟩
      cases e
      obtain ⟨o, n, e, c, hd, _⟩ := pl
      exact ⟨o, e, hd⟩
    · refine ⟨⟨o, I.kIn p o hk, hc⟩, fun a e => ?_⟩
      cases e
      exact ⟨o, I.kIn _ o hk, hd⟩
    · have z : ∃ o, s.heap.get? p = some o ∧ o.ExactDict := by
        rcases hk with ⟨kvs, hk⟩ | ⟨kvs, hk⟩
        · obtain ⟨_, _, _, _, o, _, _, e, ex, _⟩ := I.hok p _ hk
          exact ⟨o, e, ex⟩
        · obtain ⟨_, _, _, _, o, _, _, e, ex, _⟩ := I.hok p _ hk
          exact ⟨o, e, ex⟩
      obtain ⟨o, e, ex⟩ := z
      refine ⟨⟨o, e, ex.1⟩, fun a e2 => ?_⟩
      cases e2
      exact ⟨o, e, ex.2.1⟩
    · obtain ⟨o, _, _, _, e, ex, _⟩ := I.hok p _ hk
      refine ⟨⟨o, e, ex.1⟩, fun a e2 => ?_⟩
      cases e2
      exact ⟨o, e, ex.2.1⟩
  | _ => exact False.elim ty
def tBM0 (K : PySem.W.Frag) (T : String) (r : V → List V → Hp → VK → Prop) (to : TE) : TE := fun σ H Q => to σ H fun x H1 => tyV K T x H1 ∧ r x [] H1 Q
def tBM (K : PySem.W.Frag) (T : String) (r : V → List V → Hp → VK → Prop) (to : TE) (t : TA) : TE := fun σ H Q => to σ H fun x H1 => tyV K T x H1 ∧ t σ H1 fun xs H2 => r x xs H2 Q
variable {o e : Expr} {es : List Expr} {to : TE} {t : TA} {name : Str} {apos cpos : Pos} {T id : String} {r : V → List V → Hp → VK → Prop}
theorem pe_bm0 (pa : PlainAttrs T) (slot : Slot T name id) (hty : typeOf (.builtin id) = pure (.type "method_descriptor")) (hm : MtR X id r) (ho : PE X o to)
    (hbase : attributeBase o name X.env (eval o X.env) = eval o X.env := by rfl) (hline : (apos.endLine == cpos.line) = true := by rfl) : PE X (.Call (.Attribute o name apos) [] [] cpos) (tBM0 X.K T r to) := by
  intro pins s σ H Q I h
  refine wpAny_Call_method0_late hbase hline (thn (ho pins s σ H _ I h) fun v s1 ⟨x, H1, I1, r1, ty, q1⟩ => ?_)
  obtain ⟨h1, h2⟩ := tyV_is I1 r1 ty
  exact ⟨T, id, pa, slot, hty, h1, h2, Calls.callWith_builtin rfl (PySem.evalArgs_none (hm pins s1 σ H1 x [] v [] Q I1 r1 .nil q1))⟩
theorem pe_bm (pa : PlainAttrs T) (slot : Slot T name id) (hty : typeOf (.builtin id) = pure (.type "method_descriptor")) (hm : MtR X id r) (ho : PE X o to) (ha : PA X (e :: es) t)
    (hbase : attributeBase o name X.env (eval o X.env) = eval o X.env := by rfl)
    (hfew : ((backTo cpos (starEach (e :: es) X.env)).all (fun x => !x.1) && (backToKw cpos (keywordEach [] X.env)).all (fun x => x.1.isSome)
      && decide ((e :: es).length + ([] : List Keyword).length + (if ([] : List Keyword).isEmpty then 0 else 1) < 30)) = true := by rfl)
    (hline : (apos.endLine == cpos.line) = true := by rfl) (hs : starEach (e :: es) X.env = (false, eval e X.env) :: starEach es X.env := by rfl) (hplain : (backTo cpos (starEach es X.env)).any (·.1) = false := by rfl) :
    PE X (.Call (.Attribute o name apos) (e :: es) [] cpos) (tBM X.K T r to t) := by
  intro pins s σ H Q I h
  refine wpAny_Call_method_late hbase hfew hline rfl (thn (ho pins s σ H _ I h) fun v s1 ⟨x, H1, I1, r1, ty, q1⟩ => ?_)
  obtain ⟨h1, h2⟩ := tyV_is I1 r1 ty
  refine ⟨T, id, pa, slot, hty, h1, h2, ?_⟩
  have hA := ha cpos pins s1 σ H1 _ I1 q1
  rw [hs] at hA ⊢
  refine Calls.callWith_builtin (by show (false || (backTo cpos (starEach es X.env)).any (·.1)) = false; rw [hplain] <;> rfl) (Calls.evalArgs_plain ?_)
  exact thn hA fun us s2 ⟨vs, H2, I2, r2, q2⟩ => hm pins s2 σ H2 x vs v us Q I2 r1 r2 q2
end
end L2
namespace L2
open PySem PySem.Spec PyProof.Rows
def MtM (X : Cx) (id : String) (r : V → List V → Hp → VK → Prop) : Prop :=
  ∀ (pins : List (Addr × Obj)) (s : Shared) (σ : St) (H : Hp) (x : V) (xs : List V) (v : Value) (us : List Value) (Q : VK), Inv X pins σ H s → RelV x v → Vals xs us → r x xs H Q →
    wpAny (model X.prog X.w) X.A (call (.builtin id) (v :: us)) (EP X pins σ Q) X.xe s
theorem Vals.one : ∀ {x : V} {us : List Value}, Vals [x] us → ∃ u, us = [u] ∧ RelV x u
  | _, _, .cons r .nil => ⟨_, rfl, r⟩
theorem Vals.zero : ∀ {us : List Value}, Vals [] us → us = []
  | _, .nil => rfl
theorem Vals.dropLast {xs : List V} {us : List Value} (h : Vals xs us) : Vals xs.dropLast us.dropLast := by
  induction h with
  | nil => exact .nil
  | cons r t ih =>
    cases t with
    | nil => exact .nil
    | cons q t' => exact .cons r ih
theorem Vals.rep {xs : List V} {us : List Value} (h : Vals xs us) : ∀ k : Nat, Vals (List.replicate k xs).flatten (List.replicate k us).flatten
  | 0 => .nil
  | k + 1 => by
    rw [List.replicate_succ, List.replicate_succ, List.flatten_cons, List.flatten_cons]
    exact Vals.append h (Vals.rep h k)
theorem foldl_rep (its : List Value) : ∀ (k : Nat) (acc : List Value),
    List.foldl (fun x1 x2 => x1 ++ x2) acc.toArray (List.replicate k its.toArray) = (acc ++ (List.replicate k its).flatten).toArray
  | 0, acc => by simp
  | k + 1, acc => by
    have e : acc.toArray ++ its.toArray = (acc ++ its).toArray := by simp
    have e2 : (acc ++ its) ++ (List.replicate k its).flatten = acc ++ (List.replicate (k + 1) its).flatten := by
      rw [List.replicate_succ, List.flatten_cons, List.append_assoc]
    rw [← e2, ← foldl_rep its k (acc ++ its), ← e, List.replicate_succ, List.foldl_cons]
section
variable {X : Cx} {pins : List (Addr × Obj)} {σ : St} {H : Hp} {s : Shared} {l b : Addr} {xs ys zs : List V}
theorem Inv.lset {its its' : List Value} {n : Nat} {f : Array Value → Array Value} {t' : Nat} (I : Inv X pins σ H s) (hH : H l = some (.lst xs))
    (e : s.heap.get? l = some { cls := .type "list", data := .seq its.toArray n }) (hf : f its.toArray = its'.toArray) (hv : Vals ys its') (hz : ys.length ≤ sizeLine) :
    Inv X pins σ (upd H l (.lst ys)) { s with heap := s.heap.update l (Obj.mapSeq f), toks := t' } := by
  have q := PySem.IsL.update e f
  rw [hf] at q
  refine I.write (x := l) (e := l) (by rw [hH]; exact trivial) (.inl rfl) (fun b' u hb hu => (Heap.get?_update_other s.heap (Obj.mapSeq f) (Ne.symm hb)).trans hu) ⟨_, q⟩ ?_
  exact ⟨hz, its', _, hv, q⟩
theorem Inv.lnew {its : List Value} {t' : Nat} (I : Inv X pins σ H s) (hv : Vals ys its) (hz : ys.length ≤ sizeLine) :
    Inv X pins σ (upd H s.heap.objs.size (.lst ys)) { s with heap := s.heap.push { cls := .type "list", data := .seq its.toArray }, toks := t' } :=
  I.laid (fun _ _ q => Heap.get?_push_of_some _ q) (Nat.le_refl _) ⟨hz, its, 0, hv, Heap.get?_push_size _ rfl⟩
theorem Inv.fresh (I : Inv X pins σ H s) : H s.heap.objs.size = none := I.hok.fresh (Nat.le_refl _)
theorem Inv.lstM (I : Inv X pins σ H s) (hH : H l = some (.lst xs)) : xs.length ≤ sizeLine ∧ ∃ (its : List Value) (n : Nat), Vals xs its ∧ xs.length = its.length ∧ s.heap.get? l = some { cls := .type "list", data := .seq its.toArray n } := by
  obtain ⟨z, its, n, r, e⟩ := I.hok l _ hH
  exact ⟨z, its, n, r, r.length, e⟩
theorem notLongL {n : Nat} (h : n ≤ sizeLine) : Builtin.List.listTooLong n = false := by
  unfold Builtin.List.listTooLong
  exact decide_eq_false (by omega)
end
section
variable {X : Cx}
def rAppend : V → List V → Hp → VK → Prop := fun x vs H Q => ∃ l xs y, x = .ref l ∧ vs = [y] ∧ H l = some (.lst xs) ∧ xs.length < sizeLine ∧ Q .non (upd H l (.lst (xs ++ [y])))
theorem mt_append : MtM X "list.append" rAppend := by
  intro pins s σ H x vs v us Q I rx rv h
  obtain ⟨l, xs, y, rfl, rfl, hH, hz, q⟩ := h
  cases rx
  obtain ⟨u, rfl, ru⟩ := rv.one
  obtain ⟨z, its, n, r, hl, e⟩ := I.lstM hH
  refine call_meets F.slot_list_append ⟨_, e, rfl⟩ F.entry_list_append (F.args_list_append_2 _ _) (PySem.list_append l its.toArray n u (by rw [List.size_toArray]; omega)) ⟨e, ?_⟩
  refine ⟨.non, _, I.lset (its' := its ++ [u]) hH e (by simp) (r.append (.cons ru .nil)) ?_, rfl, q⟩
  rw [List.length_append, List.length_singleton]
  omega
def rPop : V → List V → Hp → VK → Prop := fun x vs H Q => ∃ l xs y, x = .ref l ∧ vs = [] ∧ H l = some (.lst xs) ∧ xs[xs.length - 1]? = some y ∧ Q y (upd H l (.lst xs.dropLast))
def rCat : R2 := fun x y H Q => ∃ l b xs zs, x = .ref l ∧ y = .ref b ∧ H l = some (.lst xs) ∧ H b = some (.lst zs) ∧ xs.length + zs.length ≤ sizeLine ∧ ∀ p, H p = none → Q (.ref p) (upd H p (.lst (xs ++ zs)))
def rRep : R2 := fun x y H Q => ∃ l k xs, x = .ref l ∧ y = .int k ∧ H l = some (.lst xs) ∧ -(2 ^ 63) ≤ k ∧ k < 2 ^ 63 ∧ xs.length * k.toNat ≤ sizeLine ∧
  ∀ p, H p = none → Q (.ref p) (upd H p (.lst (List.replicate k.toNat xs).flatten))
theorem len_rep {α : Type} (xs : List α) (k : Nat) : (List.replicate k xs).flatten.length = k * xs.length := by
  induction k with
  | zero => simp
  | succ k ih => rw [List.replicate_succ, List.flatten_cons, List.length_append, ih, Nat.succ_mul, Nat.add_comm]
theorem op_rep : OpR X (binaryOp .Mult) rRep := by
  intro pins s σ H x y v u Q I rx ry h
  obtain ⟨l, k, xs, rfl, rfl, hH, h1, h2, hz, q⟩ := h
  cases rx
  obtain ⟨t, rfl⟩ := ry
  obtain ⟨z, its, n, r, hl, e⟩ := I.lstM hH
  have hlen : its.toArray.size * k.toNat ≤ sizeLine := by rw [List.size_toArray, ← hl]; exact hz
  have hcap : ¬ its.toArray.size * k.toNat > (2 ^ 63 - 1) / 8 := by
    have : (sizeLine : Nat) ≤ (2 ^ 63 - 1) / 8 := by decide
    omega
  have hfit : ¬ (!Builtin.List.listFitsIndex k) = true := by
    rw [fitsIndex_both h1 h2]
    exact Bool.false_ne_true
  have hlong : ¬ Builtin.List.listTooLong (its.toArray.size * k.toNat) = true := by
    rw [notLongL hlen]
    exact Bool.false_ne_true
  have hnew : List.foldl (fun x1 x2 => x1 ++ x2) #[] (List.replicate (if its.toArray.isEmpty = true then 0 else k.toNat) its.toArray) = (List.replicate k.toNat its).flatten.toArray := by
    have f0 : ∀ m : Nat, List.foldl (fun x1 x2 => x1 ++ x2) #[] (List.replicate m its.toArray) = (List.replicate m its).flatten.toArray := fun m => by
      have := foldl_rep its m []
      rw [List.nil_append] at this
      exact this
    rw [f0]
    cases its with
    | nil => simp
    | cons a r' => rw [if_neg (by simp)]
  refine wpAny_binaryOp_repeat_ref (T := "list") (U := "int") (by decide) ⟨_, e, rfl⟩ (fun s' => typeIs_int s' k t) noFill_list_mul F.fills_int_mul F.slot_int_rmul repeat_list F.slot_int_index.lookup
    (call_meets F.slot_int_rmul (typeIs_int s k t) F.entry_int_rmul (F.args_int_rmul_2 _ _) (int___rmul___int_list k t l its.toArray n)
      ⟨e, rfl, ⟨_, e, rfl⟩, call_meets F.slot_list_mul ⟨_, e, rfl⟩ F.entry_list_mul (F.args_list_mul_2 _ _) (AutoListH.list___mul___list_int_3 l its.toArray n k t hfit hcap hlong) ⟨e, ?_⟩⟩)
  rw [hnew]
  exact ⟨.ref _, _, I.lnew (t' := s.toks) (r.rep k.toNat) (by rw [len_rep, Nat.mul_comm]; exact hz), rfl, q _ I.fresh⟩
end
section
variable {prog : Program} {w : World} {A : Around} {E : Value → Shared → Prop} {s : Shared}
end
section
variable {X : Cx}
end
end L2
namespace L2
open PySem PySem.Spec PyProof.Rows
section
variable {κ : Type} [DecidableEq κ]
def valV (kvs : List (κ × V)) (k : κ) : Option V := (kvs.find? fun kv => decide (kv.1 = k)).map (·.2)
def putK (kvs : List (κ × V)) (k : κ) (v : V) : List (κ × V) :=
  if (kvs.any fun kv => decide (kv.1 = k)) = true then kvs.map (fun kv => if kv.1 = k then (kv.1, v) else kv) else kvs ++ [(k, v)]
def dropK (kvs : List (κ × V)) (k : κ) : List (κ × V) := kvs.filter fun kv => decide (kv.1 ≠ k)
theorem valV_pos {p : κ × V} {r : List (κ × V)} {k : κ} (e : p.1 = k) : valV (p :: r) k = some p.2 := by simp [valV, List.find?_cons, e]
theorem valV_neg {p : κ × V} {r : List (κ × V)} {k : κ} (e : ¬ p.1 = k) : valV (p :: r) k = valV r k := by simp [valV, List.find?_cons, e]
theorem valV_any (k : κ) : ∀ kvs : List (κ × V), (kvs.any fun kv => decide (kv.1 = k)) = (valV kvs k).isSome
  | [] => rfl
  | p :: r => by
    rw [List.any_cons]
    by_cases e : p.1 = k
    · simp only [valV_pos e, decide_eq_true e, Bool.true_or, Option.isSome_some]
    · rw [valV_neg e, decide_eq_false e, Bool.false_or]; exact valV_any k r
theorem length_putK (kvs : List (κ × V)) (k : κ) (v : V) : (putK kvs k v).length ≤ kvs.length + 1 := by
  unfold putK
  split
  · rw [List.length_map]; omega
  · rw [List.length_append, List.length_cons, List.length_nil]; omega
theorem RelO.isSome_eq {o : Option V} {u : Option Value} (r : RelO o u) : o.isSome = u.isSome := by
  cases o with
  | none => cases u with
    | none => rfl
    | some _ => exact (show False from r).elim
  | some _ => cases u with
    | none => exact (show False from r).elim
    | some _ => rfl
theorem RelO.getD {o : Option V} {u : Option Value} {d : V} {d' : Value} (r : RelO o u) (rd : RelV d d') : RelV (o.getD d) (u.getD d') := by
  cases o with
  | none => cases u with
    | none => exact rd
    | some _ => exact (show False from r).elim
  | some _ => cases u with
    | none => exact (show False from r).elim
    | some _ => exact r
theorem KV.val {kvs : List (κ × V)} {vs : List (κ × Value)} (r : KV kvs vs) (k : κ) : RelO (valV kvs k) (valueAt vs k) := by
  unfold KV at r
  induction r with
  | nil => exact True.intro
  | @cons p q ps qs h t ih =>
    obtain ⟨h1, h2⟩ := h
    by_cases e : p.1 = k
    · have e' : q.1 = k := h1.symm.trans e
      have b : valueAt (q :: qs) k = some q.2 := by simp [valueAt, List.find?_cons, e']
      rw [valV_pos e, b]; exact h2
    · have e' : ¬ q.1 = k := fun z => e (h1.trans z)
      have b : valueAt (q :: qs) k = valueAt qs k := by simp [valueAt, List.find?_cons, e']
      rw [valV_neg e, b]; exact ih
theorem KV.any {kvs : List (κ × V)} {vs : List (κ × Value)} (r : KV kvs vs) (k : κ) : (kvs.any fun kv => decide (kv.1 = k)) = vs.any fun kv => decide (kv.1 = k) := by
  unfold KV at r
  induction r with
  | nil => rfl
  | cons h t ih => rw [List.any_cons, List.any_cons, ih, h.1]
theorem KV.repl {kvs : List (κ × V)} {vs : List (κ × Value)} (r : KV kvs vs) (k : κ) {y : V} {u : Value} (ry : RelV y u) :
    KV (kvs.map fun kv => if kv.1 = k then (kv.1, y) else kv) (vs.map fun kv => if kv.1 = k then (kv.1, u) else kv) := by
  unfold KV at r ⊢
  induction r with
  | nil => exact .nil
  | @cons p q ps qs h t ih =>
    rw [List.map_cons, List.map_cons]
    refine .cons ?_ ih
    obtain ⟨h1, h2⟩ := h
    by_cases e : p.1 = k
    · rw [if_pos e, if_pos (h1.symm.trans e)]; exact ⟨h1, ry⟩
    · rw [if_neg e, if_neg (fun z => e (h1.trans z))]; exact ⟨h1, h2⟩
theorem KV.put {kvs : List (κ × V)} {vs : List (κ × Value)} (r : KV kvs vs) (k : κ) {y : V} {u : Value} (ry : RelV y u) : KV (putK kvs k y) (stored vs k u) := by
  unfold putK stored
  rw [r.any k]
  by_cases e : (vs.any fun kv => decide (kv.1 = k)) = true
  · rw [if_pos e, if_pos e]; exact r.repl k ry
  · rw [if_neg e, if_neg e]; exact Paired.snoc r ⟨rfl, ry⟩
theorem KV.drop {kvs : List (κ × V)} {vs : List (κ × Value)} (r : KV kvs vs) (k : κ) : KV (dropK kvs k) (without vs k) := by
  unfold KV at r ⊢
  unfold dropK without
  induction r with
  | nil => exact .nil
  | @cons p q ps qs h t ih =>
    obtain ⟨h1, h2⟩ := h
    rw [List.filter_cons, List.filter_cons]
    by_cases e : p.1 = k
    · have a : ¬ decide (p.1 ≠ k) = true := by simp [e]
      have b : ¬ decide (q.1 ≠ k) = true := by simp [h1.symm.trans e]
      rw [if_neg a, if_neg b]; exact ih
    · have e' : ¬ q.1 = k := fun z => e (h1.trans z)
      have a : decide (p.1 ≠ k) = true := by simp [e]
      have b : decide (q.1 ≠ k) = true := by simp [e']
      rw [if_pos a, if_pos b]; exact .cons ⟨h1, h2⟩ ih
theorem KV.keys {kvs : List (κ × V)} {vs : List (κ × Value)} (r : KV kvs vs) : kvs.map (·.1) = vs.map (·.1) := by
  unfold KV at r
  induction r with
  | nil => rfl
  | cons h t ih => rw [List.map_cons, List.map_cons, ih, h.1]
theorem KV.length {kvs : List (κ × V)} {vs : List (κ × Value)} (r : KV kvs vs) : kvs.length = vs.length := Paired.length r
end
theorem kV_is {P : Program} {w : World} {k : Key} {u : Value} (r : RelV (kV k) u) : (mixKind P w).is k u = true := by
  cases k with
  | inl i => obtain ⟨t, e⟩ := (show ∃ t, u = Value.int i t from r); subst e; exact mixKind_int P w i t
  | inr x => obtain ⟨t, e⟩ := (show ∃ t, u = Value.str x t from r); subst e; exact mixKind_str P w x t
theorem items_are {P : Program} {w : World} : ∀ {ks : List Key} {us : List Value}, Vals (ks.map kV) us → ItemsAre (mixKind P w) ks us
  | [], _, r => by rw [List.map_nil] at r; cases r; exact .nil
  | k :: ks, _, r => by
    rw [List.map_cons] at r
    cases r with
    | cons h t => exact .cons (kV_is h) (items_are t)
abbrev KT (H : Hp) : List (List Key × V) → List (List Key × Addr × Value) → Prop := Paired fun p q => p.1 = q.1 ∧ H q.2.1 = some (.tup (p.1.map kV)) ∧ RelV p.2 q.2.2
theorem KT.val {H : Hp} {kvs : List (List Key × V)} {xs : List (List Key × Addr × Value)} (r : KT H kvs xs) (k : List Key) : RelO (valV kvs k) ((atKey xs k).map (·.2)) := by
  induction r with
  | nil => exact True.intro
  | @cons p q ps qs h t ih =>
    obtain ⟨h1, _, h2⟩ := h
    by_cases e : p.1 = k
    · have e' : q.1 = k := h1.symm.trans e
      have b : atKey (q :: qs) k = some q.2 := by simp [atKey, List.find?_cons, e']
      rw [valV_pos e, b]; exact h2
    · have e' : ¬ q.1 = k := fun z => e (h1.trans z)
      have b : atKey (q :: qs) k = atKey qs k := by simp [atKey, List.find?_cons, e']
      rw [valV_neg e, b]; exact ih
theorem KT.repl {H : Hp} {kvs : List (List Key × V)} {xs : List (List Key × Addr × Value)} (r : KT H kvs xs) (k : List Key) {y : V} {u : Value} (ry : RelV y u) :
    KT H (kvs.map fun kv => if kv.1 = k then (kv.1, y) else kv) (xs.map (putAt k u)) := by
  induction r with
  | nil => exact .nil
  | @cons p q ps qs h t ih =>
    rw [List.map_cons, List.map_cons]
    refine .cons ?_ ih
    obtain ⟨h1, h2, h3⟩ := h
    unfold putAt
    by_cases e : p.1 = k
    · rw [if_pos e, if_pos (h1.symm.trans e)]; exact ⟨h1, h2, ry⟩
    · rw [if_neg e, if_neg (fun z => e (h1.trans z))]; exact ⟨h1, h2, h3⟩
theorem KT.put {H : Hp} {kvs : List (List Key × V)} {xs : List (List Key × Addr × Value)} (r : KT H kvs xs) (k : List Key) {b : Addr} {y : V} {u : Value} (hb : H b = some (.tup (k.map kV))) (ry : RelV y u) :
    KT H (putK kvs k y) (storedH xs k b u) := by
  have e : (kvs.any fun kv => decide (kv.1 = k)) = (atKey xs k).isSome := by
    rw [valV_any, (r.val k).isSome_eq, Option.isSome_map]
  unfold putK storedH
  rw [e]
  by_cases q : (atKey xs k).isSome = true
  · rw [if_pos q, if_pos q]; exact r.repl k ry
  · rw [if_neg q, if_neg q]; exact Paired.snoc r ⟨rfl, hb, ry⟩
theorem KT.keeps {H H' : Hp} {kvs : List (List Key × V)} {xs : List (List Key × Addr × Value)} (r : KT H kvs xs) (ht : ∀ b ys, H b = some (.tup ys) → H' b = some (.tup ys)) : KT H' kvs xs :=
  Paired.mapP r fun _ _ z => ⟨z.1, ht _ _ z.2.1, z.2.2⟩
section
variable {P : Program} {w : World} {H : Hp} {h : Heap} {a : Addr}
theorem rd_of {u : HO} (ok : HOk P w H h) (e : Rd H a u) : ObjOk P w H h a u := e.ok ok
theorem dk_rd {kvs : List (Key × V)} (ok : HOk P w H h) (e : Rd H a (.dK kvs)) : kvs.length ≤ sizeLine ∧ (a == sysModules) = false ∧ ∃ vs, KV kvs vs ∧ h.DictOf (mixKind P w) a vs :=
  show ObjOk P w H h a (.dK kvs) from rd_of ok e
theorem dk_of {kvs : List (Key × V)} (ok : HOk P w H h) (e : H a = some (.dK kvs)) : kvs.length ≤ sizeLine ∧ (a == sysModules) = false ∧ ∃ vs, KV kvs vs ∧ h.DictOf (mixKind P w) a vs := dk_rd ok (.inl e)
theorem key_of {ks : List Key} (ok : HOk P w H h) (e : H a = some (.tup (ks.map kV))) : (tupleKind (mixKind P w)).is h ks a := by
  obtain ⟨_, its, r, o, h1, h2, n, h3⟩ := (show ObjOk P w H h a (.tup (ks.map kV)) from ok a _ e)
  exact ⟨o, its.toArray, n, h1, h2, h3, by simpa using items_are r⟩
theorem dt_rd {kvs : List (List Key × V)} (ok : HOk P w H h) (e : Rd H a (.dT kvs)) : kvs.length ≤ sizeLine ∧ (a == sysModules) = false ∧
    ∃ xs, KT H kvs xs ∧ h.DictOfH (tupleKind (mixKind P w)) a xs := by
  obtain ⟨z, y, xs, r, o, es, ep, h1, h2, h3, h4, h5⟩ := (show ObjOk P w H h a (.dT kvs) from rd_of ok e)
  refine ⟨z, y, xs, r, o, es, ep, h1, h2, h3, h4, fun x hx => ?_, h5⟩
  have all : ∀ {l : List (List Key × V)} {m : List (List Key × Addr × Value)}, KT H l m → ∀ x ∈ m, (tupleKind (mixKind P w)).is h x.1 x.2.1 := by
    intro l m q
    induction q with
    | nil => intro x hx; exact nomatch hx
    | @cons p q ps qs hq t ih =>
      intro x hx
      rcases List.mem_cons.mp hx with e | hx
      · subst e
        exact key_of ok (by rw [← hq.1]; exact hq.2.1)
      · exact ih x hx
  exact all r x hx
theorem dt_of {kvs : List (List Key × V)} (ok : HOk P w H h) (e : H a = some (.dT kvs)) : kvs.length ≤ sizeLine ∧ (a == sysModules) = false ∧
    ∃ xs, KT H kvs xs ∧ h.DictOfH (tupleKind (mixKind P w)) a xs := dt_rd ok (.inl e)
end
def DGet (H : Hp) (a : Addr) (y : V) (r : Option V) : Prop :=
  (∃ kvs k, Rd H a (.dK kvs) ∧ y = kV k ∧ r = valV kvs k) ∨ ∃ kvs k b, Rd H a (.dT kvs) ∧ y = .ref b ∧ H b = some (.tup (k.map kV)) ∧ r = valV kvs k
def DPut (H : Hp) (a : Addr) (y v : V) (H' : Hp) : Prop :=
  (∃ kvs k, H a = some (.dK kvs) ∧ y = kV k ∧ kvs.length < sizeLine ∧ H' = upd H a (.dK (putK kvs k v))) ∨
  ∃ kvs k b, H a = some (.dT kvs) ∧ y = .ref b ∧ H b = some (.tup (k.map kV)) ∧ kvs.length < sizeLine ∧ H' = upd H a (.dT (putK kvs k v))
theorem DGet.k {H : Hp} {a : Addr} {kvs : List (Key × V)} {k : Key} (e : H a = some (.dK kvs)) : DGet H a (kV k) (valV kvs k) := .inl ⟨kvs, k, .inl e, rfl, rfl⟩
theorem DGet.t {H : Hp} {a b : Addr} {kvs : List (List Key × V)} {k : List Key} (e : H a = some (.dT kvs)) (eb : H b = some (.tup (k.map kV))) : DGet H a (.ref b) (valV kvs k) := .inr ⟨kvs, k, b, .inl e, rfl, eb, rfl⟩
theorem DPut.k {H : Hp} {a : Addr} {kvs : List (Key × V)} {k : Key} {v : V} (e : H a = some (.dK kvs)) (hl : kvs.length < sizeLine) : DPut H a (kV k) v (upd H a (.dK (putK kvs k v))) := .inl ⟨kvs, k, e, rfl, hl, rfl⟩
theorem DPut.t {H : Hp} {a b : Addr} {kvs : List (List Key × V)} {k : List Key} {v : V} (e : H a = some (.dT kvs)) (eb : H b = some (.tup (k.map kV))) (hl : kvs.length < sizeLine) :
    DPut H a (.ref b) v (upd H a (.dT (putK kvs k v))) := .inr ⟨kvs, k, b, e, rfl, eb, hl, rfl⟩
section
variable {X : Cx} {pins : List (Addr × Obj)} {σ : St} {H : Hp} {s : Shared} {a : Addr} {y v : V} {u r : Value} {o : Option V} {A : Around} {E : Value → Shared → Prop}
theorem Inv.big (I : Inv X pins σ H s) : sysModules < s.heap.objs.size := by
  have h : mainGlobals < s.heap.objs.size := (I.mod.glob.keeps I.bk).lt
  exact Nat.lt_trans (by decide) h
theorem d_getItem {Q : Value → Shared → Prop} (hu : A.units + 1 < cLine) (I : Inv X pins σ H s) (g : DGet H a y (some v)) (ry : RelV y u) (h : ∀ w' s', Inv X pins σ H s' → RelV v w' → Q w' s') :
    wpAny (model X.prog X.w) A (getItem (.ref a) u) Q E s := by
  rcases g with ⟨kvs, k, e, ey, l⟩ | ⟨kvs, k, b, e, ey, eb, l⟩
  · subst ey
    obtain ⟨z, hd, vs, rel, dd⟩ := dk_rd I.hok e
    obtain ⟨w', hw, rw'⟩ := RelO.some_of (v := v) (o := valueAt vs k) (by rw [l]; exact rel.val k)
    exact wpAny_getItem_of (kV_is ry) dd.mapOf hw (h w' _ (I.tok _) rw')
  · subst ey
    cases (show u = Value.ref b from ry)
    obtain ⟨z, hd, xs, rel, dd⟩ := dt_rd I.hok e
    obtain ⟨w', hw, rw'⟩ := RelO.some_of (v := v) (o := (atKey xs k).map (·.2)) (by rw [l]; exact rel.val k)
    obtain ⟨p, hp, hp2⟩ := Option.map_eq_some_iff.mp hw
    refine wpAny_getItem_heap (tupleKind_room_in1 hu) (key_of I.hok eb) dd hp ?_
    rw [hp2]
    exact h w' _ (I.tok _) rw'
theorem d_in {Q : Value → Shared → Prop} (hu : A.units + 1 < cLine) (I : Inv X pins σ H s) (g : DGet H a y o) (ry : RelV y u) (h : ∀ s', Inv X pins σ H s' → Q (.bool o.isSome) s') :
    wpAny (model X.prog X.w) A (compareOp .In u (.ref a)) Q E s := by
  rcases g with ⟨kvs, k, e, ey, l⟩ | ⟨kvs, k, b, e, ey, eb, l⟩
  · subst ey
    obtain ⟨z, hd, vs, rel, dd⟩ := dk_rd I.hok e
    refine wpAny_in_of (kV_is ry) hd dd.mapOf ?_
    rw [← (rel.val k).isSome_eq, ← l]
    exact h _ (I.tok _)
  · subst ey
    cases (show u = Value.ref b from ry)
    obtain ⟨z, hd, xs, rel, dd⟩ := dt_rd I.hok e
    refine wpAny_in_heap (tupleKind_room_in1 hu) (key_of I.hok eb) hd dd ?_
    have q := (rel.val k).isSome_eq
    rw [Option.isSome_map] at q
    rw [← q, ← l]
    exact h _ (I.tok _)
theorem d_notIn {Q : Value → Shared → Prop} (hu : A.units + 1 < cLine) (I : Inv X pins σ H s) (g : DGet H a y o) (ry : RelV y u) (h : ∀ s', Inv X pins σ H s' → Q (.bool (!o.isSome)) s') :
    wpAny (model X.prog X.w) A (compareOp .NotIn u (.ref a)) Q E s := by
  rcases g with ⟨kvs, k, e, ey, l⟩ | ⟨kvs, k, b, e, ey, eb, l⟩
  · subst ey
    obtain ⟨z, hd, vs, rel, dd⟩ := dk_rd I.hok e
    refine wpAny_notIn_of (kV_is ry) hd dd.mapOf ?_
    rw [← (rel.val k).isSome_eq, ← l]
    exact h _ (I.tok _)
  · subst ey
    cases (show u = Value.ref b from ry)
    obtain ⟨z, hd, xs, rel, dd⟩ := dt_rd I.hok e
    refine wpAny_notIn_heap (tupleKind_room_in1 hu) (key_of I.hok eb) hd dd ?_
    have q := (rel.val k).isSome_eq
    rw [Option.isSome_map] at q
    rw [← q, ← l]
    exact h _ (I.tok _)
theorem d_write {h' : Heap} {t' : Nat} {ob : HO} (I : Inv X pins σ H s) (mu : Mut (H a)) (hs : Heap.SameBut a s.heap h') (he : ∃ q, h'.get? a = some q) (new : ObjOk X.prog X.w (upd H a ob) h' a ob) :
    Inv X pins σ (upd H a ob) { s with heap := h', toks := t' } :=
  I.write (x := a) (e := a) mu (.inl rfl) (fun b q hb z => (hs.2 b hb).trans z) he new
theorem dk_new {P : Program} {w : World} {H' : Hp} {h' : Heap} {kvs : List (Key × V)} {vs : List (Key × Value)} (z : kvs.length ≤ sizeLine) (hd : (a == sysModules) = false) (rel : KV kvs vs) (dd : h'.DictOf (mixKind P w) a vs) :
    ObjOk P w H' h' a (.dK kvs) := ⟨z, hd, vs, rel, dd⟩
theorem d_setItem {H' : Hp} {Q : Unit → Shared → Prop} (hu : A.units + 1 < cLine) (I : Inv X pins σ H s) (g : DPut H a y v H') (ry : RelV y u) (rv : RelV v r) (h : ∀ s', Inv X pins σ H' s' → Q () s') :
    wpAny (model X.prog X.w) A (setItem (.ref a) u r) Q E s := by
  rcases g with ⟨kvs, k, e, ey, l, eH⟩ | ⟨kvs, k, b, e, ey, eb, l, eH⟩
  · subst ey eH
    obtain ⟨z, hd, vs, rel, dd⟩ := dk_of I.hok e
    have hz : vs.length ≤ sizeLine := by rw [← rel.length]; exact z
    have hl : (putK kvs k v).length ≤ sizeLine := by have := length_putK kvs k v; omega
    refine wpAny_setItem_pairs (hsz := hz) (kV_is ry) dd fun h' dd' hs => h _ ?_
    have he : ∃ q, h'.get? a = some q := let ⟨q, _, _, hq, _⟩ := dd'; ⟨q, hq⟩
    exact d_write I (by rw [e]; exact True.intro) hs he (dk_new hl hd (rel.put k rv) dd')
  · subst ey eH
    cases (show u = Value.ref b from ry)
    obtain ⟨z, hd, xs, rel, dd⟩ := dt_of I.hok e
    have hz : xs.length ≤ sizeLine := by rw [← Paired.length rel]; exact z
    have hl : (putK kvs k v).length ≤ sizeLine := by have := length_putK kvs k v; omega
    refine wpAny_setItem_heap (hsz := hz) (tupleKind_room_in1 hu) (key_of I.hok eb) dd fun h' dd' hs => h _ ?_
    obtain ⟨q, es, ep, hq, h2, h3, h4, _, h5⟩ := dd'
    refine d_write I (by rw [e]; exact True.intro) hs ⟨q, hq⟩ ⟨hl, hd, _, (rel.put k eb rv).keeps fun c ys ec => ?_, q, es, ep, hq, h2, h3, h4, h5⟩
    rw [upd_ne (ne_of ec e (fun z => nomatch z))]
    exact ec
end
section
variable {X : Cx} {pins : List (Addr × Obj)} {σ : St} {H : Hp} {s : Shared} {a : Addr} {kvs : List (Key × V)} {k : Key} {u : Value} {A : Around} {E : Value → Shared → Prop}
end
def NoSl (i : Expr) : Prop := ∀ ov iv, subscripted i false ov iv = operate [ov, iv] (getItem ov iv)
theorem subD_of {prog : Program} {w : World} {A : Around} {E : Value → Shared → Prop} {s : Shared} {env : Env} {value slice : Expr} {pos : Pos} {T id : String} {Q : Value → Shared → Prop}
    (hl : typeLookup (.type T) "__getitem__" = pure (some (.builtin id))) (hs : NoSl slice)
    (h : wpAny (model prog w) A (eval value env) (fun o s₁ => wpAny (model prog w) A (eval slice env) (fun i s₂ => s₂.TypeIs o T ∧ wpAny (model prog w) A (getItem o i) Q E s₂) E s₁) E s) :
    wpAny (model prog w) A (eval (.Subscript value slice pos) env) Q E s := by
  refine Subscript_ (wpAny_mono h (fun o s₁ h₁ => wpAny_mono h₁ (fun i s₂ h₂ => ?_) fun _ _ x => x) fun _ _ x => x)
  obtain ⟨hT, h₂⟩ := h₂
  unfold subscriptTail
  refine wpAny_bind ?_
  rw [getitemInPython_of_ne hT.not_modules]
  refine wpAny_bind (wpAny_specialOf hT hl ?_)
  have fin : wpAny (model prog w) A (subscripted slice false o i) (fun r s₃ => wpAny (model prog w) A (letTemporaryGo value o r >>= fun _ => pure r) Q E s₃) E s₂ := by
    rw [hs o i]
    exact wpAny_operating (wpAny_mono h₂ (fun r s₃ h₃ => wpAny_bind (wpAny_letTemporaryGo (wpAny_pure h₃))) fun _ _ x => x)
  first
    | exact wpAny_pure (wpAny_bind fin)
    | exact wpAny_bind (wpAny_pure (wpAny_bind fin))
    | exact wpAny_bind fin
theorem dict_typeIs {X : Cx} {pins : List (Addr × Obj)} {σ : St} {H : Hp} {s : Shared} {a : Addr} {y : V} {o : Option V} (I : Inv X pins σ H s) (g : DGet H a y o) : s.TypeIs (.ref a) "dict" := by
  rcases g with ⟨kvs, k, e, _, _⟩ | ⟨kvs, k, b, e, _, _, _⟩
  · obtain ⟨_, _, vs, _, dd⟩ := dk_rd I.hok e
    exact dd.typeIs
  · obtain ⟨_, _, xs, _, dd⟩ := dt_rd I.hok e
    exact dd.typeIs
def tDGet (td ty : TE) : TE := fun σ H Q => td σ H fun x H1 => ty σ H1 fun y H2 => ∃ a v, x = .ref a ∧ DGet H2 a y (some v) ∧ Q v H2
def tDIn (ty td : TE) : TE := fun σ H Q => ty σ H fun y H1 => td σ H1 fun x H2 => ∃ a o, x = .ref a ∧ DGet H2 a y o ∧ Q (.bl o.isSome) H2
def tDNotIn (ty td : TE) : TE := fun σ H Q => ty σ H fun y H1 => td σ H1 fun x H2 => ∃ a o, x = .ref a ∧ DGet H2 a y o ∧ Q (.bl (!o.isSome)) H2
def sDPut (td ty tv : TE) : TS := fun D σ H => tv σ H fun v H1 => td σ H1 fun x H2 => ty σ H2 fun y H3 => ∃ a H4, x = .ref a ∧ DPut H3 a y v H4 ∧ D.nx σ H4
section
variable {X : Cx} {o i e value : Expr} {pos pos' tpos : Pos} {td ty tv : TE}
theorem pe_dget (hu : X.A.units + 1 < cLine) (ho : PE X o td) (hi : PE X i ty) (hs : NoSl i) : PE X (.Subscript o i pos) (tDGet td ty) := by
  intro pins s σ H Q I h
  refine subD_of PySem.F.slot_dict_getitem.lookup hs (thn (ho pins s σ H _ I h) fun u s1 ⟨x, H1, I1, rx, q1⟩ => thn (hi pins s1 σ H1 _ I1 q1) fun iv s2 ⟨y, H2, I2, ry, a, v, ex, g, q2⟩ => ?_)
  subst ex
  obtain rfl : u = Value.ref a := rx
  exact ⟨dict_typeIs I2 g, d_getItem hu I2 g ry fun w' s3 I3 rw' => ⟨v, H2, I3, rw', q2⟩⟩
theorem pc_din (hu : X.A.units + 1 < cLine) (hi : PE X i ty) (ho : PE X o td) : PC X .In i o (tDIn ty td) := by
  intro pins s σ H Q I h
  refine thn (hi pins s σ H _ I h) fun iv s1 ⟨y, H1, I1, ry, q1⟩ => thn (ho pins s1 σ H1 _ I1 q1) fun u s2 ⟨x, H2, I2, rx, a, ov, ex, g, q2⟩ => ?_
  subst ex
  obtain rfl : u = Value.ref a := rx
  exact d_in hu I2 g ry fun s3 I3 => ⟨.bl ov.isSome, H2, I3, rfl, q2⟩
theorem pc_dnotin (hu : X.A.units + 1 < cLine) (hi : PE X i ty) (ho : PE X o td) : PC X .NotIn i o (tDNotIn ty td) := by
  intro pins s σ H Q I h
  refine thn (hi pins s σ H _ I h) fun iv s1 ⟨y, H1, I1, ry, q1⟩ => thn (ho pins s1 σ H1 _ I1 q1) fun u s2 ⟨x, H2, I2, rx, a, ov, ex, g, q2⟩ => ?_
  subst ex
  obtain rfl : u = Value.ref a := rx
  exact d_notIn hu I2 g ry fun s3 I3 => ⟨.bl (!ov.isSome), H2, I3, rfl, q2⟩
theorem ps_dput (hu : X.A.units + 1 < cLine) (ho : PE X o td) (hi : PE X i ty) (hv : PE X value tv) (hs : swapsWith value (some (.Subscript o i pos')) pos.line X.env = pure false) :
    PS X (.Assign [.Subscript o i pos'] value pos) (sDPut td ty tv) := by
  intro pins s σ H D I h
  refine wpAny_Assign_Subscript (thn (hv pins s σ H _ I h) fun r s1 ⟨v, H1, I1, rv, q1⟩ => thn (ho pins s1 σ H1 _ I1 q1) fun u s2 ⟨x, H2, I2, rx, q2⟩ => thn (hi pins s2 σ H2 _ I2 q2) fun iv s3 ⟨y, H3, I3, ry, a, H4, ex, g, q3⟩ => ?_) hs
  subst ex
  obtain rfl : u = Value.ref a := rx
  exact d_setItem hu I3 g ry rv fun s4 I4 => ⟨σ, H4, I4, q3⟩
end
theorem dt_empty {P : Program} {w : World} {H : Hp} (h : Heap) (hb : sysModules < h.objs.size) : ObjOk P w H (h.push { cls := .type "dict", data := .dict #[] }) h.objs.size (.dT []) :=
  ⟨Nat.zero_le _, beq_eq_false_iff_ne.mpr (Ne.symm (Nat.ne_of_lt hb)), [], .nil, _, #[], 0, Heap.get?_push_size _ rfl, ⟨rfl, rfl, rfl⟩, rfl, rfl, List.nodup_nil⟩
def tDNewK : TE := fun _ H Q => ∀ p, H p = none → Q (.ref p) (upd H p (.dK []))
def tDNewT : TE := fun _ H Q => ∀ p, H p = none → Q (.ref p) (upd H p (.dT []))
section
variable {X : Cx} {pos : Pos}
theorem pe_dnewT : PE X (.Dict [] [] pos) tDNewT := fun pins s σ H Q I h =>
  wpAny_Dict_empty ⟨.ref s.heap.objs.size, _, I.laid (a := s.heap.objs.size) (o := .dT []) (t' := s.toks) (fun _ _ q => Heap.get?_push_of_some _ q) (Nat.le_refl _) (dt_empty s.heap I.big), rfl, h _ (I.hok.fresh (Nat.le_refl _))⟩
end
def tPairs : List (TE × TE) → St → Hp → (List (V × V) → Hp → Prop) → Prop
  | [], _, H, Q => Q [] H
  | (tk, tv) :: r, σ, H, Q => tk σ H fun x H1 => tv σ H1 fun y H2 => tPairs r σ H2 fun ps H3 => Q ((x, y) :: ps) H3
abbrev VV : List (V × V) → List (Value × Value) → Prop := Paired fun p q => RelV p.1 q.1 ∧ RelV p.2 q.2
def PPs (X : Cx) (pos : Pos) (keys : List (Option Expr)) (values : List Expr) (trs : List (TE × TE)) : Prop :=
  ∀ (pins : List (Addr × Obj)) (s : Shared) (σ : St) (H : Hp) (Q : List (V × V) → Hp → Prop), Inv X pins σ H s → tPairs trs σ H Q →
    wpAny (model X.prog X.w) X.A (evalPairs (pairTrees keys values X.env pos)) (fun vs s' => ∃ ps H', Inv X pins σ H' s' ∧ VV ps vs ∧ Q ps H') X.xe s
def mergeK (kvs more : List (Key × V)) : List (Key × V) := more.foldl (fun acc kv => putK acc kv.1 kv.2) kvs
def tDisp (trs : List (TE × TE)) : TE := fun σ H Q => ∀ p, H p = none → tPairs trs σ (upd H p (.dK [])) fun ps H2 => H2 p = some (.dK []) ∧ ∃ kvs : List (Key × V), ps = kvs.map (fun kv => (kV kv.1, kv.2)) ∧ kvs.length ≤ 15 ∧ Q (.ref p) (upd H2 p (.dK (mergeK [] kvs)))
structure M1 (X : Cx) (o : Expr) (m : Str) (apos : Pos) (e : Expr) (cpos : Pos) : Prop where
  base : attributeBase o m X.env (eval o X.env) = eval o X.env
  few : ((backTo cpos (starEach [e] X.env)).all (fun x => !x.1) && (backToKw cpos (keywordEach [] X.env)).all (fun x => x.1.isSome)
    && decide (([e] : List Expr).length + ([] : List Keyword).length + (if ([] : List Keyword).isEmpty then 0 else 1) < 30)) = true
  line : (apos.endLine == cpos.line) = true
  trees : backTo cpos (starEach [e] X.env) = [(false, eval e X.env)]
structure M2 (X : Cx) (o : Expr) (m : Str) (apos : Pos) (e f : Expr) (cpos : Pos) : Prop where
  base : attributeBase o m X.env (eval o X.env) = eval o X.env
  few : ((backTo cpos (starEach [e, f] X.env)).all (fun x => !x.1) && (backToKw cpos (keywordEach [] X.env)).all (fun x => x.1.isSome)
    && decide (([e, f] : List Expr).length + ([] : List Keyword).length + (if ([] : List Keyword).isEmpty then 0 else 1) < 30)) = true
  line : (apos.endLine == cpos.line) = true
  trees : backTo cpos (starEach [e, f] X.env) = [(false, eval e X.env), (false, eval f X.env)]
def IsD (H : Hp) (a : Addr) : Prop := (∃ kvs, Rd H a (.dK kvs)) ∨ ∃ kvs, Rd H a (.dT kvs)
theorem isD_at {X : Cx} {pins : List (Addr × Obj)} {σ : St} {H : Hp} {s : Shared} {a : Addr} (I : Inv X pins σ H s) (d : IsD H a) :
    s.TypeIs (.ref a) "dict" ∧ (∀ b, Value.ref a = .ref b → ∃ ob, s.heap.get? b = some ob ∧ ob.dict = none) ∧ (a == sysModules) = false := by
  rcases d with ⟨kvs, e⟩ | ⟨kvs, e⟩
  · obtain ⟨_, hd, vs, _, dd⟩ := dk_rd I.hok e
    refine ⟨dd.typeIs, fun b q => ?_, hd⟩
    cases q
    obtain ⟨ob, _, _, h1, h2, _⟩ := dd
    exact ⟨ob, h1, h2.2.1⟩
  · obtain ⟨_, hd, xs, _, dd⟩ := dt_rd I.hok e
    refine ⟨dd.typeIs, fun b q => ?_, hd⟩
    cases q
    obtain ⟨ob, _, _, h1, h2, _⟩ := dd
    exact ⟨ob, h1, h2.2.1⟩
section
variable {X : Cx} {pins : List (Addr × Obj)} {σ : St} {H : Hp} {s : Shared} {a : Addr} {y d : V} {u r : Value} {o : Option V} {A : Around} {E : Value → Shared → Prop}
theorem d_get2 {Q : Value → Shared → Prop} (hu : A.units + 1 < cLine) (I : Inv X pins σ H s) (g : DGet H a y o) (ry : RelV y u) (rd : RelV d r) (h : ∀ w' s', Inv X pins σ H s' → RelV (o.getD d) w' → Q w' s') :
    wpAny (model X.prog X.w) A (call (.builtin "dict.get") [.ref a, u, r]) Q E s := by
  rcases g with ⟨kvs, k, e, ey, l⟩ | ⟨kvs, k, b, e, ey, eb, l⟩
  · subst ey
    obtain ⟨z, hd, vs, rel, dd⟩ := dk_rd I.hok e
    refine call_meetsIn PySem.F.slot_dict_get dd.typeIs PySem.F.entry_dict_get (PySem.F.args_dict_get_3 _ _ _) (meets_dict_get_default (mixKind X.prog X.w) a (kV_is ry) hd r) ⟨_, dd.mapOf, h _ _ (I.tok _) ?_⟩
    rw [l]
    exact (rel.val k).getD rd
  · subst ey
    cases (show u = Value.ref b from ry)
    obtain ⟨z, hd, xs, rel, dd⟩ := dt_rd I.hok e
    refine call_meetsIn PySem.F.slot_dict_get dd.typeIs PySem.F.entry_dict_get (PySem.F.args_dict_get_3 _ _ _) (meetsH_dict_get_default (tupleKind (mixKind X.prog X.w)) a b hd r) ⟨tupleKind_room_in1 hu, k, xs, key_of I.hok eb, dd, h _ _ (I.tok _) ?_⟩
    rw [l]
    exact (rel.val k).getD rd
end
def tDGet2 (td ty tx : TE) : TE := fun σ H Q => td σ H fun x H1 => ∃ a, x = .ref a ∧ IsD H1 a ∧ ty σ H1 fun y H2 => tx σ H2 fun z H3 => ∃ o, DGet H3 a y o ∧ Q (o.getD z) H3
section
variable {X : Cx} {o e f : Expr} {apos cpos : Pos} {td ty tx : TE}
theorem pe_dget2 (hu : X.A.units + 1 < cLine) (ho : PE X o td) (he : PE X e ty) (hf : PE X f tx) (m : M2 X o "get" apos e f cpos) : PE X (.Call (.Attribute o "get" apos) [e, f] [] cpos) (tDGet2 td ty tx) := by
  intro pins s σ H Q I h
  refine wpAny_Call_method m.base m.few m.line PySem.F.plainAttrs_dict PySem.F.slot_dict_get PySem.F.type_dict_get (thn (ho pins s σ H _ I h) fun u s1 ⟨x, H1, I1, rx, a, ex, d, q1⟩ => ?_)
  subst ex
  obtain rfl : u = Value.ref a := rx
  obtain ⟨t1, t2, _⟩ := isD_at I1 d
  refine ⟨t1, t2, ?_⟩
  rw [m.trees]
  refine Calls.callWith_builtin rfl (Calls.evalArgs_plain (Calls.spliced_cons (thn (he pins s1 σ H1 _ I1 q1) fun iv s2 ⟨y, H2, I2, ry, q2⟩ =>
    Calls.spliced_cons (thn (hf pins s2 σ H2 _ I2 q2) fun fv s3 ⟨z, H3, I3, rz, ov, g, q3⟩ => Calls.spliced_nil ?_))))
  exact d_get2 hu I3 g ry rz fun w' s4 I4 rw' => ⟨_, H3, I4, rw', q3⟩
end
section
variable {X : Cx} {pins : List (Addr × Obj)} {σ : St} {H : Hp} {s : Shared} {a : Addr} {kvs : List (Key × V)} {A : Around} {E : Value → Shared → Prop}
end
section
variable {X : Cx} {pins : List (Addr × Obj)} {σ : St} {H : Hp} {s : Shared} {a : Addr} {y : V} {u : Value} {A : Around} {E : Value → Shared → Prop}
end
end L2
namespace Att
open PySem PySem.W PySem.Calls PyProof.Rows
theorem ints_of_wellAll {P : Params} {h : Heap} : ∀ (ns : List Int) (vs : List Value), WellAll P h vs (ns.map WData.int) → IntsAre vs ns := by
  intro ns
  induction ns with
  | nil =>
    intro vs w
    rw [List.map_nil] at w
    cases w
    exact .nil
  | cons n ns ih =>
    intro vs w
    rw [List.map_cons] at w
    cases w with
    | cons a b =>
      cases a
      exact .cons _ _ (ih _ b)
theorem script_of {l : OpenLaw} {n : Nat} (hn : l.most = some n) {P : Params} {h : Heap} {args : List WData} {vals : List Value}
    (hpre : l.row.toRowW.claim.pre args = true) (hwl : WellAll P h vals args) :
    ∃ a vs ns, vals = [Value.ref a] ∧ args = [WData.list (ns.map WData.int)] ∧ h.get? a = some { cls := .type "list", data := .seq vs.toArray } ∧ IntsAre vs ns ∧ ns.length ≤ n := by
  have hsh : WShape.hasAll [] args [.list .int] = true := (pre_splitW hpre).1
  have hc : l.pre.holds [] { args := args } = true := (pre_splitW hpre).2
  obtain ⟨d, r, rfl, h1, h2⟩ := hasAllW_cons hsh
  obtain rfl := hasAllW_nil h2
  obtain ⟨xs, rfl, h3⟩ := hasW_list h1
  obtain ⟨ns, rfl⟩ := items_int h3
  have hlen : ns.length ≤ n := by
    unfold OpenLaw.pre at hc
    have h4 : (WTm.not (.lt (.lit (.int (n : Int))) (.len (.arg 0)))).holds [] { args := [.list (ns.map .int)] } = true := by
      have h4 := (holds_andW hc).1
      rw [hn] at h4
      exact h4
    have h5 := condW_of h4 (w_not (w_lt w_lit (w_len_list (w_arg rfl))))
    rw [List.length_map] at h5
    refine Nat.le_of_not_lt fun q => ?_
    have q' : (n : Int) < ((ns.length : Nat) : Int) := by omega
    first
      | (rw [decide_eq_true q'] at h5; exact absurd h5 (by decide))
      | (simp at h5; omega)
  cases hwl with
  | cons w1 w2 =>
    cases w2
    cases w1 with
    | list ho hall => exact ⟨_, _, ns, rfl, rfl, ho, ints_of_wellAll ns _ hall, hlen⟩
theorem post_true (l : OpenLaw) (args : List WData) : l.row.toRowW.claim.post args (.bool true) args = true :=
  postW_of (r := l.row.toRowW) (X := (true == true))
    (show WShape.has [] (.bool true) .bool = true by first | rfl | decide | simp [WShape.has, WShape.arms, WShape.armsAll])
    (show (WTm.eq .res (.lit (.bool true))).value [] { args := args, res := some (.bool true), after := args } = some (.bool (true == true)) from w_eq_bool (w_res rfl) w_lit) rfl
theorem attach_call {l : OpenLaw} {n : Nat} {q : Program} {loose : List Str} {XP : (Str → Option Value) → Heap → Prop} {YP : World → Heap → Prop} {d : DefRec}
    (hn : l.most = some n) (hdf : d.params.defaults = [])
    (call : ∀ (w : World) (s₀ s₁ : Shared) (mg mb : Str → Option Value) (fa : Addr) (o : Obj) (pm cd doc : Value) (a : Addr) (vs : List Value) (ns : List Int),
      Ground q loose [] XP w s₀ mg mb s₁.heap → YP w s₁.heap →
      s₁.heap.get? fa = some o → o.data = .func (docDef d.name d.params d.body d.scope pm cd doc) → s₁.heap.CodeRec cd d.name → mg d.name = some (.ref fa) →
      s₁.heap.get? a = some { cls := .type "list", data := .seq vs.toArray } → IntsAre vs ns → ns.length ≤ n → s₁.gens = #[] →
      codeAny (model l.prog w) callerA (.call (.ref fa) ⟨[.ref a], []⟩) (fun r s' => r = .ok (.ret (.bool true)) ∧ OldK s₁.heap s'.heap ∧ s'.os = s₁.os ∧ AllBare s'.gens) s₁) :
    WalkO q loose XP YP l.row.toRowW d [] (fun f vs => PySem.call f vs) := by
  intro w s₀ s₁ mg mb G Y fa o pm cd doc dV kV ho hd hcd hD hmg hg args vals as hpre hlay hrd hwl hlo
  obtain rfl : dV = .none := Dflts.none hD hdf
  obtain rfl : kV = .none := Dflts.noKw hD
  obtain ⟨a, vs, ns, rfl, rfl, hobj, hints, hlen⟩ := script_of hn hpre hwl
  refine enter_call (codeAny_mono (call w s₀ s₁ mg mb fa o pm cd doc a vs ns G Y ho (fd_plain hd) hcd hmg hobj hints hlen hg) fun r s' hq => ?_)
  obtain ⟨rfl, h2, h3, h4⟩ := hq
  exact ⟨.inl ⟨.bool true, .bool true, [], rfl, fun _ => rfl, .bool true, post_true l _, fun _ => ⟨List.Pairwise.nil, fun _ hm => (nomatch hm)⟩⟩, h2, h3, h4⟩
section
variable {prog : Program} {w : World} {A : Around} {E : Value → Shared → Prop} {s : Shared} {K : Frag}
end
end Att
namespace L2
open PySem PySem.Spec PyProof.Rows
theorem vals_ints : ∀ {vs : List Value} {ns : List Int}, IntsAre vs ns → Vals (ns.map V.int) vs
  | _, _, .nil => .nil
  | _, _, .cons n t h => .cons ⟨t, rfl⟩ (vals_ints h)
def Only (H : Hp) : Prop := ∀ b, H b = none ∨ ∃ o xs, H b = some (.frz o (.lst xs))
theorem law_call {P : Program} {w : World} {K : PySem.W.Frag} {mg mb : Str → Option Value} {CX : CXT} {k : Nat} {fa a : Addr} {fd : FuncData} {x : Str} {sp : Sp} {s₁ : Shared} {vs : List Value} {ns : List Int}
    (KX : K.In s₁.heap) (hns : s₁.heap.Ns mainGlobals mg) (hb : s₁.heap.Ns builtinsNs mb) (hbb : ∀ x : Str, x ≠ "__name__" → mb x = bootBuiltins x) (hlim : s₁.heap.NoLimit) (hg : s₁.gens = #[])
    (ha : s₁.heap.get? a = some { cls := .type "list", data := .seq vs.toArray }) (hi : IntsAre vs ns) (hl : ns.length ≤ sizeLine) (hr : Room k callerA)
    (F : ∀ base : Heap, K.In base → base.Ns mainGlobals mg → FnOk P w K mg base CX k fa fd [x] sp) (hbind : ∀ (s : Shared) (u : Value), BindsTo s fd ⟨[u], []⟩ [(x, u)])
    (hsp : ∀ H : Hp, Only H → SqL K H a (ns.map V.int) → sp [.ref a] H (fun v _ => v = .bl true) fun _ _ _ => False)
    (hCX : ∀ H e s', CX [] H s₁ (fun _ _ _ => False) e s' → False) :
    codeAny (model P w) callerA (.call (.ref fa) ⟨[.ref a], []⟩) (fun r s' => r = .ok (.ret (.bool true)) ∧ OldK s₁.heap s'.heap ∧ s'.os = s₁.os ∧ AllBare s'.gens) s₁ := by
  have rv := vals_ints hi
  have lenV := hi.length
  -- from an abstract heap in which nothing but the script may be tracked
  have core : ∀ H : Hp, Only H → SqL K H a (ns.map V.int) → HOk P w H s₁.heap → (∀ b, H b ≠ none → b = a) → (H a ≠ none → K.lookup a = none) →
      codeAny (model P w) callerA (.call (.ref fa) ⟨[.ref a], []⟩) (fun r s' => r = .ok (.ret (.bool true)) ∧ OldK s₁.heap s'.heap ∧ s'.os = s₁.os ∧ AllBare s'.gens) s₁ := by
    intro H hO hS hok hA hK
    have base_of : ∀ {b : Addr} {o : Obj}, s₁.heap.get? b = some o → H b = none → (hidT s₁.heap H).get? b = some o := fun e n => hidT_get e n
    have noA : ∀ {b : Addr} {o : Obj} {es : Array DictEntry} {ep : Nat}, s₁.heap.get? b = some o → o.data = .dict es ep → H b = none := fun {b o es ep} e d => by
      cases q : H b with
      | none => rfl
      | some u =>
        have e' : b = a := hA b (by rw [q]; simp)
        subst e'
        rw [ha] at e; cases e
        have d' : Data.seq vs.toArray _ = Data.dict es ep := d
        cases d'
    have nsK : ∀ {b : Addr} {m : Str → Option Value}, s₁.heap.Ns b m → (hidT s₁.heap H).Ns b m := fun {b m} ⟨o, es, ep, e, d, r⟩ => ⟨o, es, ep, base_of e (noA e d), d, r⟩
    have hKb : K.In (hidT s₁.heap H) := fun b o e => base_of (KX b o e) (by
      cases q : H b with
      | none => rfl
      | some u =>
        have e' : b = a := hA b (by rw [q]; simp)
        subst e'
        rw [hK (by rw [q]; simp)] at e; cases e)
    have hM : Mod K mg (hidT s₁.heap H) := ⟨hKb, nsK hns, ⟨mb, nsK hb, hbb⟩, let ⟨mc, h1, h2⟩ := hlim; ⟨mc, nsK h1, h2⟩⟩
    have e0 : Env0 P w K mg (hidT s₁.heap H) callerA [] s₁ H := ⟨rfl, hM, fun b o e => of_hidT e, Nat.le_of_eq (hidT_size _ _), trivial, fun b hb => absurd (show b ∈ ([] : List Addr) from hb) (by simp), hok, .of_eq hg⟩
    refine codeAny_mono ((F _ hKb (nsK hns)).run callerA [] s₁ H ⟨[.ref a], []⟩ [.ref a] [.ref a] _ _ hr e0 (hbind s₁ (.ref a)) (.cons rfl .nil) (hsp H hO hS)) fun r s' h => ?_
    cases r with
    | error e => exact (hCX H e s' h).elim
    | ok fl =>
      cases fl with
      | next => exact False.elim h
      | brk => exact False.elim h
      | cont => exact False.elim h
      | ret u =>
        obtain ⟨v, H', os, bare, un, hok', r', q⟩ := h
        have q' : v = .bl true := q
        subst q'
        obtain rfl : u = Value.bool true := r'
        refine ⟨rfl, OldK.of_keep fun b o e => ?_, os, bare⟩
        cases q : H b with
        | none => exact un.keep b o e q (by intro z; exact absurd (show b ∈ ([] : List Addr) from z) (by simp)) (by simp)
        | some u =>
          rcases hO b with z | ⟨ob, xs, z⟩
          · rw [q] at z; cases z
          · have z2 := un.frzs b ob _ z
            obtain ⟨e1, _⟩ := hok b _ z
            obtain ⟨e2, _⟩ := hok' b _ z2
            rw [e] at e1; cases e1
            exact e2
  cases hk : K.lookup a with
  | some o =>
    -- the script is one of the module's own objects
    have e := KX a o hk
    rw [ha] at e
    cases e
    refine core (fun _ => none) (fun _ => .inl rfl) (.inr ⟨_, vs.toArray, _, hk, rfl, rfl, rfl, by rw [List.size_toArray, lenV]; exact hl, by simpa using rv⟩) (fun b u z => by have z' : (none : Option HO) = some u := z; cases z') (fun b z => absurd rfl z) fun z => absurd rfl z
  | none =>
    refine core (fun b => if b = a then some (.frz { cls := .type "list", data := .seq vs.toArray } (.lst (ns.map V.int))) else none) (fun b => ?_) (.inl (.inr ⟨{ cls := .type "list", data := .seq vs.toArray }, if_pos rfl⟩)) (fun b u z => ?_) (fun b z => ?_) fun _ => hk
    · by_cases hb : b = a
      · exact .inr ⟨_, _, if_pos hb⟩
      · exact .inl (if_neg hb)
    · by_cases hb : b = a
      · have z' := (if_pos hb).symm.trans z
        cases z'
        subst hb
        exact ⟨ha, by rw [List.length_map]; exact hl, vs, _, rv, ha⟩
      · have z' := (if_neg hb).symm.trans z
        cases z'
    · by_cases hb : b = a
      · exact hb
      · exact absurd (if_neg hb) z
end L2
namespace L2
open PySem PySem.Spec PyProof.Rows
theorem walk_of {l : PySem.W.OpenLaw} {n k : Nat} {q : Program} {loose : List Str} {XP : (Str → Option Value) → Heap → Prop} {YP : World → Heap → Prop} {d : DefRec} {K : Params → PySem.W.Frag} {CX : World → CXT} {sp : World → Sp} {x : Str}
    (hn : l.most = some n) (hn2 : n ≤ sizeLine) (hdf : d.params.defaults = []) (hr : Room k callerA)
    (hY : ∀ (w : World) (h : Heap), YP w h → (K w.params).In h)
    (F : ∀ (w : World) (mg : Str → Option Value) (fa : Addr) (h : Heap), (K w.params).In h → h.Ns mainGlobals mg → mg d.name = some (.ref fa) →
      ∃ fd : FuncData, (∀ (s : Shared) (u : Value), BindsTo s fd ⟨[u], []⟩ [(x, u)]) ∧
        ∀ base : Heap, (K w.params).In base → base.Ns mainGlobals mg → FnOk l.prog w (K w.params) mg base (CX w) k fa fd [x] (sp w))
    (hsp : ∀ (w : World) (H : Hp) (a : Addr) (ns : List Int), ns.length ≤ n → Only H → SqL (K w.params) H a (ns.map V.int) → sp w [.ref a] H (fun v _ => v = .bl true) fun _ _ _ => False)
    (hCX : ∀ (w : World) (H : Hp) (s : Shared) (e : Value) (s' : Shared), CX w [] H s (fun _ _ _ => False) e s' → False) :
    PySem.W.WalkO q loose XP YP l.row.toRowW d [] (fun f vs => PySem.call f vs) := by
  refine Att.attach_call hn hdf fun w s₀ s₁ mg mb fa o pm cd doc a vs ns G Y ho hd hcd hmg hobj hints hlen hg => ?_
  have KX := hY w _ Y
  obtain ⟨fd, hb, hF⟩ := F w mg fa _ KX G.T.g hmg
  exact law_call KX G.T.g G.T.b G.T.builtins G.T.nolimit hg hobj hints (Nat.le_trans hlen hn2) hr hF hb (fun H hO hS => hsp w H a ns hlen hO hS) fun H e s' => hCX w H s₁ e s'
end L2
namespace L2
open PySem PySem.Spec PyProof.Rows
def inClass (s : Stmt) (j : Nat) : Stmt := match s with
  | .ClassDef _ _ _ body _ _ _ _ _ _ _ => body.getD j (.Pass ⟨0, 0, 0, 0⟩)
  | _ => .Pass ⟨0, 0, 0, 0⟩
def defArgs (s : Stmt) : Arguments := match s with
  | .FunctionDef _ a _ _ _ _ _ _ _ _ => a
  | _ => { posonlyargs := [], args := [], vararg := none, kwonlyargs := [], kw_defaults := [], kwarg := none, defaults := [] }
def defBody (s : Stmt) : List Stmt := match s with
  | .FunctionDef _ _ b _ _ _ _ _ _ _ => b
  | _ => []
def defScope (s : Stmt) : Scope := match s with
  | .FunctionDef _ _ _ _ _ _ sc _ _ _ => sc
  | _ => { kind := .function, names := [], isGenerator := false, isCoroutine := false }
abbrev CX0 : CXT := fun _ _ _ _ _ _ => False
abbrev E0 : XK := fun _ _ _ => False
theorem pass0 {X : Cx} : Passes CX0 X E0 := fun _ _ _ _ _ _ _ h => h.elim
structure Fun (K : PySem.W.Frag) (x qual : Str) (st : Stmt) (f : Addr) (fd : FuncData) : Prop where
  ex : ∃ (oc : Value) (od : Option Addr) (kV doc pm : Value) (an : Option Addr) (cdv ct : Value) (osl : Array (Option Value)),
    fd = PySem.W.fnOf x qual (defArgs st) (defBody st) (defScope st) .none kV doc pm an cdv ct ∧ K.lookup f = some ⟨oc, od, .func fd, osl⟩ ∧ PySem.W.codeIn K cdv qual = true
  kp : PySem.W.keepIn K (.ref f) = true
section
variable {P : Program} {w : World} {K : PySem.W.Frag} {mg : Str → Option Value} {base : Heap}
theorem Fun.ok {x qual : Str} {st : Stmt} {f : Addr} {fd : FuncData} {N ps : List Str} {k : Nat} {sp : Sp} (F : Fun K x qual st f fd) (S : FnScope N ps (defScope st)) (len : ∀ vs H Q E, sp vs H Q E → vs.length = ps.length)
    (hbody : ∀ (cdv : Value) (A : Around) (outer : List Env) (s : Shared) (H : Hp) (vs : List V) (Q : VK) (E : XK), Room k (A.deeper (envOfC qual (defScope st) s.heap.objs.size f cdv)) → sp vs H Q E →
      ∃ t, PSs (cxOf CX0 P w K mg base N qual (defScope st) f cdv A outer s H E).nox (defBody st) t ∧ t { nx := fun _ H' => Q .non H', rt := Q } (start N vs) H) : FnOk P w K mg base CX0 (k + 1) f fd ps sp := by
  obtain ⟨oc, od, kV, doc, pm, an, cdv, ct, osl, rfl, lk, hcd⟩ := F.ex
  refine fn_of lk hcd S len fun A outer s H vs Q E hr hsp => ?_
  obtain ⟨t, h, q⟩ := hbody cdv A outer s H vs Q E hr hsp
  exact ⟨t, h.nox, q⟩
theorem Fun.binds {x qual : Str} {st : Stmt} {f : Addr} {fd : FuncData} {ps : List Str} (F : Fun K x qual st f fd)
    (h : ∀ (kV doc pm : Value) (an : Option Addr) (cdv ct : Value) (us : List Value), us.length = ps.length → bindArgs (PySem.W.fnOf x qual (defArgs st) (defBody st) (defScope st) .none kV doc pm an cdv ct) ⟨us, []⟩ = pure (ps.zip us)) : Binds K fd ps [] := by
  obtain ⟨oc, od, kV, doc, pm, an, cdv, ct, osl, rfl, lk, hcd⟩ := F.ex
  exact .all (h kV doc pm an cdv ct)
theorem fun_mk {x qual : Str} {st : Stmt} {f : Addr} {oc : Value} {od an : Option Addr} {osl : Array (Option Value)} {kV doc pm cdv ct : Value} (l : K.lookup f = some ⟨oc, od, .func (PySem.W.fnOf x qual (defArgs st) (defBody st) (defScope st) .none kV doc pm an cdv ct), osl⟩)
    (c : PySem.W.codeIn K cdv qual = true) (k : PySem.W.keepIn K (.ref f) = true) : Fun K x qual st f (PySem.W.fnOf x qual (defArgs st) (defBody st) (defScope st) .none kV doc pm an cdv ct) := ⟨⟨oc, od, kV, doc, pm, an, cdv, ct, osl, rfl, l, c⟩, k⟩
end
theorem hu_of {A : Around} {k : Nat} (hr : Room k A) : A.units + 1 < cLine := Nat.lt_of_le_of_lt (Nat.add_le_add_left (by decide : 1 ≤ 64) _) hr.units
theorem small1000 {n : Nat} (h : n ≤ 1000) : n < sizeLine := Nat.lt_of_le_of_lt h (by decide)
section
variable {X : Cx}
theorem pv (i : Nat) {x : Str} {pos : Pos} (hN : X.N[i]? = some x := by rfl) (hv : Vis X.env.scope x := by first | exact Or.inl rfl | exact Or.inr (Or.inl rfl) | exact Or.inr (Or.inr rfl)) (hd : (x == ("__debug__" : Str)) = false := by decide)
    (hcd : (x == ("__classdict__" : Str)) = false := by decide) : PE X (.Name x pos) (tVar i) := pe_var hN hv hd hcd
end
theorem iteF {A B : Prop} (h : B) : if false = true then A else B := by
  rw [if_neg Bool.false_ne_true]
  exact h
theorem iteT {A B : Prop} (h : A) : if true = true then A else B := by
  rw [if_pos rfl]
  exact h
def Same (H H' : Hp) : Prop := ∀ b o, H b = some o → H' b = some o
theorem Same.refl (H : Hp) : Same H H := fun _ _ h => h
theorem Same.trans {H H1 H2 : Hp} (a : Same H H1) (b : Same H1 H2) : Same H H2 := fun c o h => b c o (a c o h)
theorem Same.free {H H' : Hp} (e : Same H H') {l : Addr} (h : H' l = Option.none) : H l = Option.none := by
  cases q : H l with
  | none => rfl
  | some o =>
    rw [e l o q] at h
    cases h
theorem Same.seq {K : PySem.W.Frag} {H H' : Hp} {a : Addr} {xs : List V} (e : Same H H') (h : SqL K H a xs) : SqL K H' a xs := by
  rcases h with (h | ⟨o, h⟩) | h
  · exact .inl (.inl (e _ _ h))
  · exact .inl (.inr ⟨o, e _ _ h⟩)
  · exact .inr h
end L2
namespace L2
open PySem PySem.Spec PyProof.Rows
section
variable {X : Cx}
end
section
variable {κ : Type} [DecidableEq κ]
end
end L2
set_option Elab.async false
set_option linter.all false
set_option maxRecDepth 100000
namespace L2
open PySem PySem.Spec PyProof.Rows
def closL (env : Env) : List (Str × NameKind) → List (Str × Addr) → List (Str × Addr)
  | [], cs => cs
  | (n, k) :: r, cs => if (k == NameKind.free) = true then closL env r ((n, (env.cells.lookup n).getD 0) :: cs) else closL env r cs
theorem closureFor_is {scope : Scope} {env : Env} (h : ∀ x ∈ scope.names, x.2 = .free → ∃ c, env.cells.lookup x.1 = some c) : closureFor scope env = pure (closL env scope.names []) := by
  unfold closureFor
  have go : ∀ (l : List (Str × NameKind)) (cs : List (Str × Addr)), (∀ x ∈ l, x.2 = .free → ∃ c, env.cells.lookup x.1 = some c) →
      (forIn l cs fun (x : Str × NameKind) (r : List (Str × Addr)) => (match x with
        | (name, kind) => if (kind == NameKind.free) = true then do let a ← cellOf env name; pure (ForInStep.yield ((name, a) :: r)) else pure (ForInStep.yield r) : Sem (ForInStep (List (Str × Addr))))) = (pure (closL env l cs) : Sem (List (Str × Addr))) := by
    intro l
    induction l with
    | nil => intro cs _; rfl
    | cons x r ih =>
      intro cs hl
      obtain ⟨n, k⟩ := x
      rw [List.forIn_cons]
      by_cases hk : (k == NameKind.free) = true
      · obtain ⟨c, hc⟩ := hl (n, k) List.mem_cons_self (by simpa using hk)
        have e : cellOf env n = pure c := by unfold cellOf; rw [hc]
        simp only [hk, if_true, e, pure_bind]
        rw [ih _ fun y hy => hl y (List.mem_cons_of_mem _ hy)]
        rw [closL, if_pos hk, hc]
        rfl
      · simp only [hk, if_false, Bool.false_eq_true, pure_bind]
        rw [ih _ fun y hy => hl y (List.mem_cons_of_mem _ hy)]
        rw [closL, if_neg hk]
  have q := go scope.names [] h
  simp only [pure_bind, bind_pure] at q ⊢
  exact q
theorem closL_lookup {env : Env} {y : Str} {c : Addr} : ∀ (l : List (Str × NameKind)) (cs : List (Str × Addr)), (∀ x ∈ l, x.2 = .free → ∃ c, env.cells.lookup x.1 = some c) →
    (∀ z d, cs.lookup z = some d → env.cells.lookup z = some d) → (closL env l cs).lookup y = some c → env.cells.lookup y = some c
  | [], cs, _, hc, e => hc _ _ e
  | (n, k) :: r, cs, h, hc, e => by
    have hr : ∀ x ∈ r, x.2 = .free → ∃ c, env.cells.lookup x.1 = some c := fun x hx => h x (List.mem_cons_of_mem _ hx)
    by_cases hk : (k == NameKind.free) = true
    · rw [closL, if_pos hk] at e
      refine closL_lookup r _ hr (fun z d ez => ?_) e
      obtain ⟨c', hc'⟩ := h (n, k) List.mem_cons_self (by simpa using hk)
      rw [List.lookup_cons] at ez
      cases hz : z == n with
      | true =>
        rw [hz] at ez
        have hz' : z = n := eq_of_beq hz
        subst hz'
        have e2 : (env.cells.lookup z).getD 0 = d := Option.some.inj ez
        have hc'' : env.cells.lookup z = some c' := hc'
        rw [hc''] at e2 ⊢
        exact congrArg some e2
      | false => rw [hz] at ez; exact hc z d ez
    · rw [closL, if_neg hk] at e
      exact closL_lookup r cs hr hc e
theorem closL_has {env : Env} {y : Str} : ∀ (l : List (Str × NameKind)) (cs : List (Str × Addr)), ((y, NameKind.free) ∈ l ∨ ∃ c, cs.lookup y = some c) → ∃ c, (closL env l cs).lookup y = some c
  | [], cs, h => h.elim (fun z => nomatch z) fun z => z
  | (n, k) :: r, cs, h => by
    by_cases hk : (k == NameKind.free) = true
    · rw [closL, if_pos hk]
      refine closL_has r _ ?_
      rcases h with h | ⟨c, h⟩
      · rcases List.mem_cons.mp h with h | h
        · cases h
          exact .inr ⟨_, by rw [List.lookup_cons, beq_self_eq_true]⟩
        · exact .inl h
      · cases hz : y == n with
        | true => exact .inr ⟨_, by rw [List.lookup_cons, hz]⟩
        | false => exact .inr ⟨c, by rw [List.lookup_cons, hz]; exact h⟩
    · rw [closL, if_neg hk]
      refine closL_has r _ ?_
      rcases h with h | h
      · rcases List.mem_cons.mp h with h | h
        · cases h
          exact absurd rfl hk
        · exact .inl h
      · exact .inr h
theorem lookup_relabel {env : Env} : ∀ {names : List (Str × NameKind)} {x : Str} {k' : NameKind},
    (names.map fun (n, k) => if (k == NameKind.free && env.scope.kind == .function && env.kindOf n == some .cell) then (n, NameKind.cell) else (n, k)).lookup x = some k' →
    names.lookup x = some k' ∨ (names.lookup x = some .free ∧ k' = .cell)
  | [], _, _, h => by simp at h
  | (n, k) :: r, x, k', h => by
    have ih := @lookup_relabel env r x k'
    have h : List.lookup x ((if (k == NameKind.free && env.scope.kind == .function && env.kindOf n == some .cell) = true then (n, NameKind.cell) else (n, k)) :: _) = some k' := h
    rw [List.lookup_cons]
    by_cases hc : (k == NameKind.free && env.scope.kind == .function && env.kindOf n == some .cell) = true
    · rw [if_pos hc, List.lookup_cons] at h
      cases hx : x == n with
      | true =>
        rw [hx] at h
        have e1 : NameKind.cell = k' := Option.some.inj h
        simp only [Bool.and_eq_true] at hc
        exact .inr ⟨congrArg some (eq_of_beq hc.1.1), e1.symm⟩
      | false => rw [hx] at h; exact ih h
    · rw [if_neg hc, List.lookup_cons] at h
      cases hx : x == n with
      | true => rw [hx] at h; exact .inl h
      | false => rw [hx] at h; exact ih h
theorem relabel_free {env : Env} : ∀ {names : List (Str × NameKind)} {x : Str}, names.lookup x = some .free →
    (names.map fun (n, k) => if (k == NameKind.free && env.scope.kind == .function && env.kindOf n == some .cell) then (n, NameKind.cell) else (n, k)).lookup x = some .cell ∨
    (names.map fun (n, k) => if (k == NameKind.free && env.scope.kind == .function && env.kindOf n == some .cell) then (n, NameKind.cell) else (n, k)).lookup x = some .free
  | [], _, h => by simp at h
  | (n, k) :: r, x, h => by
    have ih := @relabel_free env r x
    show List.lookup x ((if (k == NameKind.free && env.scope.kind == .function && env.kindOf n == some .cell) = true then (n, NameKind.cell) else (n, k)) :: _) = _ ∨ List.lookup x ((if (k == NameKind.free && env.scope.kind == .function && env.kindOf n == some .cell) = true then (n, NameKind.cell) else (n, k)) :: _) = _
    rw [List.lookup_cons] at h
    by_cases hc : (k == NameKind.free && env.scope.kind == .function && env.kindOf n == some .cell) = true
    · rw [if_pos hc, List.lookup_cons]
      cases hx : x == n with
      | true => exact .inl rfl
      | false => rw [hx] at h; exact ih h
    · rw [if_neg hc, List.lookup_cons]
      cases hx : x == n with
      | true => rw [hx] at h; exact .inr h
      | false => rw [hx] at h; exact ih h
structure LcScope (xs ys : List Str) (scope around : Scope) : Prop where
  kind : scope.kind = .function
  nd : (xs ++ ys).Nodup
  own : ∀ x ∈ xs, scope.names.lookup x = some .local
  cap : ∀ y ∈ ys, scope.names.lookup y = some .free ∧ (around.names.lookup y = some .cell ∨ around.names.lookup y = some .free)
  nocell : ∀ y ∈ scope.names, y.2 ≠ .cell
  names : ∀ y ∈ scope.names, y.2 = .local → scope.names.lookup y.1 = some .local
  free : ∀ y ∈ scope.names, y.2 = .free → y.1 ∈ ys
def blockCx (X : Cx) (xs ys : List Str) (scope : Scope) (C : Addr) (s₀ : Shared) (H₀ : Hp) (fp : List Addr) : Cx where
  prog := X.prog
  w := X.w
  K := X.K
  mg := X.mg
  base := X.base
  A := X.A
  N := xs ++ ys
  s₀ := s₀
  H₀ := H₀
  env := compEnvC scope (closL X.env scope.names []) C X.env
  outer := X.stack
  stack := X.stack
  ex := fp
  fn := fun _ => false
  calm := X.calm
  pn := []
  xe := fun _ _ => False
def lcSt (xs : List Str) (js : List Nat) (σ : St) : St := xs.map (fun _ => none) ++ js.map fun j => (σ[j]?).join
def LcW (J : It) (n : List Str) (js : List Nat) (g : TG) (tc : Option TT) (te : TE) (σ : St) (H1 : Hp) (Q : VK) : Prop := ∃ W : Nat → Nat → List V → St → Hp → Prop, (∃ m, W 0 m [] (lcSt n js σ) H1) ∧ ∀ i m ys σ1 H, W i m ys σ1 H →
  (J.stop i H ∧ ∀ p, H p = none → Q (.ref p) (upd H p (.lst ys))) ∨
  (J.go i H ∧ ys.length < sizeLine ∧ ∀ x H', J.yld i H x H' → g x σ1 H' fun σ2 H2 => match tc with
    | none => te σ2 H2 fun y H3 => ∃ m', m' < m ∧ W (i + 1) m' (ys ++ [y]) σ2 H3
    | some c => c σ2 H2 fun b H3 => if b = true then te σ2 H3 fun y H4 => ∃ m', m' < m ∧ W (i + 1) m' (ys ++ [y]) σ2 H4 else ∃ m', m' < m ∧ W (i + 1) m' ys σ2 H3)
def tLC (n : List Str) (js : List Nat) (wi : TI) (g : TG) (tc : Option TT) (te : TE) : TE := fun σ H Q => wi σ H fun J H1 => LcW J n js g tc te σ H1 Q
def PIf (X : Cx) (ifs : List Expr) (tc : Option TT) : Prop := match ifs, tc with
  | [], none => True
  | [c], some t => PT X c t
  | _, _ => False
section
variable {X : Cx} {pins : List (Addr × Obj)} {σ : St} {H : Hp} {s : Shared} {xs ys : List Str} {scope : Scope} {fp : List Addr} {C D : Addr} {js : List Nat}
def Caps (X : Cx) (ys : List Str) (js : List Nat) : Prop := js.length = ys.length ∧ ∀ (i : Nat) (y : Str) (j : Nat), ys[i]? = some y → js[i]? = some j → X.N[j]? = some y
theorem clos_ok (I : Inv X pins σ H s) (S : LcScope xs ys scope X.env.scope) : ∀ x ∈ scope.names, x.2 = .free → ∃ c, X.env.cells.lookup x.1 = some c := fun x hx hf =>
  I.ok.has x.1 ((S.cap x.1 (S.free x hx hf)).2.elim .inl .inr)
theorem clos_look (I : Inv X pins σ H s) (S : LcScope xs ys scope X.env.scope) {y : Str} {c : Addr} (e : (closL X.env scope.names []).lookup y = some c) : X.env.cells.lookup y = some c :=
  closL_lookup scope.names [] (clos_ok I S) (fun _ _ z => nomatch z) e
theorem block_start (I : Inv X pins σ H s) (S : LcScope xs ys scope X.env.scope) (hj : Caps X ys js) (f2 : ∀ b ∈ fp, FpOk X pins H b) (fo : ∀ b ∈ fp, b < s.heap.objs.size)
    {h₁ : Heap} {m : Str → Option Value} {tk : Nat} {oD : Obj} (hC : s.heap.objs.size ≤ C) (hD : s.heap.objs.size ≤ D) (hDC : D ≠ C) (hn : h₁.Ns C m) (hd : h₁.get? D = some oD) (hdd : ∀ v, oD.data ≠ .cell v)
    (old : ∀ b o, s.heap.get? b = some o → h₁.get? b = some o) :
    Inv (blockCx X xs ys scope C s H fp) [(D, oD)] (lcSt xs js σ) H { s with heap := h₁, toks := tk } := by
  have cl := fun y c => clos_look (y := y) (c := c) I S
  have nC : H C = none := I.hok.fresh hC
  have nD : H D = none := I.hok.fresh hD
  have lt_of : ∀ {b : Addr}, b < s.heap.objs.size → b ≠ C := fun hb => Nat.ne_of_lt (Nat.lt_of_lt_of_le hb hC)
  have fsub : ∀ b, b ∈ frs X.stack → b ∈ X.env.locals :: X.fs := I.stkSub
  refine ⟨⟨I.ok.mod, ?_, I.ok.glob, I.ok.blt, hC, fun x y c h1 h2 => I.ok.inj x y c (cl x c h1) (cl y c h2), fun x hx => ?_, (fun x c h => nomatch h), I.ok.hd, I.ok.frames, .inl rfl, fun b hb => ⟨lt_of (fo b hb), fun x c h => (f2 b hb).2.2.2.2.1 x c (cl x c h)⟩, I.bs,
    Nat.le_trans I.ok.bsz I.sz, fun b o e hb => ?_, fun b hb hf => ?_, I.stack, I.stkFree⟩,
    rfl, I.bare, Un.kept old, ⟨m, hn, fun i x v e1 e2 e3 => ?_⟩, fun x c h => ?_, nC, fun x c h => I.freeC x c (cl x c h), fun p hp => ?_, I.hok.kept old, ?_⟩
  · show scope.kind = _
    exact S.kind
  · have hx : (relabel scope X.env).names.lookup x = some .cell ∨ (relabel scope X.env).names.lookup x = some .free := hx
    have hm : (x, NameKind.free) ∈ scope.names := by
      rcases hx with hx | hx
      · rcases lookup_relabel hx with z | z
        · exact absurd rfl (S.nocell _ (PySem.mem_of_lookup z))
        · exact PySem.mem_of_lookup z.1
      · rcases lookup_relabel hx with z | z
        · exact PySem.mem_of_lookup z
        · exact nomatch z.2
    exact closL_has scope.names [] (.inl hm)
  · rcases (f2 b hb).2.2.2.1 with z | z
    · exact I.ok.noex b o e z
    · exact absurd (Nat.lt_of_lt_of_le (Heap.lt_size e) (Nat.le_trans I.ok.bsz z)) (Nat.lt_irrefl _)
  · rcases List.mem_cons.mp (fsub b hf) with z | z
    · exact (f2 b hb).2.1 z
    · exact (f2 b hb).2.2.1 z
  · have e1 : (xs ++ ys)[i]? = some x := e1
    have e2 : (xs.map (fun _ => (none : Option V)) ++ js.map fun j => (σ[j]?).join)[i]? = some (some v) := e2
    by_cases hi : i < xs.length
    · rw [List.getElem?_append_left (by simpa using hi), List.getElem?_map] at e2
      cases q : xs[i]? with
      | none => rw [q] at e2; cases e2
      | some z => rw [q] at e2; cases e2
    · rw [List.getElem?_append_right (by simpa using hi), List.length_map, List.getElem?_map] at e2
      rw [List.getElem?_append_right (by simpa using hi)] at e1
      cases q : js[i - xs.length]? with
      | none => rw [q] at e2; cases e2
      | some j =>
        rw [q] at e2
        have e2' : (σ[j]?).join = some v := Option.some.inj e2
        have hy := hj.2 _ _ _ e1 q
        have hσ : σ[j]? = some (some v) := by
          cases z : σ[j]? with
          | none => rw [z] at e2'; cases e2'
          | some t => rw [z] at e2'; exact congrArg some e2'
        have ym : x ∈ ys := List.mem_of_getElem? e1
        obtain ⟨cf, ca⟩ := S.cap x ym
        obtain ⟨m0, _, hl⟩ := I.loc
        obtain ⟨u, ru, lk⟩ := hl j x v hy hσ (ca.elim (fun z => .inr (.inl z)) fun z => .inr (.inr z))
        refine ⟨u, ru, .inr ⟨?_, ?_⟩⟩
        · exact relabel_free (env := X.env) cf
        · rcases lk with ⟨k, _⟩ | ⟨_, c, ec, zc⟩
          · have k : X.env.scope.names.lookup x = some .local := k
            rcases ca with z | z <;> · rw [k] at z; cases z
          · obtain ⟨c', ec'⟩ := closL_has (env := X.env) (y := x) scope.names [] (.inl (PySem.mem_of_lookup cf))
            have e3 := cl x c' ec'
            rw [ec] at e3
            cases e3
            obtain ⟨o, ho, hod⟩ := zc
            exact ⟨_, ec', o, old _ _ ho, hod⟩
  · obtain ⟨v, o, ho, hod⟩ := I.cell x c (cl x c h)
    exact ⟨v, o, old _ _ ho, hod⟩
  · have hp : p ∈ [(D, oD)] := by simpa [blockCx] using hp
    have e := List.mem_singleton.mp hp
    subst e
    refine ⟨hd, nD, hDC, fun hf => ?_, hdd⟩
    have hf : D ∈ frs X.stack := hf
    obtain ⟨o, ho⟩ : ∃ o, s.heap.get? D = some o := by
      rcases List.mem_cons.mp (fsub D hf) with z | z
      · obtain ⟨m0, ⟨o, _, _, ho, _⟩, _⟩ := I.loc
        have z : D = X.env.locals := z
        exact ⟨o, z ▸ ho⟩
      · exact absurd z (I.nofs hD)
    exact absurd (Heap.lt_size ho) (Nat.not_lt.mpr hD)
  · show (xs.map (fun _ => (none : Option V)) ++ js.map fun j => (σ[j]?).join).length = (xs ++ ys).length
    rw [List.length_append, List.length_append, List.length_map, List.length_map, hj.1]
end
section
variable {X : Cx} {pins : List (Addr × Obj)} {σ : St} {H : Hp} {s : Shared} {xs ys : List Str} {scope : Scope} {js : List Nat} {tg iter elt : Expr} {ifs : List Expr} {pos : Pos} {wi : TI} {g : TG} {tc : Option TT} {te : TE}
theorem wp_no {α : Type} {M : Model} {A : Around} {t : Sem α} {Q : α → Shared → Prop} {E : Value → Shared → Prop} {s : Shared} (h : wpAny M A t Q (fun _ _ => False) s) : wpAny M A t Q E s := wpAny_mono h (fun _ _ x => x) fun _ _ z => z.elim
theorem compLoop_any {prog : Program} {w : World} {A : Around} {R : Result → Shared → Prop} {it acc : Value} {env : Env} (J : Nat → Shared → Prop)
    (turn : ∀ n s, J n s → wpAny (model prog w) A (pyNext it) (fun r s₁ => match r with
      | none => R (.ok .next) s₁
      | some v => wpAny (model prog w) A (letOwnedTupleGo tg it v) (fun _ s₁' => wpAny (model prog w) A (assign tg env v) (fun _ s₂ =>
          wpAny (model prog w) A (forIn ifs true fun c r => if r = true then do let ok ← isTrue c env (eval c env); pure (ForInStep.yield ok) else pure (ForInStep.yield r)) (fun ok s₃ =>
            if ok = true then wpAny (model prog w) A (eval elt env) (fun x s₄ =>
              wpAny (model prog w) A (call (.builtin "list.append") [acc, x]) (fun _ s₅ => ∃ m, m < n ∧ J m s₅) (fun _ _ => False) s₄) (fun _ _ => False) s₃
            else ∃ m, m < n ∧ J m s₃) (fun _ _ => False) s₂) (fun _ _ => False) s₁') (fun _ _ => False) s₁) (fun _ _ => False) s)
    (n : Nat) (h : J n s) : codeAny (model prog w) A (.compLoop (.ListComp elt [⟨tg, iter, ifs, 0⟩] scope pos) 0 it acc env) R s := by
  refine codeAny_loop rfl J (fun n s hI => ?_) n h
  show wpAny _ A ((compTurn (.ListComp elt [⟨tg, iter, ifs, 0⟩] scope pos) 0 it acc env).onRaise (fun x => do noteFrame x env; theTreesLotGoes x)) _ _ s
  refine wpAny_noted ?_
  rw [compTurn_list]
  refine wpAny_bind (wpAny_standAt (wpAny_bind (wp_no (thn (turn n s hI) fun r s₁ h₁ => ?_))))
  cases r with
  | none => exact wpAny_pure h₁
  | some v =>
    refine wpAny_bind (wp_no (thn h₁ fun _ s₁' h₁' => wpAny_bind (wp_no (thn h₁' fun _ s₂ h₂ => wpAny_bind (wp_no (thn h₂ fun ok s₃ h₃ => ?_))))))
    cases ok with
    | false => exact wpAny_pure ⟨rfl, h₃⟩
    | true => exact wpAny_bind (wpAny_bind (wp_no (thn h₃ fun x s₄ h₄ => wpAny_bind (wp_no (thn h₄ fun _ s₅ h₅ => wpAny_pure (wpAny_pure ⟨rfl, h₅⟩))))))
structure LcEnd (X : Cx) (pins : List (Addr × Obj)) (σ : St) (C : Addr) (H' : Hp) (s' : Shared) : Prop where
  inv : Inv X pins σ H' s'
  ns : ∃ m, s'.heap.Ns C m
  free : H' C = none
  ne : C ≠ X.env.locals
  up : X.s₀.heap.objs.size ≤ C
  cells : ∀ x c, X.env.cells.lookup x = some c → c ≠ C
  pin : ∀ p ∈ X.pn ++ pins, p.1 ≠ C
theorem LcEnd.gone {C : Addr} {H' : Hp} {s' : Shared} (L : LcEnd X pins σ C H' s') {h' : Heap} (hs : Heap.SameBut C s'.heap h') : Inv X pins σ H' { s' with heap := h' } :=
  L.inv.turned (t' := s'.toks) (fun b o hb e => hs.extBut b o hb e) L.free L.ne (.inr L.up) L.cells L.pin
theorem lc_core (hc : X.calm = true) (S : LcScope xs ys scope X.env.scope) (hj : Caps X ys js) (hi : PI X tg iter wi)
    (hg : ∀ C s₀ H₀ fp, PG (blockCx X xs ys scope C s₀ H₀ fp) tg g) (hif : ∀ C s₀ H₀ fp, PIf (blockCx X xs ys scope C s₀ H₀ fp) ifs tc) (he : ∀ C s₀ H₀ fp, PE (blockCx X xs ys scope C s₀ H₀ fp) elt te)
    {RR : Value → Addr → Result → Shared → Prop} {Q : VK} (I : Inv X pins σ H s) (h : tLC xs js wi g tc te σ H Q)
    (fin : ∀ D C H' s', LcEnd X pins σ C H' s' → Q (.ref D) H' → RR (.ref D) C (.ok .next) s') :
    wpAny (model X.prog X.w) X.A (eval iter X.env) (fun x s₁ => wpAny (model X.prog X.w) X.A (pyIter x) (fun it s₂ => wpAny (model X.prog X.w) X.A (newList []) (fun acc s₃ =>
      wpAny (model X.prog X.w) X.A (newFunctionEnv scope X.env.globals (closL X.env scope.names []) [] X.env.qual none .none (some X.env)) (fun cenv s₄ =>
        codeAny (model X.prog X.w) X.A (.compStart (.ListComp elt [⟨tg, iter, ifs, 0⟩] scope pos) 0 it acc { cenv with scope := relabel scope X.env }) (RR acc cenv.locals) s₄) X.xe s₃) X.xe s₂) X.xe s₁) X.xe s := by
  refine thn (hi pins s σ H _ I h) fun v s1 h1 => thn h1 fun itv s2 h2 => ?_
  obtain ⟨it, fp, tn, J, H2, e, I2, T, st2, f2, W, ⟨m0, w0⟩, turn⟩ := h2
  subst e
  have fo : ∀ b ∈ fp, b < s2.heap.objs.size := fun b hb => let ⟨o, e, _⟩ := T.obj _ _ st2 b hb; Heap.lt_size e
  refine wpAny_newObj_type (wpAny_newFunctionEnv S.nocell (by intro y hy; simp at hy) (fun h₁ hns₁ hsb₁ => ?_) S.kind)
  dsimp only at hns₁ hsb₁ ⊢
  generalize hH2 : s2.heap.push { cls := .type "list", dict := none, data := .seq ([] : List Value).toArray } = G at hns₁ hsb₁ ⊢
  have hC : G.objs.size = s2.heap.objs.size + 1 := by rw [← hH2, Heap.size_push]
  have hDC : s2.heap.objs.size ≠ G.objs.size := by rw [hC]; exact Nat.ne_of_lt (Nat.lt_succ_self _)
  have hCle : s2.heap.objs.size ≤ G.objs.size := by rw [hC]; exact Nat.le_succ _
  have below : ∀ b, b < s2.heap.objs.size → b ≠ G.objs.size ∧ b ≠ s2.heap.objs.size := fun b hb => ⟨by rw [hC]; exact Nat.ne_of_lt (Nat.lt_succ_of_lt hb), Nat.ne_of_lt hb⟩
  have old : ∀ b o, s2.heap.get? b = some o → h₁.get? b = some o := fun b o e => hsb₁.extBut b o (below b (Heap.lt_size e)).1 (Heap.get?_push_of_some _ (hH2 ▸ Heap.get?_push_of_some _ e))
  have hacc : h₁.get? s2.heap.objs.size = some (LCg.lst []) := hsb₁.extBut _ _ hDC (Heap.get?_push_of_some _ (hH2 ▸ Heap.get?_push_size _ rfl))
  have st₁ : tn 0 h₁ := T.keep _ _ _ st2 fun b _ o e => old b o e
  have I3 := block_start (C := G.objs.size) (D := s2.heap.objs.size) (tk := s2.toks + ([] : List (Str × Value)).length) I2 S hj f2 fo hCle (Nat.le_refl _) hDC hns₁ hacc (by intro v hv; cases hv) old
  generalize hX : blockCx X xs ys scope G.objs.size s2 H2 fp = B at I3
  have pB : B.prog = X.prog := by rw [← hX]; rfl
  have wB : B.w = X.w := by rw [← hX]; rfl
  have kB : B.K = X.K := by rw [← hX]; rfl
  have aB : B.A = X.A := by rw [← hX]; rfl
  have eB : B.env = compEnvC scope (closL X.env scope.names []) G.objs.size X.env := by rw [← hX]; rfl
  have cB : B.calm = true := by rw [← hX]; exact hc
  have xB : B.xe = fun _ _ => False := by rw [← hX]; rfl
  have gB : PG B tg g := by rw [← hX]; exact hg _ _ _ _
  have iB : PIf B ifs tc := by rw [← hX]; exact hif _ _ _ _
  have elB : PE B elt te := by rw [← hX]; exact he _ _ _ _
  have sB : B.s₀ = s2 := by rw [← hX]; rfl
  have hB : B.H₀ = H2 := by rw [← hX]; rfl
  have fB : B.fs = frs X.stack := by rw [← hX]; rfl
  have exB : B.ex = fp := by rw [← hX]; rfl
  have pnB : B.pn = [] := by rw [← hX]; rfl
  have statB : ∀ {H' : Hp} {oD : Obj} {σ' : St} {s' : Shared}, Inv B [(s2.heap.objs.size, oD)] σ' H' s' → (∀ b ∈ fp, H' b = none) → ∀ b ∈ fp, FpOk B [(s2.heap.objs.size, oD)] H' b := fun {H' oD σ' s'} I' hn b hb =>
    ⟨hn b hb, (I'.ok.exf b (exB ▸ hb)).1, I'.ok.exfs b (exB ▸ hb), .inl (exB ▸ hb), (I'.ok.exf b (exB ▸ hb)).2, fun p hp => by
      rw [pnB] at hp
      have e := List.mem_singleton.mp (show p ∈ [(s2.heap.objs.size, oD)] from hp)
      subst e
      exact Nat.ne_of_gt (fo b hb)⟩
  have loop : ∀ s₃ : Shared, s₃ = { s2 with heap := h₁, toks := s2.toks + ([] : List (Str × Value)).length } →
      codeAny (model X.prog X.w) X.A (.compLoop (.ListComp elt [⟨tg, iter, ifs, 0⟩] scope pos) 0 (.ref it) (.ref s2.heap.objs.size) (compEnvC scope (closL X.env scope.names []) G.objs.size X.env)) (RR (.ref s2.heap.objs.size) G.objs.size) s₃ := by
    rintro s₃ rfl
    refine compLoop_any (fun n s' => ∃ i ys its σ1 H', Inv B [(s2.heap.objs.size, LCg.lst its)] σ1 H' s' ∧ Vals ys its ∧ tn i s'.heap ∧ (∀ b ∈ fp, H' b = none) ∧ ys.length ≤ sizeLine ∧ W i n ys σ1 H') ?_ m0
      ⟨0, [], [], _, H2, I3, .nil, st₁, fun b hb => (f2 b hb).1, Nat.zero_le _, w0⟩
    rintro n s' ⟨i, ys', its, σ1, H', I', rv, st', fr', hz, w'⟩
    have rl := rv.length
    rcases turn i n ys' σ1 H' w' with ⟨stop, qn⟩ | ⟨go, hz', step⟩
    · have q := T.done B pB wB kB cB i _ s' σ1 H' (fun _ _ => False) I' (statB I' fr') st' stop
      rw [aB] at q
      refine thn q fun r s4 ⟨hr, I4⟩ => ?_
      subst hr
      have pD := (I4.pin (s2.heap.objs.size, LCg.lst its) (List.mem_append_right _ List.mem_cons_self))
      have hDn : H' s2.heap.objs.size = none := pD.2.1
      have ub := I4.base
      rw [fB, exB, hB, sB] at ub
      have neD : ∀ {b : Addr} {o : HO}, H' b = some o → b ≠ s2.heap.objs.size := fun e z => by rw [z, hDn] at e; cases e
      have upk : ∀ {b : Addr} {o : HO}, H' b = some o → upd H' s2.heap.objs.size (.lst ys') b = some o := fun e => by rw [upd_ne (neD e)]; exact e
      have u : Un (frs X.stack) fp H2 (upd H' s2.heap.objs.size (.lst ys')) s2.heap s4.heap :=
        ⟨ub.keep, ub.slot, fun b o e n hx => by rw [upd_ne (below b (Heap.lt_size e)).2]; exact ub.free b o e n hx, ub.there, fun b zs e => upk (ub.tups b zs e), fun b o zs e => upk (ub.frzs b o zs e), fun b ps e => let ⟨more, q⟩ := ub.tbls b ps e; ⟨more, upk q⟩⟩
      have hok4 : HOk X.prog X.w H' s4.heap := by have := I4.hok; rw [pB, wB] at this; exact this
      have hok : HOk X.prog X.w (upd H' s2.heap.objs.size (.lst ys')) s4.heap := fun b o e => by
        by_cases hb : b = s2.heap.objs.size
        · subst hb
          rw [upd_same] at e
          cases e
          exact ⟨hz, its, its.length, rv, pD.1⟩
        · rw [upd_ne hb] at e
          exact (hok4 b o e).stay (fun _ _ _ q => q) (fun _ q => upk q) fun _ _ q => upk q
      have I5 : Inv X pins σ (upd H' s2.heap.objs.size (.lst ys')) s4 := I2.call' (ch := fp) (by rw [I4.os, sB]) u hok I4.bare fun b hb => let f := f2 b hb; ⟨f.2.2.2.1, f.2.1, f.2.2.2.2.1, f.2.2.2.2.2⟩
      refine fin s2.heap.objs.size G.objs.size _ s4 ⟨I5, ?_, ?_, ?_, Nat.le_trans I2.sz hCle, fun x c e z => ?_, fun p hp z => ?_⟩ (qn _ hDn)
      · obtain ⟨m, hn, _⟩ := I4.loc
        rw [eB] at hn
        exact ⟨m, hn⟩
      · have fr := I4.free
        rw [eB] at fr
        rw [upd_ne (Ne.symm hDC)]
        exact fr
      · exact Ne.symm (below _ I2.lt).1
      · obtain ⟨_, o, ho, _⟩ := I2.cell x c e
        exact (below c (Heap.lt_size ho)).1 z
      · exact (below p.1 (Heap.lt_size (I2.pin p hp).1)).1 z
    · have q := T.item B pB wB kB cB i _ s' σ1 H' (fun _ _ => False) I' (statB I' fr') st' go
      rw [aB] at q
      refine thn q fun r s4 ⟨u, hr, h4⟩ => ?_
      subst hr
      refine thn h4 fun _ s5 ⟨x, H5, I5, r5, y5, st5, fr5⟩ => ?_
      have I5' := I5.pinned (statB I5 fr5) (T.obj _ _ st5)
      have q5 := gB _ s5 σ1 H5 x u _ I5' r5 (step x H5 y5)
      rw [pB, wB, aB, eB, xB] at q5
      refine thn q5 fun _ s6 ⟨σ6, H6, I6, q6⟩ => ?_
      -- the element and the append
      have last : ∀ {s7 : Shared} {H7 : Hp}, Inv B ([(s2.heap.objs.size, LCg.lst its)] ++ pinsAt fp s5.heap) σ6 H7 s7 → (te σ6 H7 fun y H8 => ∃ m', m' < n ∧ W (i + 1) m' (ys' ++ [y]) σ6 H8) →
          wpAny (model X.prog X.w) X.A (eval elt (compEnvC scope (closL X.env scope.names []) G.objs.size X.env)) (fun x s₄ =>
              wpAny (model X.prog X.w) X.A (call (.builtin "list.append") [.ref s2.heap.objs.size, x]) (fun _ s₅ => ∃ m, m < n ∧
                ∃ i ys its σ1 H', Inv B [(s2.heap.objs.size, LCg.lst its)] σ1 H' s₅ ∧ Vals ys its ∧ tn i s₅.heap ∧ (∀ b ∈ fp, H' b = none) ∧ ys.length ≤ sizeLine ∧ W i m ys σ1 H') (fun _ _ => False) s₄) (fun _ _ => False) s7 := fun {s7 H7} I7 q7 => by
        have q8 := elB _ s7 σ6 H7 _ I7 q7
        rw [pB, wB, aB, eB, xB] at q8
        refine thn q8 fun uy s8 ⟨y, H8, I8, r8, m', hm', w8⟩ => ?_
        have pD := (I8.pin (s2.heap.objs.size, LCg.lst its) (List.mem_append_right _ (List.mem_append_left _ List.mem_cons_self)))
        refine append_at (its := its.toArray) (n := its.length) pD.1 (fun h9 hs9 hd9 => ?_) (by rw [List.size_toArray, ← rl]; exact hz)
        have dropped : Inv B (pinsAt fp s5.heap) σ6 H8 s8 := I8.pins_of fun p hp => I8.pin p (List.mem_append_right _ (List.mem_append_right _ hp))
        have apart : ∀ p ∈ B.pn ++ pinsAt fp s5.heap, p.1 ≠ s2.heap.objs.size := fun p hp => by
          rw [pnB] at hp
          exact Nat.ne_of_lt (fo _ (of_pinsAt (show p ∈ pinsAt fp s5.heap from hp)).1)
        have I9 : Inv B (pinsAt fp s5.heap) σ6 H8 { s8 with heap := h9 } := dropped.turned (t' := s8.toks) (fun b o hb e => hs9.extBut b o hb e) pD.2.1 pD.2.2.1 (.inr (by rw [sB]; exact Nat.le_refl _)) (fun x c e => by
          intro z
          obtain ⟨v, o, ho, hd⟩ := I8.cell x c e
          rw [z, pD.1] at ho
          cases ho
          cases hd) apart
        have I9' : Inv B [(s2.heap.objs.size, LCg.lst (its ++ [uy]))] σ6 H8 { s8 with heap := h9 } := I9.pins_of fun p hp => by
          have e := List.mem_singleton.mp hp
          subst e
          exact ⟨hd9.trans (congrArg some (LCg.lst_snoc its uy)), pD.2.1, pD.2.2.1, pD.2.2.2.1, by intro v hv; cases hv⟩
        refine ⟨m', hm', i + 1, ys' ++ [y], its ++ [uy], σ6, H8, I9', Vals.append rv (.cons r8 .nil), T.keep _ _ _ st5 fun b hb o e => ?_, fun b hb => ?_, by rw [List.length_append]; exact hz', w8⟩
        · exact (I9.pin (b, o) (List.mem_append_right _ (mem_pinsAt hb e))).1
        · obtain ⟨o, e, d⟩ := T.obj _ _ st5 b hb
          exact (I9.pin (b, o) (List.mem_append_right _ (mem_pinsAt hb e))).2.1
      have again : ∀ {s7 : Shared} {H7 : Hp}, Inv B ([(s2.heap.objs.size, LCg.lst its)] ++ pinsAt fp s5.heap) σ6 H7 s7 → (∃ m', m' < n ∧ W (i + 1) m' ys' σ6 H7) → ∃ m, m < n ∧
          ∃ i ys its σ1 H', Inv B [(s2.heap.objs.size, LCg.lst its)] σ1 H' s7 ∧ Vals ys its ∧ tn i s7.heap ∧ (∀ b ∈ fp, H' b = none) ∧ ys.length ≤ sizeLine ∧ W i m ys σ1 H' := fun {s7 H7} I7 ⟨m', hm', w7⟩ => by
        refine ⟨m', hm', i + 1, ys', its, σ6, H7, I7.unpinned, rv, T.keep _ _ _ st5 fun b hb o e => (I7.pin (b, o) (List.mem_append_right _ (List.mem_append_right _ (mem_pinsAt hb e)))).1, fun b hb => ?_, hz, w7⟩
        obtain ⟨o, e, d⟩ := T.obj _ _ st5 b hb
        exact (I7.pin (b, o) (List.mem_append_right _ (List.mem_append_right _ (mem_pinsAt hb e)))).2.1
      match ifs, tc, iB, q6 with
      | [], none, _, q6 =>
        refine wpAny_tests_nil ?_
        rw [if_pos rfl]
        exact last I6 q6
      | [c], some t, iB, q6 =>
        have iB : PT B c t := iB
        have q7 := iB _ s6 σ6 H6 _ I6 q6
        rw [pB, wB, aB, eB, xB] at q7
        refine wpAny_tests_one (thn q7 fun b s7 ⟨H7, I7, q7⟩ => ?_)
        cases b with
        | true => rw [if_pos rfl] at q7 ⊢; exact last I7 q7
        | false => rw [if_neg Bool.false_ne_true] at q7 ⊢; exact again I7 q7
  exact codeAny_compStart_list (loop _ rfl) (T.self _ 0 _ _ _ st₁ (loop _ rfl))
theorem pe_lc (hc : X.calm = true) (S : LcScope xs ys scope X.env.scope) (hj : Caps X ys js) (hi : PI X tg iter wi)
    (hg : ∀ C s₀ H₀ fp, PG (blockCx X xs ys scope C s₀ H₀ fp) tg g) (hif : ∀ C s₀ H₀ fp, PIf (blockCx X xs ys scope C s₀ H₀ fp) ifs tc) (he : ∀ C s₀ H₀ fp, PE (blockCx X xs ys scope C s₀ H₀ fp) elt te)
    (hs : ∀ x, foldedSetIterable iter X.env x = pure x := by intro _; rfl) : PE X (.ListComp elt [⟨tg, iter, ifs, 0⟩] scope pos) (tLC xs js wi g tc te) := by
  intro pins s σ H Q I h
  rw [eval_ListComp]
  refine wpAny_comprehension_free (use := none) rfl hs (closureFor_is (clos_ok I S)) S.kind S.names ?_
  refine lc_core (RR := fun acc C => compPost (model X.prog X.w) X.A X.xe none (EP X pins σ Q) acc C) hc S hj hi hg hif he I h fun D C H' s' L q => ?_
  obtain ⟨m, hn⟩ := L.ns
  exact ⟨m, hn, fun h'' hs'' => ⟨.ref D, H', L.gone hs'', rfl, q⟩⟩
theorem ps_setLC {i : Nat} {x : Str} {p' p : Pos} (hN : X.N.Nodup) (hx : X.N[i]? = some x) (hl : X.env.scope.names.lookup x = some .local) (hc : X.calm = true) (S : LcScope xs ys scope X.env.scope) (hj : Caps X ys js) (hi : PI X tg iter wi)
    (hg : ∀ C s₀ H₀ fp, PG (blockCx X xs ys scope C s₀ H₀ fp) tg g) (hif : ∀ C s₀ H₀ fp, PIf (blockCx X xs ys scope C s₀ H₀ fp) ifs tc) (he : ∀ C s₀ H₀ fp, PE (blockCx X xs ys scope C s₀ H₀ fp) elt te)
    (hsw : swapsWith (.ListComp elt [⟨tg, iter, ifs, 0⟩] scope pos) (some (.Name x p')) p.line X.env = pure true := by rfl)
    (hs : ∀ x, foldedSetIterable iter X.env x = pure x := by intro _; rfl) : PS X (.Assign [.Name x p'] (.ListComp elt [⟨tg, iter, ifs, 0⟩] scope pos) p) (tAsg (tLC xs js wi g tc te) (gName i)) := by
  intro pins s σ H D I h
  rw [exec_Assign_Name_used _ _ _ _ hsw]
  refine wpAny_bind (wpAny_standAt (wpAny_bind ?_))
  show wpAny _ X.A (do let _ ← comprehension (.ListComp elt [⟨tg, iter, ifs, 0⟩] scope pos) scope X.env _ (newList []) false (eval iter X.env) (some (assign (.Name x p') X.env))) _ _ s
  refine wpAny_bind (wpAny_mono (wpAny_comprehension_free (use := some (assign (.Name x p') X.env)) (Q := fun _ s' => SP X pins D .next s') rfl hs (closureFor_is (clos_ok I S)) S.kind S.names ?_) (fun _ s' hq => wpAny_pure (wpAny_pure hq)) fun _ _ e => e)
  refine lc_core (Q := fun v H' => gName i v σ H' D.nx) (RR := fun acc C => compPost (model X.prog X.w) X.A X.xe (some (assign (.Name x p') X.env)) (fun _ s' => SP X pins D .next s') acc C) hc S hj hi hg hif he I h fun A C H' s' L q => ?_
  show wpAny _ X.A (assign (.Name x p') X.env (.ref A)) _ _ _
  refine wpAny_assign_Name (store_ok2 (v := .ref A) L.inv hN hx (.inl hl) rfl (fun s'' I'' ⟨a, sb, ha⟩ => ?_) (.inr hl))
  have cne : ∀ {b : Addr}, (b = X.env.locals ∨ X.env.cells.lookup x = some b) → C ≠ b := fun z e => by
    rcases z with z | z
    · exact L.ne (e.trans z)
    · exact L.cells x _ z e.symm
  obtain ⟨m, hn⟩ := L.ns
  refine ⟨m, hn.sameBut sb (cne ha), fun h'' hs'' => ⟨_, _, ?_, q⟩⟩
  exact LcEnd.gone ⟨I'', ⟨m, hn.sameBut sb (cne ha)⟩, L.free, L.ne, L.up, L.cells, L.pin⟩ hs''
end
end L2
set_option Elab.async false
set_option linter.all false
set_option maxRecDepth 100000
namespace L2
open PySem PySem.Spec PyProof.Rows
def Its (x : Str) : It := ⟨fun i _ => i < x.cps.size, fun i H v H' => H' = H ∧ ∃ c, x.cps[i]? = some c ∧ v = .str ⟨#[c]⟩, fun i _ => x.cps.size ≤ i⟩
section
variable {X : Cx} {tg : Expr}
def iStr (tl : TE) : TI := fun σ H R => tl σ H fun x H1 => ∃ z, x = .str z ∧ R (Its z) H1
end
def rSlS : V → Option Int → Option Int → Hp → VK → Prop := fun x lo hi H Q => ∃ z, x = .str z ∧ z.length ≤ sizeLine ∧ Q (.str (Txt.slice z lo hi)) H
section
variable {X : Cx}
theorem call_all : CallR X (.builtin "all") (fun xs H Q => X.calm = true ∧ ∃ (p : Addr) (bs : List Bool), xs = [.ref p] ∧ SqL X.K H p (bs.map V.bl) ∧ Q (.bl (bs.all id)) H) := by
  intro pins s σ H xs us Q I r h
  obtain ⟨hc, p, bs, rfl, hp, q⟩ := h
  obtain ⟨u, rfl, ru⟩ := vals1 r
  cases ru
  obtain ⟨its, rv, hl, hz⟩ := I.list hp
  have hlt : p < s.heap.objs.size := by obtain ⟨_, e, _⟩ := hl.isList; exact Heap.lt_size e
  have hlen := rv.length
  rw [List.length_map] at hlen
  refine call_all_walk (wpAny_pyIter_list hl.isList ?_)
  refine ⟨_, _, _, _, _, _, fun i => bs.getD i false, rfl, Walks.list (A := X.A.in1) (I.ok.hd hc) s.heap.objs.size p (Nat.ne_of_lt hlt) its.toArray, ⟨⟨_, Heap.get?_push_size _ rfl, rfl, rfl⟩, hl.isList.push _⟩, fun i v s' Q' E' hv q' => ?_, fun h' tk k => ?_⟩
  · have hv : its[i]? = some v := by simpa using hv
    have hi : i < bs.length := by
      have := (List.getElem?_eq_some_iff.mp hv).1
      omega
    obtain ⟨u', hu', ru'⟩ := rv.get (i := i) (x := .bl bs[i]) (by rw [List.getElem?_map, List.getElem?_eq_getElem hi]; rfl)
    rw [hv] at hu'
    cases hu'
    have e : v = Value.bool bs[i] := ru'
    subst e
    refine wpAny_truthy_bool ?_
    have e2 : bs.getD i false = bs[i] := by rw [List.getD_eq_getElem?_getD, List.getElem?_eq_getElem hi]; rfl
    rw [← e2]
    exact q'
  · refine ⟨.bl (bs.all id), H, ?_, ?_, q⟩
    · exact I.kept (h' := h') (t' := tk) fun b o e => k b o (by intro hm; have := List.mem_singleton.mp hm; exact absurd (this ▸ Heap.lt_size e) (Nat.lt_irrefl _)) (Heap.get?_push_of_some _ e)
    · have e : (List.range its.toArray.size).all (fun i => bs.getD i false) = bs.all id := by
        rw [List.size_toArray, ← hlen]
        rw [Bool.eq_iff_iff, List.all_eq_true, List.all_eq_true]
        constructor
        · intro a b hb
          obtain ⟨i, hi, rfl⟩ := List.getElem_of_mem hb
          have := a i (List.mem_range.mpr hi)
          rw [List.getD_eq_getElem?_getD, List.getElem?_eq_getElem hi] at this
          exact this
        · intro a i hi
          have hi := List.mem_range.mp hi
          rw [List.getD_eq_getElem?_getD, List.getElem?_eq_getElem hi]
          exact a _ (List.getElem_mem hi)
      show Value.bool _ = _
      rw [e]
theorem call_isi {T : String} : CallR X (.builtin "isinstance") (fun xs H Q => ∃ x t b, xs = [x, .ty T] ∧ TyOf X.K H x t ∧ PySem.W.kitOne X.K t (.type T) = some b ∧ Q (.bl b) H) := by
  intro pins s σ H xs us Q I r h
  obtain ⟨x, t, b, rfl, ty, e, q⟩ := h
  obtain ⟨u, w', rfl, ru, rw'⟩ := vals2 r
  cases rw'
  exact isinst_ok I ru ty e fun tk => ⟨.bl b, H, I.tok tk, rfl, q⟩
end
end L2
set_option Elab.async false
set_option linter.all false
set_option maxRecDepth 100000
namespace L2
open PySem PySem.Spec PyProof.Rows
structure Has (P : Program) (w : World) (K : PySem.W.Frag) (mg : Str → Option Value) (base : Heap) (k : Nat) (x : Str) (ps : List Str) (sp : Sp) : Prop where
  ex : ∃ f fd, FnOk P w K mg base CX0 k f fd ps sp ∧ Binds K fd ps [] ∧ PySem.W.keepIn K (.ref f) = true ∧ mg x = some (.ref f)
section
variable {X : Cx} {k : Nat} {x : Str} {ps : List Str} {sp : Sp} {p pos : Pos} {e : Expr} {es : List Expr} {t : TA} {v : V}
theorem Has.mono {P : Program} {w : World} {K : PySem.W.Frag} {mg : Str → Option Value} {base : Heap} {j k : Nat} (h : Has P w K mg base j x ps sp) (hk : j ≤ k) : Has P w K mg base k x ps sp := by
  obtain ⟨f, fd, F, r⟩ := h.ex
  exact ⟨f, fd, F.mono hk, r⟩
theorem pe_callH (h : Has X.prog X.w X.K X.mg X.base k x ps sp) (hr : Room k X.A) (hg : Gl X x) (ha : PA X (e :: es) t) (hdb : (x == ("__debug__" : Str)) = false := by decide)
    (he : starEach (e :: es) X.env = (false, eval e X.env) :: starEach es X.env := by rfl) (hpl : (backTo pos (starEach es X.env)).any (·.1) = false := by rfl) : PE X (.Call (.Name x p) (e :: es) [] pos) (tCall sp [] E0 t) := by
  obtain ⟨f, fd, F, b, kp, m⟩ := h.ex
  exact pe_call F hr hg m kp b .nil pass0 ha hdb he hpl
theorem pe_ty {T : String} (hm : X.mg x = none) (hv : bootBuiltins x = some (.type T)) (hg : Gl X x) (hn : x ≠ "__name__" := by decide) (hd : (x == ("__debug__" : Str)) = false := by decide) : PE X (.Name x pos) (tC (.ty T)) :=
  pe_bltn hg hm hv rfl hn hd
end
theorem pif_nil {X : Cx} : PIf X [] none := trivial
theorem pif_one {X : Cx} {c : Expr} {t : TT} (h : PT X c t) : PIf X [c] (some t) := h
def lcOk (xs ys : List Str) (scope around : Scope) : Bool :=
  (scope.kind == .function) && decide (xs ++ ys).Nodup && xs.all (fun x => scope.names.lookup x == some .local) &&
  ys.all (fun y => (scope.names.lookup y == some .free) && ((around.names.lookup y == some .cell) || (around.names.lookup y == some .free))) &&
  scope.names.all (fun y => (y.2 != .cell) && ((y.2 != .local) || (scope.names.lookup y.1 == some .local)) && ((y.2 != .free) || ys.contains y.1))
theorem lcOk.scope {xs ys : List Str} {scope around : Scope} (h : lcOk xs ys scope around = true) : LcScope xs ys scope around := by
  unfold lcOk at h
  simp only [Bool.and_eq_true, beq_iff_eq, decide_eq_true_eq, List.all_eq_true, Bool.or_eq_true, bne_iff_ne, List.contains_iff_mem] at h
  obtain ⟨⟨⟨⟨h1, h2⟩, h3⟩, h4⟩, h5⟩ := h
  exact ⟨h1, h2, h3, h4, fun y hy => (h5 y hy).1.1, fun y hy hl => (h5 y hy).1.2.resolve_left (fun z => z hl), fun y hy hf => (h5 y hy).2.resolve_left (fun z => z hf)⟩
def capOk (N ys : List Str) (js : List Nat) : Bool := (js.length == ys.length) && (ys.zip js).all fun p => N[p.2]? == some p.1
theorem capOk.caps {X : Cx} {ys : List Str} {js : List Nat} (h : capOk X.N ys js = true) : Caps X ys js := by
  unfold capOk at h
  simp only [Bool.and_eq_true, beq_iff_eq, List.all_eq_true] at h
  refine ⟨h.1, fun i y j hy hj => ?_⟩
  refine h.2 (y, j) (List.mem_of_getElem? (i := i) ?_)
  rw [List.getElem?_zip_eq_some]
  exact ⟨hy, hj⟩
section
variable {X : Cx} {xs ys : List Str} {scope : Scope} {js : List Nat} {tg iter elt : Expr} {ifs : List Expr} {pos : Pos} {wi : TI} {g : TG} {tc : Option TT} {te : TE}
theorem pe_comp (xs ys : List Str) (js : List Nat) (hi : PI X tg iter wi)
    (hg : ∀ C s₀ H₀ fp, (xs ++ ys).Nodup → PG (blockCx X xs ys scope C s₀ H₀ fp) tg g) (hif : ∀ C s₀ H₀ fp, PIf (blockCx X xs ys scope C s₀ H₀ fp) ifs tc) (he : ∀ C s₀ H₀ fp, PE (blockCx X xs ys scope C s₀ H₀ fp) elt te)
    (hc : X.calm = true := by rfl) (S : lcOk xs ys scope X.env.scope = true := by rfl) (hj : capOk X.N ys js = true := by rfl)
    (hs : ∀ x, foldedSetIterable iter X.env x = pure x := by intro _; rfl) : PE X (.ListComp elt [⟨tg, iter, ifs, 0⟩] scope pos) (tLC xs js wi g tc te) :=
  pe_lc hc (lcOk.scope S) (capOk.caps hj) hi (fun C s₀ H₀ fp => hg C s₀ H₀ fp (lcOk.scope S).nd) hif he hs
theorem ps_comp {i : Nat} {x : Str} {p' p : Pos} (xs ys : List Str) (js : List Nat) (hN : X.N.Nodup) (hx : X.N[i]? = some x) (hi : PI X tg iter wi)
    (hg : ∀ C s₀ H₀ fp, (xs ++ ys).Nodup → PG (blockCx X xs ys scope C s₀ H₀ fp) tg g) (hif : ∀ C s₀ H₀ fp, PIf (blockCx X xs ys scope C s₀ H₀ fp) ifs tc) (he : ∀ C s₀ H₀ fp, PE (blockCx X xs ys scope C s₀ H₀ fp) elt te)
    (hl : X.env.scope.names.lookup x = some .local := by rfl) (hc : X.calm = true := by rfl) (S : lcOk xs ys scope X.env.scope = true := by rfl) (hj : capOk X.N ys js = true := by rfl)
    (hsw : swapsWith (.ListComp elt [⟨tg, iter, ifs, 0⟩] scope pos) (some (.Name x p')) p.line X.env = pure true := by rfl)
    (hs : ∀ x, foldedSetIterable iter X.env x = pure x := by intro _; rfl) : PS X (.Assign [.Name x p'] (.ListComp elt [⟨tg, iter, ifs, 0⟩] scope pos) p) (tAsg (tLC xs js wi g tc te) (gName i)) :=
  ps_setLC hN hx hl hc (lcOk.scope S) (capOk.caps hj) hi (fun C s₀ H₀ fp => hg C s₀ H₀ fp (lcOk.scope S).nd) hif he hsw hs
end
theorem bt_len : bootBuiltins "len" = some (.builtin "len") := by decide +kernel
theorem bt_isinstance : bootBuiltins "isinstance" = some (.builtin "isinstance") := by decide +kernel
theorem bt_all : bootBuiltins "all" = some (.builtin "all") := by decide +kernel
theorem bt_tuple : bootBuiltins "tuple" = some (.type "tuple") := by decide +kernel
theorem bt_list : bootBuiltins "list" = some (.type "list") := by decide +kernel
theorem bt_int : bootBuiltins "int" = some (.type "int") := by decide +kernel
theorem bt_bool : bootBuiltins "bool" = some (.type "bool") := by decide +kernel
theorem cx_K {CX : CXT} {P : Program} {w : World} {K : PySem.W.Frag} {mg : Str → Option Value} {base : Heap} {N : List Str} {qual : Str} {scope : Scope} {f : Addr} {cd : Value} {A : Around} {outer : List Env} {s : Shared} {H : Hp} {E : XK} : (cxOf CX P w K mg base N qual scope f cd A outer s H E).K = K := rfl
theorem cx_calm {CX : CXT} {P : Program} {w : World} {K : PySem.W.Frag} {mg : Str → Option Value} {base : Heap} {N : List Str} {qual : Str} {scope : Scope} {f : Addr} {cd : Value} {A : Around} {outer : List Env} {s : Shared} {H : Hp} {E : XK} : (cxOf CX P w K mg base N qual scope f cd A outer s H E).calm = true := rfl
theorem bk_calm {X : Cx} {xs ys : List Str} {scope : Scope} {C : Addr} {s₀ : Shared} {H₀ : Hp} {fp : List Addr} : (blockCx X xs ys scope C s₀ H₀ fp).calm = X.calm := rfl
theorem lenV_str {K : PySem.W.Frag} {y : Str} {H : Hp} {n : Nat} : LenV K (.str y) H n ↔ (y.length ≤ sizeLine ∧ n = y.length) := Iff.rfl
theorem bk_K {X : Cx} {xs ys : List Str} {scope : Scope} {C : Addr} {s₀ : Shared} {H₀ : Hp} {fp : List Addr} : (blockCx X xs ys scope C s₀ H₀ fp).K = X.K := rfl
theorem lc_by {J : It} {n : Nat} {ns : List Str} {js : List Nat} {g : TG} {te : TE} {σ : St} {H : Hp} {Q : VK} (Pv : Nat → List V → St → Hp → Prop) (h0 : Pv 0 [] (lcSt ns js σ) H) (hn : n ≤ sizeLine) (hl : ∀ i ys σ H, Pv i ys σ H → ys.length ≤ i)
    (hgo : ∀ i ys σ H, i < n → Pv i ys σ H → J.go i H) (hst : ∀ ys σ H, Pv n ys σ H → J.stop n H)
    (hs : ∀ i ys σ H x H' (C : V → St → Hp → Prop), i < n → Pv i ys σ H → J.yld i H x H' → (∀ y σ2 H3, Pv (i + 1) (ys ++ [y]) σ2 H3 → C y σ2 H3) → g x σ H' fun σ2 H2 => te σ2 H2 fun y H3 => C y σ2 H3)
    (hd : ∀ ys σ H, Pv n ys σ H → ∀ p, H p = none → Q (.ref p) (upd H p (.lst ys))) :
    LcW J ns js g none te σ H Q := by
  refine ⟨fun i m ys σ H => i + m = n ∧ Pv i ys σ H, ⟨n, by omega, h0⟩, fun i m ys σ H ⟨e, w⟩ => ?_⟩
  by_cases hi : i < n
  · refine .inr ⟨hgo i ys σ H hi w, Nat.lt_of_le_of_lt (hl _ _ _ _ w) (by omega), fun x H' hy => ?_⟩
    exact hs i ys σ H x H' (fun y σ2 H3 => ∃ m', m' < m ∧ i + 1 + m' = n ∧ Pv (i + 1) (ys ++ [y]) σ2 H3) hi w hy fun y σ2 H3 q => ⟨m - 1, by omega, by omega, q⟩
  · have : i = n := by omega
    subst this
    exact .inl ⟨hst ys σ H w, hd ys σ H w⟩
theorem lc_range {lo : Int} {n : Nat} {ns : List Str} {js : List Nat} {g : TG} {te : TE} {σ : St} {H : Hp} {Q : VK} (Pv : Nat → List V → St → Hp → Prop) (h0 : Pv 0 [] (lcSt ns js σ) H) (hz : n ≤ sizeLine) (hl : ∀ i ys σ H, Pv i ys σ H → ys.length ≤ i)
    (hs : ∀ (i : Nat) ys σ H (C : V → St → Hp → Prop), i < n → Pv i ys σ H → (∀ y σ2 H3, Pv (i + 1) (ys ++ [y]) σ2 H3 → C y σ2 H3) → g (.int (lo + i)) σ H fun σ2 H2 => te σ2 H2 fun y H3 => C y σ2 H3)
    (hd : ∀ ys σ H, Pv n ys σ H → ∀ p, H p = none → Q (.ref p) (upd H p (.lst ys))) :
    LcW (Itr lo n) ns js g none te σ H Q :=
  lc_by (n := n) Pv h0 hz hl (fun _ _ _ _ h _ => h) (fun _ _ _ _ => Nat.le_refl _) (fun i ys σ H x H' C hi w ⟨e, hx⟩ hC => by subst e; subst hx; exact hs i ys σ _ C hi w hC) hd
theorem lc_tup {K : PySem.W.Frag} {a : Addr} {xs : List V} {ns : List Str} {js : List Nat} {g : TG} {te : TE} {σ : St} {H : Hp} {Q : VK} (Pv : Nat → List V → St → Hp → Prop) (h0 : Pv 0 [] (lcSt ns js σ) H) (hz : xs.length ≤ sizeLine) (hl : ∀ i ys σ H, Pv i ys σ H → ys.length ≤ i)
    (hK : ∀ i ys σ H, Pv i ys σ H → SqT K H a xs)
    (hs : ∀ (i : Nat) x ys σ H (C : V → St → Hp → Prop), xs[i]? = some x → Pv i ys σ H → (∀ y σ2 H3, Pv (i + 1) (ys ++ [y]) σ2 H3 → C y σ2 H3) → g x σ H fun σ2 H2 => te σ2 H2 fun y H3 => C y σ2 H3)
    (hd : ∀ ys σ H, Pv xs.length ys σ H → ∀ p, H p = none → Q (.ref p) (upd H p (.lst ys))) :
    LcW (Itt K a) ns js g none te σ H Q :=
  lc_by (n := xs.length) Pv h0 hz hl (fun i ys σ H hi w => ⟨xs, xs[i], hK i ys σ H w, List.getElem?_eq_getElem hi⟩) (fun ys σ H w => ⟨xs, hK _ ys σ H w, Nat.le_refl _⟩)
    (fun i ys σ H x H' C hi w ⟨e, hx⟩ hC => by subst e; exact hs i x ys σ _ C (hx xs (hK i ys σ _ w)) w hC) hd
theorem lc_list {K : PySem.W.Frag} {a : Addr} {xs : List V} {ns : List Str} {js : List Nat} {g : TG} {te : TE} {σ : St} {H : Hp} {Q : VK} (Pv : Nat → List V → St → Hp → Prop) (h0 : Pv 0 [] (lcSt ns js σ) H) (hz : xs.length ≤ sizeLine) (hl : ∀ i ys σ H, Pv i ys σ H → ys.length ≤ i)
    (hK : ∀ i ys σ H, Pv i ys σ H → SqL K H a xs)
    (hs : ∀ (i : Nat) x ys σ H (C : V → St → Hp → Prop), xs[i]? = some x → Pv i ys σ H → (∀ y σ2 H3, Pv (i + 1) (ys ++ [y]) σ2 H3 → C y σ2 H3) → g x σ H fun σ2 H2 => te σ2 H2 fun y H3 => C y σ2 H3)
    (hd : ∀ ys σ H, Pv xs.length ys σ H → ∀ p, H p = none → Q (.ref p) (upd H p (.lst ys))) :
    LcW (Itl K a) ns js g none te σ H Q :=
  lc_by (n := xs.length) Pv h0 hz hl (fun i ys σ H hi w => ⟨xs, xs[i], hK i ys σ H w, List.getElem?_eq_getElem hi⟩) (fun ys σ H w => ⟨xs, hK _ ys σ H w, Nat.le_refl _⟩)
    (fun i ys σ H x H' C hi w ⟨e, hx⟩ hC => by subst e; exact hs i x ys σ _ C (hx xs (hK i ys σ _ w)) w hC) hd
def ForW (J : It) (g : TG) (tb : TS) (D : Ends) (σ : St) (H : Hp) : Prop := ∃ W : Nat → Nat → St → Hp → Prop, (∃ m, W 0 m σ H) ∧ ∀ i m σ H, W i m σ H →
  (J.stop i H ∧ D.nx σ H) ∨ (J.go i H ∧ ∃ N : St → Hp → Prop, (∀ σ' H', N σ' H' → ∃ m', m' < m ∧ W (i + 1) m' σ' H') ∧ ∀ x H', J.yld i H x H' → g x σ H' fun σ2 H2 => tb { D with nx := N, ct := N, bk := D.nx } σ2 H2)
theorem tFor_eq {wi : TI} {g : TG} {tb : TS} {D : Ends} {σ : St} {H : Hp} : tFor wi g tb D σ H = wi σ H fun J H1 => ForW J g tb D σ H1 := rfl
theorem tLC_eq {n : List Str} {js : List Nat} {wi : TI} {g : TG} {tc : Option TT} {te : TE} {σ : St} {H : Hp} {Q : VK} : tLC n js wi g tc te σ H Q = wi σ H fun J H1 => LcW J n js g tc te σ H1 Q := rfl
theorem fw_list {K : PySem.W.Frag} {a : Addr} {xs : List V} {g : TG} {tb : TS} {D : Ends} {σ : St} {H : Hp} (Pv : Nat → St → Hp → Prop) (h0 : Pv 0 σ H) (hl : ∀ i σ H, i ≤ xs.length → Pv i σ H → SqL K H a xs)
    (hs : ∀ i x σ H, xs[i]? = some x → Pv i σ H → g x σ H fun σ2 H2 => tb { D with nx := Pv (i + 1), ct := Pv (i + 1), bk := D.nx } σ2 H2) (hd : ∀ σ H, Pv xs.length σ H → D.nx σ H) : ForW (Itl K a) g tb D σ H := for_list Pv h0 hl hs hd
theorem fw_range {lo : Int} {n : Nat} {g : TG} {tb : TS} {D : Ends} {σ : St} {H : Hp} (Pv : Nat → St → Hp → Prop) (h0 : Pv 0 σ H)
    (hs : ∀ i σ H, i < n → Pv i σ H → g (.int (lo + i)) σ H fun σ2 H2 => tb { D with nx := Pv (i + 1), ct := Pv (i + 1), bk := D.nx } σ2 H2) (hd : ∀ σ H, Pv n σ H → D.nx σ H) : ForW (Itr lo n) g tb D σ H := for_range Pv h0 hs hd
theorem seq_abs {t u : TS} {D : Ends} {σ : St} {H : Hp} (h : ∀ N : St → Hp → Prop, (∀ σ H, u D σ H → N σ H) → t { D with nx := N } σ H) : tSeq t u D σ H := h (u D) fun _ _ z => z
theorem if_abs {c : TT} {t u : TS} {D : Ends} {σ : St} {H : Hp} (h : ∀ T U : Hp → Prop, (∀ H1, t D σ H1 → T H1) → (∀ H1, u D σ H1 → U H1) → c σ H fun b H1 => if b = true then T H1 else U H1) : tIfS c t u D σ H := h (t D σ) (u D σ) (fun _ z => z) fun _ z => z
theorem seq_join {t u : TS} {D : Ends} {σ : St} {H : Hp} (J : St → Hp → Prop) (h1 : ∀ N : St → Hp → Prop, (∀ σ H, J σ H → N σ H) → t { D with nx := N } σ H) (h2 : ∀ σ H, J σ H → u D σ H) : tSeq t u D σ H := h1 (u D) h2
structure Bi (mg : Str → Option Value) : Prop where
  len : mg "len" = none
  range : mg "range" = none
  isinstance : mg "isinstance" = none
  max : mg "max" = none
  sum : mg "sum" = none
  all : mg "all" = none
  tuple : mg "tuple" = none
  list : mg "list" = none
  sorted : mg "sorted" = none
  set : mg "set" = none
  int : mg "int" = none
  bool : mg "bool" = none
  str : mg "str" = none
  dict : mg "dict" = none
theorem has_of {P : Program} {w : World} {K : PySem.W.Frag} {mg : Str → Option Value} {base : Heap} {k : Nat} {x : Str} {ps : List Str} {sp : Sp} {st : Stmt} {f : Addr} {fd : FuncData} (F : Fun K x x st f fd) (ok : FnOk P w K mg base CX0 k f fd ps sp) (b : Binds K fd ps [])
    (m : mg x = some (.ref f)) : Has P w K mg base k x ps sp := ⟨f, fd, ok, b, F.kp, m⟩
end L2
set_option Elab.async false
set_option linter.all false
set_option maxRecDepth 100000
namespace L2
open PySem PySem.Spec PyProof.Rows
inductive Dt where
  | non | bl (b : Bool) | int (i : Int) | str (x : Str) | tup (ds : List Dt) | lst (ds : List Dt)
mutual
def DAt (H : Hp) : Dt → V → Prop
  | .non, v => v = .non
  | .bl b, v => v = .bl b
  | .int i, v => v = .int i
  | .str x, v => v = .str x
  | .tup ds, v => ∃ a vs, v = .ref a ∧ H a = some (.tup vs) ∧ DAts H ds vs
  | .lst ds, v => ∃ a vs, v = .ref a ∧ H a = some (.lst vs) ∧ DAts H ds vs
def DAts (H : Hp) : List Dt → List V → Prop
  | [], vs => vs = []
  | d :: ds, vs => ∃ v r, vs = v :: r ∧ DAt H d v ∧ DAts H ds r
end
mutual
theorem DAt.same {H H' : Hp} (e : Same H H') : ∀ {d : Dt} {v : V}, DAt H d v → DAt H' d v
  | .non, _, h => h
  | .bl _, _, h => h
  | .int _, _, h => h
  | .str _, _, h => h
  | .tup ds, v, h => by
    obtain ⟨a, vs, e1, e2, e3⟩ := h
    exact ⟨a, vs, e1, e _ _ e2, DAts.same e e3⟩
  | .lst ds, v, h => by
    obtain ⟨a, vs, e1, e2, e3⟩ := h
    exact ⟨a, vs, e1, e _ _ e2, DAts.same e e3⟩
theorem DAts.same {H H' : Hp} (e : Same H H') : ∀ {ds : List Dt} {vs : List V}, DAts H ds vs → DAts H' ds vs
  | [], _, h => h
  | d :: ds, vs, h => by
    obtain ⟨v, r, e1, e2, e3⟩ := h
    exact ⟨v, r, e1, DAt.same e e2, DAts.same e e3⟩
end
theorem DAts.length {H : Hp} : ∀ {ds : List Dt} {vs : List V}, DAts H ds vs → vs.length = ds.length
  | [], vs, h => by
    have h : vs = [] := h
    rw [h]
    rfl
  | d :: ds, vs, h => by
    obtain ⟨v, r, e1, e2, e3⟩ := h
    rw [e1, List.length_cons, List.length_cons, DAts.length e3]
theorem DAts.get {H : Hp} : ∀ {ds : List Dt} {vs : List V} {i : Nat} {d : Dt}, DAts H ds vs → ds[i]? = some d → ∃ v, vs[i]? = some v ∧ DAt H d v
  | [], vs, i, d, _, e => by simp at e
  | d :: ds, vs, 0, d', h, e => by
    obtain ⟨v, r, e1, e2, e3⟩ := h
    simp at e
    subst e; subst e1
    exact ⟨v, rfl, e2⟩
  | d :: ds, vs, i + 1, d', h, e => by
    obtain ⟨v, r, e1, e2, e3⟩ := h
    subst e1
    simp at e
    obtain ⟨u, h1, h2⟩ := DAts.get e3 e
    exact ⟨u, by simpa using h1, h2⟩
theorem DAts.append {H : Hp} : ∀ {ds es : List Dt} {vs us : List V}, DAts H ds vs → DAts H es us → DAts H (ds ++ es) (vs ++ us)
  | [], es, vs, us, h, h' => by
    have h : vs = [] := h
    subst h
    exact h'
  | d :: ds, es, vs, us, h, h' => by
    obtain ⟨v, r, e1, e2, e3⟩ := h
    subst e1
    exact ⟨v, r ++ us, rfl, e2, DAts.append e3 h'⟩
theorem DAts.take {H : Hp} : ∀ {ds : List Dt} {vs : List V} (n : Nat), DAts H ds vs → DAts H (ds.take n) (vs.take n)
  | ds, vs, 0, _ => rfl
  | [], vs, n + 1, h => by
    have h : vs = [] := h
    subst h
    rfl
  | d :: ds, vs, n + 1, h => by
    obtain ⟨v, r, e1, e2, e3⟩ := h
    subst e1
    exact ⟨v, r.take n, rfl, e2, DAts.take n e3⟩
theorem DAts.drop {H : Hp} : ∀ {ds : List Dt} {vs : List V} (n : Nat), DAts H ds vs → DAts H (ds.drop n) (vs.drop n)
  | ds, vs, 0, h => by simpa using h
  | [], vs, n + 1, h => by
    have h : vs = [] := h
    subst h
    rfl
  | d :: ds, vs, n + 1, h => by
    obtain ⟨v, r, e1, e2, e3⟩ := h
    subst e1
    simpa using DAts.drop n e3
theorem DAts.one {H : Hp} {d : Dt} {v : V} (h : DAt H d v) : DAts H [d] [v] := ⟨v, [], rfl, h, rfl⟩
def DFit : Nat → Dt → Prop
  | n + 1, .tup ds => ds.length ≤ 1000 ∧ ∀ d ∈ ds, DFit n d
  | n + 1, .lst ds => ds.length ≤ 1000 ∧ ∀ d ∈ ds, DFit n d
  | 0, .tup _ => False
  | 0, .lst _ => False
  | _, _ => True
inductive Tm where
  | name (x : Str)
  | node (w : Str) (ts : List Tm)
mutual
def toD : Tm → Dt
  | .name x => .tup [.str "name", .str x]
  | .node w ts => .tup (.str w :: toDs ts)
def toDs : List Tm → List Dt
  | [] => []
  | t :: ts => toD t :: toDs ts
end
theorem toDs_map : ∀ ts : List Tm, toDs ts = ts.map toD
  | [] => rfl
  | t :: ts => by rw [toDs, toDs_map ts, List.map_cons]
theorem toD_node (w : Str) (ts : List Tm) : toD (.node w ts) = .tup (.str w :: ts.map toD) := by rw [toD, toDs_map]
abbrev TAt (H : Hp) (t : Tm) (v : V) : Prop := DAt H (toD t) v
abbrev TAts (H : Hp) (ts : List Tm) (vs : List V) : Prop := DAts H (ts.map toD) vs
theorem TAt.name {H : Hp} {x : Str} {v : V} (h : TAt H (.name x) v) : ∃ a, v = .ref a ∧ H a = some (.tup [.str "name", .str x]) := by
  obtain ⟨a, vs, e1, e2, u, r, e3, e4, e5⟩ := h
  obtain ⟨u2, r2, e6, e7, e8⟩ := e5
  have e4 : u = .str "name" := e4
  have e7 : u2 = .str x := e7
  have e8 : r2 = [] := e8
  subst e3; subst e4; subst e6; subst e7; subst e8
  exact ⟨a, e1, e2⟩
theorem TAt.mkName {H : Hp} {x : Str} {a : Addr} (h : H a = some (.tup [.str "name", .str x])) : TAt H (.name x) (.ref a) :=
  ⟨a, _, rfl, h, _, _, rfl, rfl, _, _, rfl, rfl, rfl⟩
theorem TAt.node {H : Hp} {w : Str} {ts : List Tm} {v : V} (h : TAt H (.node w ts) v) : ∃ a vs, v = .ref a ∧ H a = some (.tup (.str w :: vs)) ∧ TAts H ts vs := by
  unfold TAt at h
  rw [toD_node] at h
  obtain ⟨a, vs, e1, e2, u, r, e3, e4, e5⟩ := h
  have e4 : u = .str w := e4
  subst e3; subst e4
  exact ⟨a, r, e1, e2, e5⟩
theorem TAt.mkNode {H : Hp} {w : Str} {ts : List Tm} {a : Addr} {vs : List V} (h : H a = some (.tup (.str w :: vs))) (hs : TAts H ts vs) : TAt H (.node w ts) (.ref a) := by
  unfold TAt
  rw [toD_node]
  exact ⟨a, _, rfl, h, _, _, rfl, rfl, hs⟩
def Wrd (w : Str) : Prop := w = "none" ∨ w = "all" ∨ w = "not" ∨ w = "both" ∨ w = "either"
theorem Wrd.ne {w : Str} (h : Wrd w) : w ≠ "name" := by
  rcases h with rfl | rfl | rfl | rfl | rfl <;> decide +kernel
def Sh (w : Str) (n : Nat) : Prop := (w = "none" ∧ n = 0) ∨ (w = "all" ∧ n = 0) ∨ (w = "not" ∧ n = 1) ∨ (w = "both" ∧ 2 ≤ n) ∨ (w = "either" ∧ 2 ≤ n)
structure Nm (x : Str) : Prop where
  pos : 1 ≤ x.length
  most : x.length ≤ 8
  low : ∀ c ∈ x.cps.toList, 97 ≤ c ∧ c ≤ 122
  nn : x ≠ "none"
  na : x ≠ "all"
def Fit : Nat → Tm → Prop
  | _, .name x => Nm x
  | 0, .node w ts => Sh w ts.length ∧ ts = []
  | n + 1, .node w ts => Sh w ts.length ∧ ∀ t ∈ ts, Fit n t
theorem Fit.up : ∀ {n : Nat} {t : Tm}, Fit n t → Fit (n + 1) t
  | n, .name _, h => by unfold Fit at h ⊢; exact h
  | 0, .node w ts, h => by
    unfold Fit at h
    obtain ⟨h1, h2⟩ := h
    subst h2
    exact ⟨h1, fun _ z => nomatch z⟩
  | n + 1, .node w ts, h => by
    unfold Fit at h ⊢
    exact ⟨h.1, fun t ht => Fit.up (h.2 t ht)⟩
theorem Fit.mono {n m : Nat} {t : Tm} (h : Fit n t) (hm : n ≤ m) : Fit m t := by
  obtain ⟨k, rfl⟩ := Nat.le.dest hm
  induction k with
  | zero => exact h
  | succ k ih => exact Fit.up (ih (by omega))
theorem Fit.part {n : Nat} {w : Str} {ts : List Tm} {t : Tm} (h : Fit (n + 1) (.node w ts)) (ht : t ∈ ts) : Fit n t := h.2 t ht
mutual
def wt : Tm → Nat
  | .name _ => 1
  | .node _ ts => 1 + wts ts
def wts : List Tm → Nat
  | [] => 0
  | t :: ts => wt t + wts ts
end
theorem same_new {H : Hp} {p : Addr} (h : H p = none) (o : HO) : Same H (upd H p o) := fun b u q => by rw [upd_ne (ne_of_none q h)]; exact q
theorem len_app (p q : Str) : (p ++ q).length = p.length + q.length := by
  show (p.cps ++ q.cps).size = p.cps.size + q.cps.size
  rw [Array.size_append]
theorem cps_app (p q : Str) : (p ++ q).cps.toList = p.cps.toList ++ q.cps.toList := by
  show (p.cps ++ q.cps).toList = _
  rw [Array.toList_append]
theorem small {n : Nat} (h : n ≤ 1000) : n ≤ sizeLine := Nat.le_of_lt (small1000 h)
theorem TAts.one {H : Hp} {t : Tm} {v : V} (h : TAt H t v) : TAts H [t] [v] := DAts.one h
theorem TAts.append {H : Hp} {ts us : List Tm} {vs ws : List V} (h : TAts H ts vs) (h' : TAts H us ws) : TAts H (ts ++ us) (vs ++ ws) := by
  unfold TAts
  rw [List.map_append]
  exact DAts.append h h'
theorem TAts.take {H : Hp} {ts : List Tm} {vs : List V} (n : Nat) (h : TAts H ts vs) : TAts H (ts.take n) (vs.take n) := by
  unfold TAts
  rw [List.map_take]
  exact DAts.take n h
theorem TAts.drop {H : Hp} {ts : List Tm} {vs : List V} (n : Nat) (h : TAts H ts vs) : TAts H (ts.drop n) (vs.drop n) := by
  unfold TAts
  rw [List.map_drop]
  exact DAts.drop n h
theorem TAts.length {H : Hp} {ts : List Tm} {vs : List V} (h : TAts H ts vs) : vs.length = ts.length := by
  have := DAts.length h
  rw [List.length_map] at this
  exact this
theorem TAts.get {H : Hp} {ts : List Tm} {vs : List V} {i : Nat} {t : Tm} (h : TAts H ts vs) (ht : ts[i]? = some t) : ∃ v, vs[i]? = some v ∧ TAt H t v :=
  DAts.get (d := toD t) h (by rw [List.getElem?_map, ht]; rfl)
def TupSame (H H' : Hp) : Prop := ∀ b xs, H b = some (.tup xs) → H' b = some (.tup xs)
theorem TupSame.refl (H : Hp) : TupSame H H := fun _ _ h => h
theorem TupSame.trans {H H1 H2 : Hp} (a : TupSame H H1) (b : TupSame H1 H2) : TupSame H H2 := fun c o h => b c o (a c o h)
theorem Same.tups {H H' : Hp} (e : Same H H') : TupSame H H' := fun b xs h => e b _ h
theorem TupSame.upd_lst {H H' : Hp} {a : Addr} {o : HO} {xs : List V} (e : TupSame H H') (h : H' a = some (.lst xs)) : TupSame H (upd H' a o) := fun b ys hb => by
  rw [upd_ne (ne_of (e _ _ hb) h (by intro z; cases z))]
  exact e _ _ hb
theorem Same.upd {H H1 : Hp} {a : Addr} {o : HO} (e : Same H H1) (h : H a = none) : Same H (upd H1 a o) := fun b u hb => by
  rw [upd_ne (ne_of_none hb h)]
  exact e _ _ hb
mutual
theorem TAt.tups {H H' : Hp} (e : TupSame H H') : ∀ {t : Tm} {v : V}, TAt H t v → TAt H' t v
  | .name x, v, h => by
    obtain ⟨a, e1, h2⟩ := TAt.name h
    subst e1
    exact TAt.mkName (e _ _ h2)
  | .node w ts, v, h => by
    obtain ⟨a, vs, e1, h2, hs⟩ := TAt.node h
    subst e1
    exact TAt.mkNode (e _ _ h2) (TAts.tups e hs)
theorem TAts.tups {H H' : Hp} (e : TupSame H H') : ∀ {ts : List Tm} {vs : List V}, TAts H ts vs → TAts H' ts vs
  | [], vs, h => h
  | t :: ts, vs, h => by
    obtain ⟨v, r, e1, e2, e3⟩ := h
    exact ⟨v, r, e1, TAt.tups e e2, TAts.tups e e3⟩
end
end L2
set_option Elab.async false
set_option linter.all false
set_option maxRecDepth 100000
namespace L2
open PySem PySem.Spec PyProof.Rows
structure KD (w : World) (K : PySem.W.Frag) (a : Addr) (kvs : List (Key × V)) : Prop where
  dict : ∀ (P : Program) (h : Heap), K.In h → ∃ vs, KV kvs vs ∧ h.DictOf (mixKind P w) a vs
def tKGet (w : World) (K : PySem.W.Frag) (td ty : TE) : TE := fun σ H Q => td σ H fun x H1 => ty σ H1 fun y H2 => ∃ a kvs k v, x = .ref a ∧ y = kV k ∧ KD w K a kvs ∧ valV kvs k = some v ∧ Q v H2
def entOk (w : World) : List DictEntry → List (Str × Str) → Prop
  | [], r => r = []
  | e :: es, r => ∃ x y t u r', r = (x, y) :: r' ∧ e.hash = hashStr w x ∧ e.key = .str x t ∧ e.val = .str y u ∧ entOk w es r'
theorem entOk.keys {w : World} {P : Program} : ∀ {es : List DictEntry} {r : List (Str × Str)}, entOk w es r → ∀ e ∈ es, ∃ k, (mixKind P w).is k e.key = true ∧ e.hash = (mixKind P w).hash k
  | [], _, _, e, he => nomatch he
  | e :: es, r, h, e', he => by
    obtain ⟨x, y, t, u, r', _, h1, h2, _, h4⟩ := h
    rcases List.mem_cons.mp he with rfl | he
    · exact ⟨.inr x, by rw [h2]; exact mixKind_str P w x t, h1⟩
    · exact entOk.keys h4 e' he
theorem entOk.pairs {w : World} {P : Program} : ∀ {es : List DictEntry} {r : List (Str × Str)}, entOk w es r → ∃ vs : List (Key × Value), KV (r.map fun p => ((.inr p.1 : Key), V.str p.2)) vs ∧ Pairs (mixKind P w) es vs ∧ vs.map (·.1) = r.map fun p => (.inr p.1 : Key)
  | [], r, h => by
    have h : r = [] := h
    subst h
    exact ⟨[], .nil, .nil, rfl⟩
  | e :: es, r, h => by
    obtain ⟨x, y, t, u, r', rfl, h1, h2, h3, h4⟩ := h
    obtain ⟨vs, a, b, c⟩ := entOk.pairs (P := P) h4
    refine ⟨(.inr x, .str y u) :: vs, .cons ⟨rfl, u, rfl⟩ a, .cons (by rw [h2]; exact mixKind_str P w x t) h3 b, ?_⟩
    rw [List.map_cons, List.map_cons, c]
theorem KD.of {w : World} {K : PySem.W.Frag} {a : Addr} {es : Array DictEntry} {ep : Nat} {r : List (Str × Str)} (o : K.lookup a = some ⟨.type "dict", none, .dict es ep, #[]⟩) (e : entOk w es.toList r) (n : (r.map fun p => (.inr p.1 : Key)).Nodup) :
    KD w K a (r.map fun p => ((.inr p.1 : Key), V.str p.2)) := ⟨fun P h X => by
  obtain ⟨vs, h1, h2, h3⟩ := entOk.pairs (P := P) e
  exact ⟨vs, h1, _, es, ep, X _ _ o, ⟨rfl, rfl, rfl⟩, rfl, fun x hx => entOk.keys e x (by simpa using hx), h2, by rw [h3]; exact n⟩⟩
theorem cx_w {CX : CXT} {P : Program} {w : World} {K : PySem.W.Frag} {mg : Str → Option Value} {base : Heap} {N : List Str} {qual : Str} {scope : Scope} {f : Addr} {cd : Value} {A : Around} {outer : List Env} {s : Shared} {H : Hp} {E : XK} : (cxOf CX P w K mg base N qual scope f cd A outer s H E).w = w := rfl
theorem bk_w {X : Cx} {xs ys : List Str} {scope : Scope} {C : Addr} {s₀ : Shared} {H₀ : Hp} {fp : List Addr} : (blockCx X xs ys scope C s₀ H₀ fp).w = X.w := rfl
theorem kit_same {K : PySem.W.Frag} {T : String} : PySem.W.kitOne K (.type T) (.type T) = some true := by
  unfold PySem.W.kitOne
  rw [if_pos (by simp)]
def kitF (S T : String) : Bool := !(Value.type S == Value.type T) && PySem.W.kitMeta T && ((PySem.fastBuiltinMro S).map (·.contains (.type T)) == some false)
theorem kit_f {K : PySem.W.Frag} {S T : String} (h : kitF S T = true) : PySem.W.kitOne K (.type S) (.type T) = some false := by
  unfold kitF at h
  simp only [Bool.and_eq_true, Bool.not_eq_true', beq_iff_eq] at h
  unfold PySem.W.kitOne
  rw [if_neg (by rw [h.1.1]; decide)]
  show (if PySem.W.kitMeta T = true then PySem.W.subIn K (.type S) (.type T) else none) = _
  rw [if_pos h.1.2]
  exact h.2
theorem kit_ti {K : PySem.W.Frag} : PySem.W.kitOne K (.type "tuple") (.type "int") = some false := kit_f (by decide +kernel)
theorem kit_ib {K : PySem.W.Frag} : PySem.W.kitOne K (.type "int") (.type "bool") = some false := kit_f (by decide +kernel)
def mw (w : Str) : Str := if w = "none" then "all" else if w = "all" then "none" else if w = "both" then "either" else if w = "either" then "both" else w
mutual
def mir : Tm → Tm
  | .name x => .name x
  | .node w ts => .node (mw w) (mirs ts)
def mirs : List Tm → List Tm
  | [] => []
  | t :: ts => mir t :: mirs ts
end
theorem mirs_map : ∀ ts : List Tm, mirs ts = ts.map mir
  | [] => rfl
  | t :: ts => by rw [mirs, mirs_map ts, List.map_cons]
theorem mir_node (w : Str) (ts : List Tm) : mir (.node w ts) = .node (mw w) (ts.map mir) := by rw [mir, mirs_map]
theorem Sh.mw {w : Str} {n : Nat} (h : Sh w n) : Sh (mw w) n ∧ L2.mw (L2.mw w) = w := by
  rcases h with ⟨rfl, h⟩ | ⟨rfl, h⟩ | ⟨rfl, h⟩ | ⟨rfl, h⟩ | ⟨rfl, h⟩
  · exact ⟨.inr (.inl ⟨by decide +kernel, h⟩), by decide +kernel⟩
  · exact ⟨.inl ⟨by decide +kernel, h⟩, by decide +kernel⟩
  · exact ⟨.inr (.inr (.inl ⟨by decide +kernel, h⟩)), by decide +kernel⟩
  · exact ⟨.inr (.inr (.inr (.inr ⟨by decide +kernel, h⟩))), by decide +kernel⟩
  · exact ⟨.inr (.inr (.inr (.inl ⟨by decide +kernel, h⟩))), by decide +kernel⟩
mutual
theorem wt_mir : ∀ t : Tm, wt (mir t) = wt t
  | .name x => by rw [mir]
  | .node w ts => by rw [mir, wt, wt, wts_mirs ts]
theorem wts_mirs : ∀ ts : List Tm, wts (mirs ts) = wts ts
  | [] => by rw [mirs]
  | t :: ts => by rw [mirs, wts, wts, wt_mir t, wts_mirs ts]
end
theorem Fit.mir : ∀ {n : Nat} {t : Tm}, Fit n t → Fit n (mir t) ∧ L2.mir (L2.mir t) = t
  | n, .name x, h => by rw [L2.mir, L2.mir]; exact ⟨h, rfl⟩
  | 0, .node w ts, h => by
    have h2 : ts = [] := h.2
    subst h2
    rw [mir_node, mir_node]
    exact ⟨⟨h.1.mw.1, rfl⟩, by rw [h.1.mw.2]; rfl⟩
  | n + 1, .node w ts, h => by
    have a : ∀ t ∈ ts, Fit n (L2.mir t) ∧ L2.mir (L2.mir t) = t := fun t ht => Fit.mir (h.2 t ht)
    rw [mir_node, mir_node]
    refine ⟨⟨by rw [List.length_map]; exact h.1.mw.1, fun t ht => ?_⟩, ?_⟩
    · obtain ⟨u, hu, rfl⟩ := List.mem_map.mp ht
      exact (a u hu).1
    · rw [h.1.mw.2]
      have e : (ts.map L2.mir).map L2.mir = ts := by
        have go : ∀ us : List Tm, (∀ t ∈ us, L2.mir (L2.mir t) = t) → (us.map L2.mir).map L2.mir = us := by
          intro us
          induction us with
          | nil => intro _; rfl
          | cons u r ih =>
            intro hu
            rw [List.map_cons, List.map_cons, hu u (by simp), ih fun t ht => hu t (by simp [ht])]
        exact go ts fun t ht => (a t ht).2
      rw [e]
theorem TAts.snoc {H : Hp} {ts : List Tm} {vs : List V} {i : Nat} {t : Tm} {v : V} (ht : ts[i]? = some t) (h : TAts H (ts.take i) vs) (h1 : TAt H t v) : TAts H (ts.take (i + 1)) (vs ++ [v]) := by
  obtain ⟨hi, e⟩ := List.getElem?_eq_some_iff.mp ht
  rw [List.take_succ_eq_append_getElem hi, e]
  exact TAts.append h (TAts.one h1)
theorem Same.tup {K : PySem.W.Frag} {H H' : Hp} {a : Addr} {xs : List V} (e : Same H H') (h : SqT K H a xs) : SqT K H' a xs := by
  rcases h with (h | ⟨o, h⟩) | h
  · exact .inl (.inl (e _ _ h))
  · exact .inl (.inr ⟨o, e _ _ h⟩)
  · exact .inr h
theorem at0 {α : Type} {x : α} {xs : List α} : atI (x :: xs) 0 = some x := atI_nat (j := 0) (xs := x :: xs) rfl
theorem at1 {α : Type} {x y : α} {xs : List α} : atI (x :: y :: xs) 1 = some y := atI_nat (j := 1) (xs := x :: y :: xs) rfl
def dSay (p : Tm × Tm) : Dt := .tup [toD p.1, toD p.2]
def dRule (r : List (Tm × Tm) × (Tm × Tm)) : Dt := .tup [.lst (r.1.map dSay), dSay r.2]
abbrev SAt (H : Hp) (p : Tm × Tm) (v : V) : Prop := DAt H (dSay p) v
abbrev SAts (H : Hp) (ps : List (Tm × Tm)) (vs : List V) : Prop := DAts H (ps.map dSay) vs
abbrev RAt (H : Hp) (r : List (Tm × Tm) × (Tm × Tm)) (v : V) : Prop := DAt H (dRule r) v
theorem SAt.out {H : Hp} {p : Tm × Tm} {v : V} (h : SAt H p v) : ∃ a v1 v2, v = .ref a ∧ H a = some (.tup [v1, v2]) ∧ TAt H p.1 v1 ∧ TAt H p.2 v2 := by
  obtain ⟨a, vs, e1, e2, u, r, e3, h1, u2, r2, e4, h2, e5⟩ := h
  have e5 : r2 = [] := e5
  subst e5; subst e4; subst e3
  exact ⟨a, u, u2, e1, e2, h1, h2⟩
theorem RAt.out {H : Hp} {r : List (Tm × Tm) × (Tm × Tm)} {v : V} (h : RAt H r v) : ∃ a l s vs, v = .ref a ∧ H a = some (.tup [.ref l, s]) ∧ H l = some (.lst vs) ∧ SAts H r.1 vs ∧ SAt H r.2 s := by
  obtain ⟨a, vs, e1, e2, u, q, e3, ⟨l, ws, e6, e7, h1⟩, u2, r2, e4, h2, e5⟩ := h
  have e5 : r2 = [] := e5
  subst e5; subst e4; subst e3; subst e6
  exact ⟨a, l, u2, ws, e1, e2, e7, h1, h2⟩
theorem SAts.length {H : Hp} {ps : List (Tm × Tm)} {vs : List V} (h : SAts H ps vs) : vs.length = ps.length := by
  have := DAts.length h
  rw [List.length_map] at this
  exact this
theorem SAts.snoc {H : Hp} {ps : List (Tm × Tm)} {vs : List V} {i : Nat} {p : Tm × Tm} {v : V} (ht : ps[i]? = some p) (h : SAts H (ps.take i) vs) (h1 : SAt H p v) : SAts H (ps.take (i + 1)) (vs ++ [v]) := by
  obtain ⟨hi, e⟩ := List.getElem?_eq_some_iff.mp ht
  unfold SAts
  rw [List.take_succ_eq_append_getElem hi, e, List.map_append]
  exact DAts.append h (DAts.one h1)
def FitS (n m : Nat) (p : Tm × Tm) : Prop := (Fit n p.1 ∧ wt p.1 ≤ m) ∧ Fit n p.2 ∧ wt p.2 ≤ m
theorem DFit.up : ∀ {n : Nat} {d : Dt}, DFit n d → DFit (n + 1) d
  | n, .non, _ => by cases n <;> trivial
  | n, .bl _, _ => by cases n <;> trivial
  | n, .int _, _ => by cases n <;> trivial
  | n, .str _, _ => by cases n <;> trivial
  | 0, .tup _, h => h.elim
  | 0, .lst _, h => h.elim
  | n + 1, .tup ds, h => ⟨h.1, fun d hd => DFit.up (h.2 d hd)⟩
  | n + 1, .lst ds, h => ⟨h.1, fun d hd => DFit.up (h.2 d hd)⟩
def mirP (p : Tm × Tm) : Tm × Tm := (mir p.2, mir p.1)
theorem FitS.mir {n m : Nat} {p : Tm × Tm} (h : FitS n m p) : FitS n m (mirP p) := by
  refine ⟨⟨h.2.1.mir.1, ?_⟩, h.1.1.mir.1, ?_⟩
  · show wt (L2.mir p.2) ≤ m
    rw [wt_mir]
    exact h.2.2
  · show wt (L2.mir p.1) ≤ m
    rw [wt_mir]
    exact h.1.2
def cutI (ns : List Int) (lo hi : Option Int) : List Int := (ns.drop (HT.sIx ns.length 0 lo)).take (HT.sIx ns.length ns.length hi - HT.sIx ns.length 0 lo)
theorem cut_ints (ns : List Int) (lo hi : Option Int) : cutV (ns.map V.int) lo hi = (cutI ns lo hi).map V.int := by
  unfold cutV cutI
  rw [List.length_map, List.map_take, List.map_drop]
theorem cutI_len (ns : List Int) (lo hi : Option Int) : (cutI ns lo hi).length ≤ ns.length := by
  unfold cutI
  rw [List.length_take, List.length_drop]
  omega
theorem DFit.mono {n m : Nat} {d : Dt} (h : DFit n d) (hm : n ≤ m) : DFit m d := by
  obtain ⟨k, rfl⟩ := Nat.le.dest hm
  induction k with
  | zero => exact h
  | succ k ih => exact DFit.up (ih (by omega))
theorem FitS.mono {n m n' m' : Nat} {p : Tm × Tm} (h : FitS n m p) (h1 : n ≤ n') (h2 : m ≤ m') : FitS n' m' p := ⟨⟨h.1.1.mono h1, Nat.le_trans h.1.2 h2⟩, h.2.1.mono h1, Nat.le_trans h.2.2 h2⟩
end L2
set_option Elab.async false
set_option linter.all false
set_option maxRecDepth 100000
namespace L2
open PySem PySem.Spec PyProof.Rows
section
variable {X : Cx} (K : PySem.W.Frag)
theorem ix_listK (h : X.K = K := by rfl) : IxR X (rIxL K) := by subst h; exact ix_list
theorem ix_tupK (h : X.K = K := by rfl) : IxR X (rIxT K) := by subst h; exact ix_tup
theorem call_lenK (h : X.K = K := by rfl) : CallR X (.builtin "len") (fun xs H Q => ∃ x n, xs = [x] ∧ LenV K x H n ∧ Q (.int n) H) := by subst h; exact call_len
theorem call_list_ofK (h : X.K = K := by rfl) : CallR X (.type "list") (fun xs H Q => ∃ p ys, xs = [.ref p] ∧ (SqL K H p ys ∨ SqT K H p ys) ∧ ∀ l, H l = none → Q (.ref l) (upd H l (.lst ys))) := by subst h; exact call_list_of
end
end L2
set_option maxRecDepth 100000
namespace L2
open PySem
abbrev Cs := List Nat
def glue (j : Cs) : List Cs → Cs
  | [] => []
  | [s] => s
  | s :: r :: q => s ++ j ++ glue j (r :: q)
def jAnd : Cs := [32, 38, 32]
def jOr : Cs := [32, 124, 32]
def jOf (w : Str) : Cs := if w = "both" then jAnd else jOr
def wrN (w : Str) (ss : List Cs) : Cs := if w = "not" then 33 :: ss.headD [] else if ss = [] then w.cps.toList else 40 :: (glue (jOf w) ss ++ [41])
mutual
def wr : Tm → Cs
  | .name x => x.cps.toList
  | .node w ts => wrN w (wrs ts)
def wrs : List Tm → List Cs
  | [] => []
  | t :: ts => wr t :: wrs ts
end
end L2
set_option maxRecDepth 100000
namespace L2
open PySem
def toS (s : Cs) : Str := ⟨s.toArray⟩
mutual
def lvs : Tm → Nat
  | .name _ => 1
  | .node _ ts => if ts.isEmpty then 1 else lvss ts
def lvss : List Tm → Nat
  | [] => 0
  | t :: ts => lvs t + lvss ts
end
end L2
set_option maxRecDepth 100000
namespace L2
open PySem PySem.Builtin PySem.Builtin.Str PySem.StrLaws
structure Mark (y : Cs) (k m : Nat) : Prop where
  at_ : y[k]? = some m
  once : ∀ j, y[j]? = some m → j = k
end L2
set_option Elab.async false
set_option linter.all false
set_option maxRecDepth 100000
namespace L2
open PySem PySem.Spec PyProof.Rows PySem.Builtin PySem.Builtin.Str
section
variable {X : Cx}
end
structure HasM (P : Program) (w : World) (K : PySem.W.Frag) (mg : Str → Option Value) (base : Heap) (k : Nat) (C : Addr) (m : Str) (ps : List Str) (sp : Sp) : Prop where
  ex : ∃ f fd, FnOk P w K mg base CX0 k f fd ps sp ∧ Binds K fd ps [] ∧ Meth K C m f
structure HasI (P : Program) (w : World) (K : PySem.W.Frag) (mg : Str → Option Value) (base : Heap) (k : Nat) (C : Addr) (x : Str) (ps : List Str) (sp : Sp) : Prop where
  ex : ∃ f fd, FnOk P w K mg base CX0 k f fd ps sp ∧ Binds K fd ps [] ∧ Mk K C f ∧ mg x = some (.ref C)
section
variable {X : Cx} {k : Nat} {C : Addr} {x m : Str} {ps : List Str} {sp : Sp} {p pos apos : Pos} {e o : Expr} {es : List Expr} {ta : TE} {t : TA}
theorem pe_methH {pl : Sem Bool} (h : HasM X.prog X.w X.K X.mg X.base k C m ps sp) (c : Cls X.K C) (hr : Room k X.A) (he : PE X o ta) (ha : PA X (e :: es) t)
    (hst : starEach (e :: es) X.env = (false, eval e X.env) :: starEach es X.env := by rfl) (hpl : (backTo pos (starEach es X.env)).any (·.1) = false := by rfl)
    (ht : eval (.Call (.Attribute o m apos) (e :: es) [] pos) X.env = (do
      let ov ← eval o X.env
      standAt apos.atName
      let (f, first) ← holding [ov] (getMethod ov m pl)
      callWith pos f first (backTo pos (starEach (e :: es) X.env)) (backToKw pos (keywordEach [] X.env))) := by rfl) :
    PE X (.Call (.Attribute o m apos) (e :: es) [] pos) (tMeth C m sp [] E0 ta t) := by
  obtain ⟨f, fd, F, b, mm⟩ := h.ex
  exact pe_meth (pl := pl) he c mm F hr b .nil pass0 ha hst hpl ht
theorem pe_makeH (h : HasI X.prog X.w X.K X.mg X.base k C x ps sp) (hr : Room (k + 1) X.A) (hg : Gl X x) (ha : PA X (e :: es) t) (hdb : (x == ("__debug__" : Str)) = false := by decide)
    (he : starEach (e :: es) X.env = (false, eval e X.env) :: starEach es X.env := by rfl) (hpl : (backTo pos (starEach es X.env)).any (·.1) = false := by rfl) :
    PE X (.Call (.Name x p) (e :: es) [] pos) (tMake C sp [] E0 t) := by
  obtain ⟨f, fd, F, b, M, m⟩ := h.ex
  exact pe_make M F hr hg m b .nil pass0 ha hdb he hpl
end
def rdF (x : Cs) (k : Nat) : List (Str × V) := [("text", .str (toS x)), ("at", .int k)]
def RdAt (C : Addr) (H : Hp) (r : Addr) (x : Cs) (k : Nat) : Prop := ∃ dx, H r = some (.ins C dx (rdF x k))
def SameX (r : Addr) (H H' : Hp) : Prop := ∀ b o, H b = some o → b ≠ r → H' b = some o
theorem SameX.refl (r : Addr) (H : Hp) : SameX r H H := fun _ _ h _ => h
theorem SameX.trans {r : Addr} {H H1 H2 : Hp} (a : SameX r H H1) (b : SameX r H1 H2) : SameX r H H2 := fun c o h n => b c o (a c o h n) n
theorem Same.x {r : Addr} {H H' : Hp} (a : Same H H') : SameX r H H' := fun c o h _ => a c o h
theorem SameX.upd {r : Addr} {H H1 : Hp} {o : HO} (a : SameX r H H1) : SameX r H (L2.upd H1 r o) := fun c o' h n => by
  rw [upd_ne n]
  exact a c o' h n
theorem SameX.tups {r : Addr} {H H' : Hp} {C : Addr} {x : Cs} {k : Nat} (a : SameX r H H') (h : RdAt C H r x k) : TupSame H H' := fun b xs e => by
  obtain ⟨dx, h⟩ := h
  exact a b _ e (ne_of e h (by intro z; cases z))
theorem RdAt.same {C : Addr} {H H' : Hp} {r : Addr} {x : Cs} {k : Nat} (h : RdAt C H r x k) (e : Same H H') : RdAt C H' r x k := by
  obtain ⟨dx, h⟩ := h
  exact ⟨dx, e _ _ h⟩
theorem SameX.new {r p : Addr} {H H1 : Hp} {o : HO} (a : SameX r H H1) (h : H p = none) : SameX r H (L2.upd H1 p o) := fun c o' hc n => by
  rw [upd_ne (ne_of_none hc h)]
  exact a c o' hc n
end L2
set_option Elab.async false
set_option linter.all false
set_option maxRecDepth 100000
namespace L2
open PySem PySem.Spec PyProof.Rows
section
variable {prog : Program} {w : World} {A : Around} {E : Value → Shared → Prop} {s : Shared} {a : Addr} {its : Array Value} {n : Nat} {sl : Array (Option Value)}
end
section
variable {prog : Program} {w : World} {A : Around} {E : Value → Shared → Prop} {h : Heap} {g : Array GenState} {d : Drawn} {t : Nat} {os : OsState} {a : Addr} {its : Array Value} {n : Nat} {sl : Array (Option Value)}
end
section
variable {prog : Program} {w : World} {Kt : Type} [DecidableEq Kt] {knd : KeyKind prog w Kt} {A : Around} {E : Value → Shared → Prop} {s : Shared}
end
end L2
set_option Elab.async false
set_option linter.all false
set_option maxRecDepth 100000
namespace L2
open PySem PySem.Spec PyProof.Rows
section
variable {X : Cx}
end
end L2
set_option Elab.async false
set_option linter.all false
set_option maxRecDepth 100000
namespace L2
open PySem PySem.Spec PyProof.Rows PySem.W
section
variable {prog : Program} {w : World} {A : Around} {E : Value → Shared → Prop} {s : Shared} {T : String} {r d : Addr} {n : Nat} {P : Nat → Value → Prop} {OK : Heap → Prop}
end
section
variable {X : Cx}
end
end L2
set_option Elab.async false
set_option linter.all false
set_option maxRecDepth 100000
namespace L2
open PySem PySem.Spec PyProof.Rows
section
variable {X : Cx}
end
end L2
set_option Elab.async false
set_option linter.all false
set_option maxRecDepth 100000
namespace L2
open PySem PyProof.Rows
def txv : Value → Option Str
  | .str z _ => some z
  | _ => none
def txs (l : List (Int × Value)) : List Str := l.filterMap fun e => txv e.2
def byTx (w : World) : Bool := w.params.followText "set-order"
section
variable {prog : Program} {w : World} {A : Around} {E : Value → Shared → Prop} {s : Shared}
def TxSet (prog : Program) (w : World) (h : Heap) (a : Addr) (zs : List Str) : Prop :=
  ∃ o es ep t, h.get? a = some o ∧ o.ExactSet ∧ o.data = .set es ep t ∧ ElemsOf (strKind prog w) es.toList ∧ zs = txs es.toList ∧ zs.Nodup ∧ es.size < scanBound ∧ t.fits es.size = true ∧
    (byTx w = true ∨ t.led = true ∧ (es.size = 0 ∨ t.plain = false))
theorem TxSet.kept {h h' : Heap} {a : Addr} {zs : List Str} (hS : TxSet prog w h a zs) (k : ∀ o, h.get? a = some o → h'.get? a = some o) : TxSet prog w h' a zs := by
  obtain ⟨o, es, ep, t, ho, r⟩ := hS
  exact ⟨o, es, ep, t, k _ ho, r⟩
end
end L2
set_option Elab.async false
set_option linter.all false
set_option maxRecDepth 100000
namespace L2
open PySem PyProof.Rows
section
variable {prog : Program} {w : World} {A : Around} {E : Value → Shared → Prop} {s : Shared}
end
end L2
set_option Elab.async false
set_option linter.all false
set_option maxRecDepth 100000
namespace L2
open PySem PyProof.Rows
section
variable {prog : Program} {w : World} {A : Around} {E : Value → Shared → Prop} {s : Shared}
end
end L2
set_option Elab.async false
set_option linter.all false
set_option maxRecDepth 100000
namespace L2
open PySem PyProof.Rows
section
variable {prog : Program} {w : World} {A : Around} {R : Result → Shared → Prop} {I : Addr} {fp wr : List Addr} {G : Array GenState → Array GenState → Prop} {n : Nat} {P : Nat → Value → Prop} {St : Nat → Shared → Prop}
end
section
variable {prog : Program} {w : World} {A : Around} {E : Value → Shared → Prop} {s : Shared}
end
end L2
set_option Elab.async false
set_option linter.all false
set_option maxRecDepth 100000
namespace L2
open PySem PyProof.Rows
section
variable {prog : Program} {w : World} {A : Around} {E : Value → Shared → Prop} {s : Shared}
end
end L2
set_option Elab.async false
set_option linter.all false
set_option maxRecDepth 100000
namespace L2
open PySem PySem.Spec PyProof.Rows PySem.SeqAt
mutual
def deq : Dt → Dt → Bool
  | .non, .non => true
  | .bl a, .bl b => a == b
  | .int a, .int b => a == b
  | .bl a, .int b => (if a then 1 else 0) == b
  | .int a, .bl b => a == (if b then 1 else 0)
  | .str a, .str b => a == b
  | .tup xs, .tup ys => deqs xs ys
  | .lst xs, .lst ys => deqs xs ys
  | _, _ => false
def deqs : List Dt → List Dt → Bool
  | [], [] => true
  | x :: xs, y :: ys => deq x y && deqs xs ys
  | _, _ => false
end
mutual
theorem deq_refl : ∀ d : Dt, deq d d = true
  | .non => rfl
  | .bl a => by simp [deq]
  | .int a => by simp [deq]
  | .str a => by simp [deq]
  | .tup ds => by rw [deq]; exact deqs_refl ds
  | .lst ds => by rw [deq]; exact deqs_refl ds
theorem deqs_refl : ∀ ds : List Dt, deqs ds ds = true
  | [] => rfl
  | d :: ds => by rw [deqs, deq_refl d, deqs_refl ds]; rfl
end
def eat (xs ys : List Dt) (j : Nat) : Bool :=
  match xs[j]?, ys[j]? with
  | some x, some y => deq x y
  | _, _ => false
theorem deqs_all : ∀ xs ys : List Dt, ((List.range (min xs.length ys.length)).all (eat xs ys) && xs.length == ys.length) = deqs xs ys
  | [], [] => rfl
  | [], y :: ys => by simp [deqs]
  | x :: xs, [] => by simp [deqs]
  | x :: xs, y :: ys => by
    rw [deqs, ← deqs_all xs ys, List.length_cons, List.length_cons, Nat.succ_min_succ, List.range_succ_eq_map, List.all_cons, List.all_map]
    have e1 : eat (x :: xs) (y :: ys) 0 = deq x y := rfl
    have e2 : eat (x :: xs) (y :: ys) ∘ Nat.succ = eat xs ys := by funext j; simp [eat]
    rw [e1, e2, Bool.and_assoc]
    congr 2
    rw [Bool.eq_iff_iff]
    simp
mutual
theorem DAt.one_of {H : Hp} : ∀ {d d' : Dt} {v : V}, DAt H d v → DAt H d' v → d = d'
  | d, .non, v, h, h' => by have h' : v = .non := h'; subst h'; cases d <;> simp_all [DAt]
  | d, .bl b, v, h, h' => by have h' : v = .bl b := h'; subst h'; cases d <;> simp_all [DAt]
  | d, .int b, v, h, h' => by have h' : v = .int b := h'; subst h'; cases d <;> simp_all [DAt]
  | d, .str b, v, h, h' => by have h' : v = .str b := h'; subst h'; cases d <;> simp_all [DAt]
  | d, .tup ds', v, h, h' => by
    obtain ⟨a, vs, rfl, e2, e3⟩ := h'
    cases d with
    | tup ds =>
      obtain ⟨a', vs', e1', e2', e3'⟩ := h
      cases e1'
      rw [e2] at e2'
      cases e2'
      rw [DAts.one_of e3' e3]
    | lst ds =>
      obtain ⟨a', vs', e1', e2', e3'⟩ := h
      cases e1'
      rw [e2] at e2'
      cases e2'
    | _ => cases h
  | d, .lst ds', v, h, h' => by
    obtain ⟨a, vs, rfl, e2, e3⟩ := h'
    cases d with
    | lst ds =>
      obtain ⟨a', vs', e1', e2', e3'⟩ := h
      cases e1'
      rw [e2] at e2'
      cases e2'
      rw [DAts.one_of e3' e3]
    | tup ds =>
      obtain ⟨a', vs', e1', e2', e3'⟩ := h
      cases e1'
      rw [e2] at e2'
      cases e2'
    | _ => cases h
theorem DAts.one_of {H : Hp} : ∀ {ds ds' : List Dt} {vs : List V}, DAts H ds vs → DAts H ds' vs → ds = ds'
  | ds, [], vs, h, h' => by
    have h' : vs = [] := h'
    subst h'
    cases ds with
    | nil => rfl
    | cons d ds => obtain ⟨v, r, e, _⟩ := h; cases e
  | ds, d' :: ds', vs, h, h' => by
    obtain ⟨v, r, rfl, e2, e3⟩ := h'
    cases ds with
    | nil => cases h
    | cons d ds =>
      obtain ⟨v', r', e, e2', e3'⟩ := h
      cases e
      rw [DAt.one_of e2' e2, DAts.one_of e3' e3]
end
section
variable {P : Program} {w : World} {H : Hp} {s : Shared}
theorem DAts.tup_of (ok : HOk P w H s.heap) {a : Addr} {vs : List V} (h : H a = some (.tup vs)) : ∃ its : List Value, Vals vs its ∧ s.heap.IsTuple a its.toArray := by
  obtain ⟨z, its, r, p⟩ := ok a _ h
  exact ⟨its, r, p⟩
theorem DAts.lst_of (ok : HOk P w H s.heap) {a : Addr} {vs : List V} (h : H a = some (.lst vs)) : ∃ its : List Value, Vals vs its ∧ s.heap.IsList a its.toArray := by
  obtain ⟨z, its, n, r, p⟩ := ok a _ h
  exact ⟨its, r, _, p, rfl, n, rfl⟩
theorem vals_at : ∀ {xs : List V} {us : List Value} {i : Nat} {x : V} {u : Value}, Vals xs us → xs[i]? = some x → us[i]? = some u → RelV x u
  | _, _, _, _, _, .nil, h, _ => by simp at h
  | _, _, 0, _, _, .cons r q, h, h' => by
    simp at h h'
    subst h
    subst h'
    exact r
  | _, _, i + 1, _, _, .cons r q, h, h' => vals_at q (by simpa using h) (by simpa using h')
theorem rc_lists (ok : HOk P w H s.heap) {n : Nat} {A : Around} (ih : ∀ {A : Around} {d d' : Dt} {v v' : V} {u u' : Value}, DAt H d v → DAt H d' v' → RelV v u → RelV v' u' → DFit n d → A.units + n < cLine → EqAt A s u u' (deq d d'))
    {l l' : Addr} {ds ds' : List Dt} {vs vs' : List V} {its its' : List Value} (hs : DAts H ds vs) (hs' : DAts H ds' vs') (rv : Vals vs its) (rv' : Vals vs' its') (hl : s.heap.IsList l its.toArray) (hl' : s.heap.IsList l' its'.toArray)
    (f : ∀ d ∈ ds, DFit n d) (hu : A.units + (n + 1) < cLine) : RcAt A s (.ref l) (.ref l') (deqs ds ds') := by
  have k1 := hs.length
  have k2 := hs'.length
  have k3 := rv.length
  have k4 := rv'.length
  by_cases hz : ds.length = ds'.length
  · have key := RcAt.lists (A := A) (e := eat ds ds') hl hl' (by rw [List.size_toArray, List.size_toArray]; omega) (by omega) fun j h1 h2 => ?_
    · rw [← deqs_all, hz, Nat.min_self, beq_self_eq_true, Bool.and_true]
      rw [List.size_toArray] at key
      rw [show ds'.length = its.length by omega]
      exact key
    · rw [List.size_toArray] at h1 h2
      have hj : j < ds.length := by omega
      have hj' : j < ds'.length := by omega
      obtain ⟨x, x1, x2⟩ := hs.get (List.getElem?_eq_getElem hj)
      obtain ⟨y, y1, y2⟩ := hs'.get (List.getElem?_eq_getElem hj')
      have e1 : eat ds ds' j = deq ds[j] ds'[j] := by unfold eat; rw [List.getElem?_eq_getElem hj, List.getElem?_eq_getElem hj']
      rw [e1]
      refine ih x2 y2 ?_ ?_ (f _ (List.getElem_mem hj)) (by show A.units + 1 + n < cLine; omega)
      · exact vals_at rv x1 (by rw [List.getElem_toArray]; exact List.getElem?_eq_getElem h1)
      · exact vals_at rv' y1 (by rw [List.getElem_toArray]; exact List.getElem?_eq_getElem h2)
  · have hf : deqs ds ds' = false := by rw [← deqs_all, show (ds.length == ds'.length) = false by simpa using hz, Bool.and_false]
    rw [hf]
    exact RcAt.lists_lengths hl hl' (by rw [List.size_toArray, List.size_toArray]; simp; omega) (by omega)
theorem deq_same (ok : HOk P w H s.heap) {A : Around} {d : Dt} {v : V} {u u' : Value} (h : DAt H d v) (r : RelV v u) (r' : RelV v u') : EqAt A s u u' true := by
  cases d with
  | non => have h : v = .non := h; subst h; cases r; cases r'; exact EqAt.same _
  | bl a => have h : v = .bl a := h; subst h; cases r; cases r'; exact EqAt.same _
  | int a =>
    have h : v = .int a := h
    subst h
    obtain ⟨t, rfl⟩ := r
    obtain ⟨t', rfl⟩ := r'
    have := EqAt.int_int (A := A) (s := s) a t a t'
    rwa [beq_self_eq_true] at this
  | str a =>
    have h : v = .str a := h
    subst h
    obtain ⟨t, rfl⟩ := r
    obtain ⟨t', rfl⟩ := r'
    have := EqAt.str_str (A := A) (s := s) a t a t'
    rwa [beq_self_eq_true] at this
  | tup ds => obtain ⟨l, vs, rfl, _⟩ := h; cases r; cases r'; exact EqAt.same _
  | lst ds => obtain ⟨l, vs, rfl, _⟩ := h; cases r; cases r'; exact EqAt.same _
theorem deq_sc (ok : HOk P w H s.heap) {A : Around} {d d' : Dt} {v v' : V} {u u' : Value} (h : DAt H d v) (h' : DAt H d' v') (r : RelV v u) (r' : RelV v' u') (hu : A.units < cLine) (hk : ∀ ds ds', ¬ (d = .tup ds ∧ d' = .tup ds') ∧ ¬ (d = .lst ds ∧ d' = .lst ds')) : EqAt A s u u' (deq d d') := by
  cases d with
  | non =>
    have h : v = .non := h
    subst h
    cases r
    cases d' with
    | non =>
      have h' : v' = .non := h'
      subst h'
      cases r'
      simp only [deq]
      exact EqAt.same _
    | bl b =>
      have h' : v' = .bl b := h'
      subst h'
      cases r'
      simp only [deq]
      exact EqAt.none_bool _
    | int b =>
      have h' : v' = .int b := h'
      subst h'
      obtain ⟨t', rfl⟩ := r'
      simp only [deq]
      exact EqAt.none_int _ _
    | str b =>
      have h' : v' = .str b := h'
      subst h'
      obtain ⟨t', rfl⟩ := r'
      simp only [deq]
      exact EqAt.none_str _ _
    | tup ds' =>
      obtain ⟨l', vs', rfl, e', hs'⟩ := h'
      cases r'
      obtain ⟨its', rv', hl'⟩ := DAts.tup_of ok e'
      simp only [deq]
      exact EqAt.none_tuple hl' hu
    | lst ds' =>
      obtain ⟨l', vs', rfl, e', hs'⟩ := h'
      cases r'
      obtain ⟨its', rv', hl'⟩ := DAts.lst_of ok e'
      simp only [deq]
      exact EqAt.none_list hl' hu
  | bl a =>
    have h : v = .bl a := h
    subst h
    cases r
    cases d' with
    | non =>
      have h' : v' = .non := h'
      subst h'
      cases r'
      simp only [deq]
      exact EqAt.bool_none _
    | bl b =>
      have h' : v' = .bl b := h'
      subst h'
      cases r'
      simp only [deq]
      exact EqAt.bool_bool _ _
    | int b =>
      have h' : v' = .int b := h'
      subst h'
      obtain ⟨t', rfl⟩ := r'
      simp only [deq]
      exact EqAt.bool_int _ _ _
    | str b =>
      have h' : v' = .str b := h'
      subst h'
      obtain ⟨t', rfl⟩ := r'
      simp only [deq]
      exact EqAt.bool_str _ _ _
    | tup ds' =>
      obtain ⟨l', vs', rfl, e', hs'⟩ := h'
      cases r'
      obtain ⟨its', rv', hl'⟩ := DAts.tup_of ok e'
      simp only [deq]
      exact EqAt.bool_tuple _ hl' hu
    | lst ds' =>
      obtain ⟨l', vs', rfl, e', hs'⟩ := h'
      cases r'
      obtain ⟨its', rv', hl'⟩ := DAts.lst_of ok e'
      simp only [deq]
      exact EqAt.bool_list _ hl' hu
  | int a =>
    have h : v = .int a := h
    subst h
    obtain ⟨t, rfl⟩ := r
    cases d' with
    | non =>
      have h' : v' = .non := h'
      subst h'
      cases r'
      simp only [deq]
      exact EqAt.int_none _ _
    | bl b =>
      have h' : v' = .bl b := h'
      subst h'
      cases r'
      simp only [deq]
      exact EqAt.int_bool _ _ _
    | int b =>
      have h' : v' = .int b := h'
      subst h'
      obtain ⟨t', rfl⟩ := r'
      simp only [deq]
      exact EqAt.int_int _ _ _ _
    | str b =>
      have h' : v' = .str b := h'
      subst h'
      obtain ⟨t', rfl⟩ := r'
      simp only [deq]
      exact EqAt.int_str _ _ _ _
    | tup ds' =>
      obtain ⟨l', vs', rfl, e', hs'⟩ := h'
      cases r'
      obtain ⟨its', rv', hl'⟩ := DAts.tup_of ok e'
      simp only [deq]
      exact EqAt.int_tuple _ _ hl' hu
    | lst ds' =>
      obtain ⟨l', vs', rfl, e', hs'⟩ := h'
      cases r'
      obtain ⟨its', rv', hl'⟩ := DAts.lst_of ok e'
      simp only [deq]
      exact EqAt.int_list _ _ hl' hu
  | str a =>
    have h : v = .str a := h
    subst h
    obtain ⟨t, rfl⟩ := r
    cases d' with
    | non =>
      have h' : v' = .non := h'
      subst h'
      cases r'
      simp only [deq]
      exact EqAt.str_none _ _
    | bl b =>
      have h' : v' = .bl b := h'
      subst h'
      cases r'
      simp only [deq]
      exact EqAt.str_bool _ _ _
    | int b =>
      have h' : v' = .int b := h'
      subst h'
      obtain ⟨t', rfl⟩ := r'
      simp only [deq]
      exact EqAt.str_int _ _ _ _
    | str b =>
      have h' : v' = .str b := h'
      subst h'
      obtain ⟨t', rfl⟩ := r'
      simp only [deq]
      exact EqAt.str_str _ _ _ _
    | tup ds' =>
      obtain ⟨l', vs', rfl, e', hs'⟩ := h'
      cases r'
      obtain ⟨its', rv', hl'⟩ := DAts.tup_of ok e'
      simp only [deq]
      exact EqAt.str_tuple _ _ hl' hu
    | lst ds' =>
      obtain ⟨l', vs', rfl, e', hs'⟩ := h'
      cases r'
      obtain ⟨its', rv', hl'⟩ := DAts.lst_of ok e'
      simp only [deq]
      exact EqAt.str_list _ _ hl' hu
  | tup ds =>
    obtain ⟨l, vs, rfl, e, hs⟩ := h
    cases r
    obtain ⟨its, rv, hl⟩ := DAts.tup_of ok e
    cases d' with
    | non =>
      have h' : v' = .non := h'
      subst h'
      cases r'
      simp only [deq]
      exact EqAt.tuple_none hl hu
    | bl b =>
      have h' : v' = .bl b := h'
      subst h'
      cases r'
      simp only [deq]
      exact EqAt.tuple_bool _ hl hu
    | int b =>
      have h' : v' = .int b := h'
      subst h'
      obtain ⟨t', rfl⟩ := r'
      simp only [deq]
      exact EqAt.tuple_int _ _ hl hu
    | str b =>
      have h' : v' = .str b := h'
      subst h'
      obtain ⟨t', rfl⟩ := r'
      simp only [deq]
      exact EqAt.tuple_str _ _ hl hu
    | tup ds' => exact absurd ⟨rfl, rfl⟩ (hk _ _).1
    | lst ds' =>
      obtain ⟨l', vs', rfl, e', hs'⟩ := h'
      cases r'
      obtain ⟨its', rv', hl'⟩ := DAts.lst_of ok e'
      simp only [deq]
      exact EqAt.tuple_list hl hl' hu
  | lst ds =>
    obtain ⟨l, vs, rfl, e, hs⟩ := h
    cases r
    obtain ⟨its, rv, hl⟩ := DAts.lst_of ok e
    cases d' with
    | non =>
      have h' : v' = .non := h'
      subst h'
      cases r'
      simp only [deq]
      exact EqAt.list_none hl hu
    | bl b =>
      have h' : v' = .bl b := h'
      subst h'
      cases r'
      simp only [deq]
      exact EqAt.list_bool _ hl hu
    | int b =>
      have h' : v' = .int b := h'
      subst h'
      obtain ⟨t', rfl⟩ := r'
      simp only [deq]
      exact EqAt.list_int _ _ hl hu
    | str b =>
      have h' : v' = .str b := h'
      subst h'
      obtain ⟨t', rfl⟩ := r'
      simp only [deq]
      exact EqAt.list_str _ _ hl hu
    | tup ds' =>
      obtain ⟨l', vs', rfl, e', hs'⟩ := h'
      cases r'
      obtain ⟨its', rv', hl'⟩ := DAts.tup_of ok e'
      simp only [deq]
      exact EqAt.list_tuple hl hl' hu
    | lst ds' => exact absurd ⟨rfl, rfl⟩ (hk _ _).2
theorem deq_at (ok : HOk P w H s.heap) : ∀ (n : Nat) {A : Around} {d d' : Dt} {v v' : V} {u u' : Value}, DAt H d v → DAt H d' v' → RelV v u → RelV v' u' → DFit n d → A.units + n < cLine → EqAt A s u u' (deq d d') := by
  intro n
  induction n with
  | zero =>
    intro A d d' v v' u u' h h' r r' f hu
    exact deq_sc ok h h' r r' hu fun ds ds' => ⟨fun e => by rw [e.1] at f; exact f, fun e => by rw [e.1] at f; exact f⟩
  | succ n ih =>
    intro A d d' v v' u u' h h' r r' f hu
    by_cases hvv : v = v'
    · subst hvv
      rw [DAt.one_of h h', deq_refl]
      have hd : d = d' := DAt.one_of h h'
      subst hd
      have hx := deq_same ok (A := A) h r r'
      exact hx
    cases d with
    | tup ds =>
      cases d' with
      | tup ds' =>
        obtain ⟨l, vs, rfl, e, hs⟩ := h
        obtain ⟨l', vs', rfl, e', hs'⟩ := h'
        cases r
        cases r'
        obtain ⟨its, rv, hl⟩ := DAts.tup_of ok e
        obtain ⟨its', rv', hl'⟩ := DAts.tup_of ok e'
        have k1 := hs.length
        have k2 := hs'.length
        have k3 := rv.length
        have k4 := rv'.length
        have key := RcAt.tuples (A := A) (e := eat ds ds') hl hl' (by omega) fun j h1 h2 => ?_
        · simp only [deq]
          rw [← deqs_all]
          refine EqAt.of_refs (fun z => hvv (by rw [z])) ?_
          rw [List.size_toArray, List.size_toArray] at key
          rw [← k1, ← k2, k3, k4]
          exact key
        · rw [List.size_toArray] at h1 h2
          have hj : j < ds.length := by omega
          have hj' : j < ds'.length := by omega
          obtain ⟨x, x1, x2⟩ := hs.get (List.getElem?_eq_getElem hj)
          obtain ⟨y, y1, y2⟩ := hs'.get (List.getElem?_eq_getElem hj')
          have e1 : eat ds ds' j = deq ds[j] ds'[j] := by unfold eat; rw [List.getElem?_eq_getElem hj, List.getElem?_eq_getElem hj']
          rw [e1]
          refine ih x2 y2 ?_ ?_ (f.2 _ (List.getElem_mem hj)) (by show A.units + 1 + n < cLine; omega)
          · exact vals_at rv x1 (by rw [List.getElem_toArray]; exact List.getElem?_eq_getElem h1)
          · exact vals_at rv' y1 (by rw [List.getElem_toArray]; exact List.getElem?_eq_getElem h2)
      | _ => exact deq_sc ok h h' r r' (by omega) fun ds ds' => ⟨fun e => (by cases e.2), fun e => (by cases e.1)⟩
    | lst ds =>
      cases d' with
      | lst ds' =>
        obtain ⟨l, vs, rfl, e, hs⟩ := h
        obtain ⟨l', vs', rfl, e', hs'⟩ := h'
        cases r
        cases r'
        obtain ⟨its, rv, hl⟩ := DAts.lst_of ok e
        obtain ⟨its', rv', hl'⟩ := DAts.lst_of ok e'
        simp only [deq]
        exact EqAt.of_refs (fun z => hvv (by rw [z])) (rc_lists ok ih hs hs' rv rv' hl hl' f.2 hu)
      | _ => exact deq_sc ok h h' r r' (by omega) fun ds ds' => ⟨fun e => (by cases e.1), fun e => (by cases e.2)⟩
    | _ => exact deq_sc ok h h' r r' (by omega) fun ds ds' => ⟨fun e => (by cases e.1), fun e => (by cases e.1)⟩
end
section
variable {X : Cx}
end
end L2
set_option Elab.async false
set_option linter.all false
set_option maxRecDepth 100000
namespace L2
open PySem PySem.Spec PyProof.Rows PySem.SeqAt
section
variable {X : Cx}
theorem Inv.drawn {pins : List (Addr × Obj)} {σ : St} {H : Hp} {s : Shared} (I : Inv X pins σ H s) (d : _) : Inv X pins σ H { s with drawn := d } := ⟨I.ok, I.os, I.bare, I.base, I.loc, I.cell, I.free, I.freeC, I.pin, I.hok, I.len⟩
end
end L2
set_option Elab.async false
set_option linter.all false
set_option maxRecDepth 100000
namespace L2
open PySem PySem.Spec PyProof.Rows
theorem cx_P {CX : CXT} {P : Program} {w : World} {K : PySem.W.Frag} {mg : Str → Option Value} {base : Heap} {N : List Str} {qual : Str} {scope : Scope} {f : Addr} {cd : Value} {A : Around} {outer : List Env} {s : Shared} {H : Hp} {E : XK} : (cxOf CX P w K mg base N qual scope f cd A outer s H E).prog = P := rfl
end L2
set_option Elab.async false
set_option linter.all false
set_option maxRecDepth 100000
namespace L2
open PySem PySem.Spec PyProof.Rows PySem.SeqAt
section
variable {P : Program} {w : World} {H : Hp} {s : Shared}
end
section
variable {X : Cx}
def rInG (neg : Bool) : R2 := fun x y H Q => ∃ n d ds, DAt H d x ∧ (DAt H (.lst ds) y ∨ DAt H (.tup ds) y) ∧ (∀ e ∈ ds, DFit n e) ∧ n ≤ 60 ∧ Q (.bl (neg ^^ ds.any fun e => deq e d)) H
open Classical in
theorem in_any {H : Hp} {its : List Value} {vs : List V} {ds : List Dt} {d : Dt} (hs : DAts H ds vs) (rv : Vals vs its) (e : Value → Bool) (he : ∀ y, e y = decide (∃ d' v', DAt H d' v' ∧ RelV v' y ∧ deq d' d = true)) : its.toArray.any e = ds.any fun e => deq e d := by
  rw [List.any_toArray]
  induction ds generalizing vs its with
  | nil =>
    have hs : vs = [] := hs
    subst hs
    cases rv
    rfl
  | cons d0 ds ih =>
    obtain ⟨v, r, rfl, e1, e2⟩ := hs
    cases rv with
    | cons rr rt =>
      rename_i u us
      rw [List.any_cons, List.any_cons, ih e2 rt, he]
      congr 1
      rw [Bool.eq_iff_iff, decide_eq_true_eq]
      constructor
      · rintro ⟨d', v', q1, q2, q3⟩
        have := RelV.inj q2 rr
        subst this
        rw [DAt.one_of e1 q1]
        exact q3
      · intro q
        exact ⟨d0, v, e1, rr, q⟩
open Classical in
theorem in_eq {P : Program} {w : World} {H : Hp} {s : Shared} {A : Around} (ok : HOk P w H s.heap) {its : List Value} {vs : List V} {ds : List Dt} {d : Dt} {x : V} {u : Value} {n : Nat} (hs : DAts H ds vs) (rv : Vals vs its) (hx : DAt H d x) (ru : RelV x u) (f : ∀ e ∈ ds, DFit n e) (hu : A.units + (n + 1) < cLine)
    (y : Value) (hy : y ∈ its.toArray) : EqAt A.in1 s y u (decide (∃ d' v', DAt H d' v' ∧ RelV v' y ∧ deq d' d = true)) := by
  obtain ⟨j, hj, e⟩ := List.getElem_of_mem (show y ∈ its by simpa using hy)
  have k1 := hs.length
  have k2 := rv.length
  have hjd : j < ds.length := by omega
  obtain ⟨v, v1, v2⟩ := hs.get (List.getElem?_eq_getElem hjd)
  have rr : RelV v y := vals_at rv v1 (by rw [List.getElem?_eq_getElem hj, e])
  have : decide (∃ d' v', DAt H d' v' ∧ RelV v' y ∧ deq d' d = true) = deq ds[j] d := by
    rw [Bool.eq_iff_iff, decide_eq_true_eq]
    constructor
    · rintro ⟨d', v', q1, q2, q3⟩
      have := RelV.inj q2 rr
      subst this
      rw [DAt.one_of v2 q1]
      exact q3
    · intro q
      exact ⟨_, v, v2, rr, q⟩
  rw [this]
  exact deq_at ok n v2 hx rr ru (f _ (List.getElem_mem hjd)) (by show A.units + 1 + n < cLine; omega)
theorem op_notInG (hu : X.A.units + 64 < cLine) : OpR X (compareOp .NotIn) (rInG true) := by
  intro pins s σ H x y v u Q I rx ry h
  obtain ⟨n, d, ds, hx, hy, f, hn, q⟩ := h
  rw [Bool.true_xor] at q
  rcases hy with ⟨l, vs, rfl, e, hs⟩ | ⟨l, vs, rfl, e, hs⟩
  · cases ry
    obtain ⟨its, rv, hl⟩ := DAts.lst_of I.hok e
    refine notIn_listAt _ hl (in_eq I.hok hs rv hx rx f (by omega)) (fin_bl I q ?_)
    rw [in_any hs rv _ fun _ => rfl]
  · cases ry
    obtain ⟨its, rv, hl⟩ := DAts.tup_of I.hok e
    refine notIn_tupleAt _ hl (in_eq I.hok hs rv hx rx f (by omega)) (fin_bl I q ?_)
    rw [in_any hs rv _ fun _ => rfl]
end
end L2
set_option Elab.async false
set_option linter.all false
set_option maxRecDepth 100000
namespace L2
open PySem PySem.Spec PyProof.Rows PySem.SeqAt
section
variable {prog : Program} {w : World} {A : Around} {E : Value → Shared → Prop} {s : Shared}
structure Apt (z TI TO i1 i2 l1 l2 : Addr) : Prop where
  nd : [z, TI, TO, i1, i2].Nodup
  a1 : l1 ≠ z ∧ l1 ≠ TO ∧ l1 ≠ i1 ∧ l1 ≠ i2
  a2 : l2 ≠ z ∧ l2 ≠ TO ∧ l2 ≠ i1 ∧ l2 ≠ i2
theorem Apt.ne {z TI TO i1 i2 l1 l2 : Addr} (d : Apt z TI TO i1 i2 l1 l2) : (z ≠ TI ∧ z ≠ TO ∧ z ≠ i1 ∧ z ≠ i2) ∧ (TI ≠ TO ∧ TI ≠ i1 ∧ TI ≠ i2) ∧ (TO ≠ i1 ∧ TO ≠ i2) ∧ i1 ≠ i2 := by
  have := d.nd
  simp only [List.nodup_cons, List.mem_cons, List.not_mem_nil, or_false, not_or] at this
  exact ⟨this.1, this.2.1, this.2.2.1, this.2.2.2.1⟩
end
section
variable {X : Cx} {pins : List (Addr × Obj)} {σ : St} {H : Hp} {s : Shared} {h' : Heap}
theorem Inv.turnedL {t' : Nat} {ch : List Addr} (I : Inv X pins σ H s) (k : ∀ b o, b ∉ ch → s.heap.get? b = some o → h'.get? b = some o) (hf : ∀ b ∈ ch, FpOk X pins H b) : Inv X pins σ H { s with heap := h', toks := t' } := by
  have nit : ∀ b u, H b = some u → b ∉ ch := fun b u e z => by rw [(hf b z).1] at e; cases e
  have hL : X.env.locals ∉ ch := fun z => (hf _ z).2.1 rfl
  refine I.step (g' := s.gens) (d' := s.drawn) (ch := ch) (fun b hb => ?_) (fun b o _ _ hc e _ => k b o hc e) (fun b o _ _ hc e _ => ⟨o.slots, k b o hc e⟩) (fun _ _ _ _ n => n) (fun b o hc e => ⟨o, k b o hc e⟩) (fun _ _ e => e) (fun _ _ _ e => e) (fun b ps e => ⟨#[], by rw [e]; simp⟩) (fun m hm => ?_) (fun b u e => ?_) I.bare
  · obtain ⟨f0, f1, f2, f3, f4, f5⟩ := hf b hb
    exact ⟨f3, f1, f4, f5⟩
  · obtain ⟨o, es, ep, ho, r⟩ := hm
    exact ⟨o, es, ep, k _ o hL ho, r⟩
  · refine (I.hok b u e).stay (fun c v hc q => k c v ?_ q) (fun _ q => q) fun _ _ q => q
    rcases hc with z | z
    · rw [z]; exact nit b u e
    · exact nit c _ z
theorem Inv.turnedN {t' : Nat} {ch : List Addr} {p : Addr} {o : HO} (I : Inv X pins σ H s) (k : ∀ b o, b ∉ ch → s.heap.get? b = some o → h'.get? b = some o) (hf : ∀ b ∈ ch, FpOk X pins H b) (hp : s.heap.objs.size ≤ p) (new : ObjOk X.prog X.w (upd H p o) h' p o) :
    Inv X pins σ (upd H p o) { s with heap := h', toks := t' } := by
  have nit : ∀ b u, H b = some u → b ∉ ch := fun b u e z => by rw [(hf b z).1] at e; cases e
  have hL : X.env.locals ∉ ch := fun z => (hf _ z).2.1 rfl
  have hn := I.hok.fresh hp
  have nep : ∀ {b : Addr} {u : HO}, H b = some u → b ≠ p := fun e z => by rw [z, hn] at e; cases e
  refine I.step (g' := s.gens) (d' := s.drawn) (ch := ch) (fun b hb => ?_) (fun b o _ _ hc e _ => k b o hc e) (fun b o _ _ hc e _ => ⟨o.slots, k b o hc e⟩) (fun b u _ e n => ?_) (fun b o hc e => ⟨o, k b o hc e⟩) (fun _ _ e => by rw [upd_ne (nep e)]; exact e) (fun _ _ _ e => by rw [upd_ne (nep e)]; exact e) (fun b ps e => ⟨#[], by rw [upd_ne (nep e), e]; simp⟩) (fun m hm => ?_) (fun b u e => ?_) I.bare
  · obtain ⟨f0, f1, f2, f3, f4, f5⟩ := hf b hb
    exact ⟨f3, f1, f4, f5⟩
  · rw [upd_ne (Nat.ne_of_lt (Nat.lt_of_lt_of_le (Heap.lt_size e) hp))]
    exact n
  · obtain ⟨o, es, ep, ho, r⟩ := hm
    exact ⟨o, es, ep, k _ o hL ho, r⟩
  · by_cases hb : b = p
    · subst hb
      rw [upd_same] at e
      cases e
      exact new
    · rw [upd_ne hb] at e
      refine (I.hok b u e).stay (fun c v hc q => k c v ?_ q) (fun c q => by rw [upd_ne (nep q)]; exact q) fun c _ q => by rw [upd_ne (nep q)]; exact q
      rcases hc with z | z
      · rw [z]; exact nit b u e
      · exact nit c _ z
end
section
variable {X : Cx}
end
end L2
set_option Elab.async false
set_option linter.all false
set_option maxRecDepth 100000
namespace L2
open PySem PySem.Spec PyProof.Rows PySem.SeqAt
def entI (w : World) : List DictEntry → List (Str × Int) → Prop
  | [], r => r = []
  | e :: es, r => ∃ x y t u r', r = (x, y) :: r' ∧ e.hash = hashStr w x ∧ e.key = .str x t ∧ e.val = .int y u ∧ entI w es r'
theorem entI.all {w : World} {P : Program} : ∀ {es : List DictEntry} {r : List (Str × Int)}, entI w es r → (∀ e ∈ es, ∃ k, (mixKind P w).is k e.key = true ∧ e.hash = (mixKind P w).hash k) ∧
    ∃ vs : List (Key × Value), KV (r.map fun p => ((.inr p.1 : Key), V.int p.2)) vs ∧ Pairs (mixKind P w) es vs ∧ vs.map (·.1) = r.map fun p => (.inr p.1 : Key)
  | [], r, h => by
    have h : r = [] := h
    subst h
    exact ⟨fun e he => (nomatch he), [], .nil, .nil, rfl⟩
  | e :: es, r, h => by
    obtain ⟨x, y, t, u, r', rfl, h1, h2, h3, h4⟩ := h
    obtain ⟨g, vs, a, b, c⟩ := entI.all (P := P) h4
    refine ⟨fun e' he => ?_, (.inr x, .int y u) :: vs, .cons ⟨rfl, u, rfl⟩ a, .cons (by rw [h2]; exact mixKind_str P w x t) h3 b, ?_⟩
    · rcases List.mem_cons.mp he with rfl | he
      · exact ⟨.inr x, by rw [h2]; exact mixKind_str P w x t, h1⟩
      · exact g e' he
    · rw [List.map_cons, List.map_cons, c]
theorem lc_rangeIf {lo : Int} {n : Nat} {ns : List Str} {js : List Nat} {g : TG} {tc : TT} {te : TE} {σ : St} {H : Hp} {Q : VK} (Pv : Nat → List V → St → Hp → Prop) (h0 : Pv 0 [] (lcSt ns js σ) H) (hz : n ≤ sizeLine) (hl : ∀ i ys σ H, Pv i ys σ H → ys.length ≤ i)
    (hs : ∀ (i : Nat) ys σ H (C : V → St → Hp → Prop) (D : St → Hp → Prop), i < n → Pv i ys σ H → (∀ y σ2 H3, Pv (i + 1) (ys ++ [y]) σ2 H3 → C y σ2 H3) → (∀ σ2 H3, Pv (i + 1) ys σ2 H3 → D σ2 H3) →
      g (.int (lo + i)) σ H fun σ2 H2 => tc σ2 H2 fun b H3 => if b = true then te σ2 H3 fun y H4 => C y σ2 H4 else D σ2 H3)
    (hd : ∀ ys σ H, Pv n ys σ H → ∀ p, H p = none → Q (.ref p) (upd H p (.lst ys))) :
    LcW (Itr lo n) ns js g (some tc) te σ H Q := by
  refine ⟨fun i m ys σ H => m = n - i ∧ i ≤ n ∧ Pv i ys σ H, ⟨n, by omega, Nat.zero_le _, h0⟩, fun i m ys σ1 H1 ⟨hm, hi, hp⟩ => ?_⟩
  by_cases h : i < n
  · refine .inr ⟨h, ?_, fun x H' ⟨e, hx⟩ => ?_⟩
    · have := hl i ys σ1 H1 hp
      omega
    · subst e
      subst hx
      exact hs i ys σ1 _ _ _ h hp (fun y σ2 H3 q => ⟨n - (i + 1), by omega, rfl, by omega, q⟩) fun σ2 H3 q => ⟨n - (i + 1), by omega, rfl, by omega, q⟩
  · have e : i = n := by omega
    subst e
    exact .inl ⟨Nat.le_refl _, hd ys σ1 H1 hp⟩
end L2
set_option Elab.async false
set_option linter.all false
set_option maxRecDepth 100000
namespace L2
open PySem PySem.Spec PyProof.Rows PySem.SeqAt
inductive Rw where
  | no | nm (x : Str) | bo (i j : Int)
def dRw : Rw → Dt
  | .no => .tup [.str "none"]
  | .nm x => .tup [.str "name", .str x]
  | .bo i j => .tup [.str "both", .int i, .int j]
abbrev Pr := Int × Int
def dPr (p : Pr) : Dt := .tup [.int p.1, .int p.2]
abbrev NRul := List Pr × Pr
def dNR (r : NRul) : Dt := .tup [.lst (r.1.map dPr), dPr r.2]
inductive Wt where
  | n (i : Int) | ps (l : List Int)
def dWt : Wt → Dt
  | .n i => .int i
  | .ps l => .tup (l.map .int)
structure Ln where
  i : Int
  j : Int
  w : Str
  as : List Wt
def dWhy (w : Str) (as : List Wt) : Dt := .tup (.str w :: as.map dWt)
def dLn (l : Ln) : Dt := .tup [.int l.i, .int l.j, dWhy l.w l.as]
def belW (b : Int) : Wt → Bool
  | .n i => decide (0 ≤ i) && decide (i < b)
  | .ps _ => false
def parts (rows : List Rw) (n : Int) : List Int := if n % 2 = 0 then (match rows[(n / 2).toNat]? with | some (.bo i j) => [i, j] | _ => []) else []
def said (ls : List Ln) (k : Nat) : Wt → Option Pr
  | .n i => if 0 ≤ i ∧ i < k then (ls[i.toNat]?).map fun l => (l.i, l.j) else none
  | .ps _ => none
def tn1 (n : Int) : Int := n + 1 - 2 * (n % 2)
def named (w : Str) : Option Int :=
  if w = "same" then some 0 else if w = "edge" then some 0 else if w = "part" then some 0 else if w = "both" then some 2 else if w = "turn" then some 1 else if w = "chain" then some 2 else if w = "clash" then some 1 else none
def stepFrom (rows : List Rw) (i j : Int) (w : Str) (sd : List Pr) : Bool :=
  if w = "same" then i == j
  else if w = "edge" then i == 0 || j == 1
  else if w = "part" then (parts rows i).any fun x => x == j
  else if w = "both" then (match parts rows j with | [a, b] => sd == [(i, a), (i, b)] | _ => false)
  else if w = "turn" then sd == [(tn1 j, tn1 i)]
  else if w = "chain" then (match sd with | [p, q] => p.1 == i && p.2 == q.1 && q.2 == j | _ => false)
  else sd == [(i, tn1 i)]
def ruleStep (rules : List NRul) (ls : List Ln) (k : Nat) (l : Ln) : Bool :=
  match l.as with
  | [.n r, .ps ps] => if 0 ≤ r ∧ r < rules.length then (match rules[r.toNat]? with | some q => (l.i, l.j) == q.2 && (ps.map fun p => said ls k (.n p)) == q.1.map some | none => false) else false
  | _ => false
def stepB (rows : List Rw) (rules : List NRul) (ls : List Ln) (k : Nat) (l : Ln) : Bool :=
  if ¬ (0 ≤ l.i ∧ l.i < 2 * rows.length) ∨ ¬ (0 ≤ l.j ∧ l.j < 2 * rows.length) then false
  else if l.w = "rule" then ruleStep rules ls k l
  else if named l.w = some (l.as.length : Int) ∧ (l.as.all fun a => (said ls k a).isSome) = true then stepFrom rows l.i l.j l.w (l.as.filterMap (said ls k))
  else false
theorem xor1 (n : Int) : Builtin.bitXor n 1 = tn1 n := by
  rw [bitXor_and]
  unfold tn1
  rw [bitAnd_m1]
end L2
set_option Elab.async false
set_option linter.all false
set_option maxRecDepth 100000
namespace L2
open PySem PySem.Spec PyProof.Rows PySem.SeqAt
section
variable {prog : Program} {w : World} {A : Around} {E : Value → Shared → Prop} {s : Shared}
end
section
variable {X : Cx}
end
end L2
set_option Elab.async false
set_option linter.all false
set_option maxRecDepth 100000
namespace L2
open PySem PySem.Spec PyProof.Rows PySem.SeqAt
section
variable {X : Cx}
end
end L2
set_option Elab.async false
set_option linter.all false
set_option maxRecDepth 100000
namespace L2
open PySem
def Ris (xs : Array Nat) : Prop := xs.toList.Pairwise (· < ·)
theorem Ris.mono {xs : Array Nat} (h : Ris xs) : ∀ a b, a < b → b < xs.size → xs.getD a 0 < xs.getD b 0 := by
  intro a b hab hb
  have := List.pairwise_iff_getElem.mp h a b (by rw [Array.length_toList]; omega) (by rw [Array.length_toList]; exact hb) hab
  simpa [Array.getD, hb, Nat.lt_trans hab hb] using this
def FlN (t : SetTable) : Prop := t.plain = false ∨ Ris t.place
end L2
set_option Elab.async false
set_option linter.all false
set_option maxRecDepth 100000
namespace L2
open PySem PyProof.Rows
def nuv : Value → Option Int
  | .int z _ => some z
  | _ => none
def nus (l : List (Int × Value)) : List Int := l.filterMap fun e => nuv e.2
section
variable {prog : Program} {w : World} {A : Around} {E : Value → Shared → Prop} {s : Shared}
def NuSet (prog : Program) (w : World) (h : Heap) (a : Addr) (zs : List Int) : Prop :=
  ∃ o es ep t, h.get? a = some o ∧ o.ExactSet ∧ o.data = .set es ep t ∧ ElemsOf (intKind prog w) es.toList ∧ zs = nus es.toList ∧ zs.Nodup ∧ es.size < scanBound ∧ t.fits es.size = true ∧
    (byTx w = true ∨ t.led = true ∧ FlN t)
theorem NuSet.kept {h h' : Heap} {a : Addr} {zs : List Int} (hS : NuSet prog w h a zs) (k : ∀ o, h.get? a = some o → h'.get? a = some o) : NuSet prog w h' a zs := by
  obtain ⟨o, es, ep, t, ho, r⟩ := hS
  exact ⟨o, es, ep, t, k _ ho, r⟩
end
section
variable {prog : Program} {w : World} {A : Around} {R : Result → Shared → Prop} {I : Addr} {fp wr : List Addr} {G : Array GenState → Array GenState → Prop} {n : Nat} {P : Nat → Value → Prop} {St : Nat → Shared → Prop}
end
section
variable {prog : Program} {w : World} {A : Around} {E : Value → Shared → Prop} {s : Shared}
end
end L2
set_option Elab.async false
set_option linter.all false
set_option maxRecDepth 100000
namespace L2
open PySem PySem.Spec PyProof.Rows PySem.SeqAt PySem.W
section
variable {prog : Program} {w : World} {A : Around} {E : Value → Shared → Prop} {s : Shared} {T : String} {r d : Addr} {n : Nat} {P : Nat → Value → Prop} {OK : Heap → Prop}
end
section
variable {X : Cx}
end
theorem lc_listIf {K : PySem.W.Frag} {a : Addr} {xs : List V} {ns : List Str} {js : List Nat} {g : TG} {tc : TT} {te : TE} {σ : St} {H : Hp} {Q : VK} (Pv : Nat → List V → St → Hp → Prop) (h0 : Pv 0 [] (lcSt ns js σ) H) (hz : xs.length ≤ sizeLine) (hl : ∀ i ys σ H, Pv i ys σ H → ys.length ≤ i)
    (hK : ∀ i ys σ H, Pv i ys σ H → SqL K H a xs)
    (hs : ∀ (i : Nat) x ys σ H (C : V → St → Hp → Prop) (D : St → Hp → Prop), xs[i]? = some x → Pv i ys σ H → (∀ y σ2 H3, Pv (i + 1) (ys ++ [y]) σ2 H3 → C y σ2 H3) → (∀ σ2 H3, Pv (i + 1) ys σ2 H3 → D σ2 H3) →
      g x σ H fun σ2 H2 => tc σ2 H2 fun b H3 => if b = true then te σ2 H3 fun y H4 => C y σ2 H4 else D σ2 H3)
    (hd : ∀ ys σ H, Pv xs.length ys σ H → ∀ p, H p = none → Q (.ref p) (upd H p (.lst ys))) :
    LcW (Itl K a) ns js g (some tc) te σ H Q := by
  refine ⟨fun i m ys σ H => m = xs.length - i ∧ i ≤ xs.length ∧ Pv i ys σ H, ⟨xs.length, by omega, Nat.zero_le _, h0⟩, fun i m ys σ1 H1 ⟨hm, hi, hp⟩ => ?_⟩
  by_cases h : i < xs.length
  · refine .inr ⟨⟨xs, xs[i], hK i ys σ1 H1 hp, List.getElem?_eq_getElem h⟩, ?_, fun x H' ⟨e, hx⟩ => ?_⟩
    · have := hl i ys σ1 H1 hp
      omega
    · subst e
      exact hs i x ys σ1 _ _ _ (hx xs (hK i ys σ1 _ hp)) hp (fun y σ2 H3 q => ⟨xs.length - (i + 1), by omega, rfl, by omega, q⟩) fun σ2 H3 q => ⟨xs.length - (i + 1), by omega, rfl, by omega, q⟩
  · have e : i = xs.length := by omega
    subst e
    exact .inl ⟨⟨xs, hK _ ys σ1 H1 hp, Nat.le_refl _⟩, hd ys σ1 H1 hp⟩
end L2
set_option Elab.async false
set_option linter.all false
set_option maxRecDepth 100000
namespace L2
open PySem PySem.Spec PyProof.Rows PySem.SeqAt
def Ite (a : Addr) : It :=
  ⟨fun i H => ∃ xs x, H a = some (.lst xs) ∧ xs[i]? = some x,
   fun i H v H' => ∃ p x, v = .ref p ∧ H p = none ∧ H' = upd H p (.tup [.int i, x]) ∧ ∀ xs, H a = some (.lst xs) → xs[i]? = some x,
   fun i H => ∃ xs, H a = some (.lst xs) ∧ xs.length ≤ i⟩
def Eat (e it l : Addr) (i : Nat) (h : Heap) : Prop := (∃ old, IsEnum h e it i old) ∧ h.IsListIter it l i
theorem turn_enum {P : Program} {w : World} {K : PySem.W.Frag} {elts : List Expr} {cx : _} {tp : Pos} (e it l : Addr) (ne : e ≠ it) :
    Turn P w K (.Tuple elts cx tp) (Ite l) [e, it] e (Eat e it l) where
  mem := by simp
  obj := fun i h st b hb => by
    obtain ⟨⟨old, ge⟩, ⟨o2, r2, _, d2⟩⟩ := st
    simp only [List.mem_cons, List.not_mem_nil, or_false] at hb
    rcases hb with rfl | rfl
    · exact ⟨_, ge, fun v e => by cases e⟩
    · exact ⟨_, r2, fun v e => by rw [d2] at e; cases e⟩
  keep := fun i h h' st k => by
    obtain ⟨⟨old, ge⟩, ⟨o2, r2, q2⟩⟩ := st
    exact ⟨⟨old, k _ (by simp) _ ge⟩, ⟨o2, k _ (by simp) _ r2, q2⟩⟩
  item := by
    intro X hP hw hK hc i pins s σ H E I hf st hg
    subst hP hw hK
    obtain ⟨xs, x, ha, hx⟩ := hg
    obtain ⟨its, rv, t1⟩ := DAts.lst_of I.hok ha
    obtain ⟨u, hu, ru⟩ := rv.get hx
    obtain ⟨⟨old, ge⟩, r1⟩ := st
    refine wpAny_pyNext_enum_item ge r1 t1 (by simpa using hu) ne fun h1 b1 b2 b3 b4 b5 => ?_
    refine ⟨_, rfl, wpAny_letOwnedTupleGo_enum (s := { s with heap := h1, toks := s.toks + 1 }) b1 fun h2 g2 s2 => ?_⟩
    have be : e < s.heap.objs.size := Heap.lt_size ge
    have bi : it < s.heap.objs.size := by obtain ⟨_, z, _⟩ := r1; exact Heap.lt_size z
    have keep2 : ∀ b o, b ∉ [e, it] → s.heap.get? b = some o → h2.get? b = some o := fun b o hb q => by
      simp only [List.mem_cons, List.not_mem_nil, or_false, not_or] at hb
      exact s2.extBut b o hb.1 (b5 b o hb.1 hb.2 q)
    have hfr : H s.heap.objs.size = none := I.hok.fresh (Nat.le_refl _)
    have gT := s2.extBut _ _ (Nat.ne_of_gt be) b3
    refine ⟨.ref s.heap.objs.size, _, I.turnedN (t' := s.toks + 1) (p := s.heap.objs.size) (o := .tup [.int i, x]) keep2 hf (Nat.le_refl _) ⟨small (by simp), [.int i s.toks, u], .cons ⟨_, rfl⟩ (.cons ru .nil), ⟨_, gT, rfl, _, rfl⟩⟩, rfl, ⟨_, x, rfl, hfr, rfl, fun xs' e1 => ?_⟩, ?_, fun b hb => ?_⟩
    · rw [ha] at e1
      cases e1
      exact hx
    · obtain ⟨o2, b21, b22⟩ := b2
      exact ⟨⟨_, g2⟩, ⟨o2, s2.extBut _ _ (Ne.symm ne) b21, b22⟩⟩
    · have hb2 : b < s.heap.objs.size := by
        simp only [List.mem_cons, List.not_mem_nil, or_false] at hb
        rcases hb with rfl | rfl
        · exact be
        · exact bi
      rw [upd_ne (Nat.ne_of_lt hb2)]
      exact (hf b hb).1
  done := by
    intro X hP hw hK hc i pins s σ H E I hf st hg
    subst hP hw hK
    obtain ⟨xs, ha, hl⟩ := hg
    obtain ⟨its, rv, t1⟩ := DAts.lst_of I.hok ha
    have k1 := rv.length
    obtain ⟨⟨old, ge⟩, r1⟩ := st
    refine wpAny_pyNext_enum_end (I.ok.hd hc) ge r1 t1 (by simp; omega) fun h1 kk => ⟨rfl, ?_⟩
    refine I.turnedL (ch := [it]) (t' := s.toks) (fun b o hb q => ?_) (fun b hb => hf b (by simp only [List.mem_cons, List.not_mem_nil, or_false] at hb ⊢; exact .inr hb))
    simp only [List.mem_cons, List.not_mem_nil, or_false] at hb
    exact kk b o hb q
  self := fun _ _ _ _ _ st h => by
    obtain ⟨⟨old, ge⟩, _⟩ := st
    exact wpAny_pyIter_enum ge h
section
variable {X : Cx}
def iEnum (ta : TA) : TI := fun σ H R => ta σ H fun vs H1 => ∃ a xs, vs = [.ref a] ∧ H1 a = some (.lst xs) ∧ R (Ite a) H1
theorem pi_enum {elts : List Expr} {cx : _} {tp : Pos} {a : Expr} {ta : TA} {p pos : Pos} (hg : Gl X "enumerate") (hm : X.mg "enumerate" = none) (ha : PA X [a] ta) (hs : starEach [a] X.env = [(false, eval a X.env)] := by rfl) :
    PI X (.Tuple elts cx tp) (.Call (.Name "enumerate" p) [a] [] pos) (iEnum ta) := by
  intro pins s σ H R I h
  refine Call_ (ld_blt I hg hm boot_enumerate (PyProof.Rows.callWith_type1 (thn (ha pos pins s σ H _ I h) fun us s1 ⟨vs, H1, I1, r1, q1⟩ => ?_) (by rw [hs]; rfl) (by rfl)))
  obtain ⟨l1, xs, e, h1, q⟩ := q1
  subst e
  cases r1 with
  | cons r rr =>
    cases rr
    cases r
    obtain ⟨its1, rv1, t1⟩ := DAts.lst_of I1.hok h1
    refine call_enumerate_list t1 fun h' gz g1 _ kk => ?_
    refine wpAny_pyIter_enum (s := { s1 with heap := h' }) gz ?_
    have fr : ∀ b, s1.heap.objs.size ≤ b → FpOk X pins H1 b := fun b hb => I1.fpOk hb (I1.hok.fresh hb)
    refine ⟨_, [s1.heap.objs.size + 1, s1.heap.objs.size], _, _, H1, rfl, I1.kept (t' := s1.toks) kk, turn_enum _ _ l1 (Nat.succ_ne_self _), ⟨⟨_, gz⟩, g1⟩, fun b hb => ?_, q⟩
    simp only [List.mem_cons, List.not_mem_nil, or_false] at hb
    rcases hb with rfl | rfl <;> exact fr _ (by omega)
end
theorem fw_enum {a : Addr} {xs : List V} {g : TG} {tb : TS} {D : Ends} {σ : St} {H : Hp} (Pv : Nat → St → Hp → Prop) (h0 : Pv 0 σ H) (hl : ∀ i σ H, Pv i σ H → H a = some (.lst xs))
    (hs : ∀ (i : Nat) x σ H p, xs[i]? = some x → Pv i σ H → H p = none → g (.ref p) σ (upd H p (.tup [.int i, x])) fun σ2 H2 => tb { D with nx := Pv (i + 1), ct := Pv (i + 1), bk := D.nx } σ2 H2)
    (hd : ∀ σ H, Pv xs.length σ H → D.nx σ H) : ForW (Ite a) g tb D σ H := by
  refine ⟨fun i m σ H => m = xs.length - i ∧ i ≤ xs.length ∧ Pv i σ H, ⟨_, by rfl, Nat.zero_le _, h0⟩, fun i m σ1 H1 ⟨hm, hi, hp⟩ => ?_⟩
  have k1 := hl i σ1 H1 hp
  by_cases h : i < xs.length
  · refine .inr ⟨⟨xs, _, k1, List.getElem?_eq_getElem h⟩, Pv (i + 1), fun σ' H' q => ⟨_, ?_, rfl, by omega, q⟩, fun v H' ⟨p, x, e1, e2, e3, e4⟩ => ?_⟩
    · omega
    · subst e1
      subst e3
      exact hs i x σ1 H1 p (e4 xs k1) hp e2
  · have e : i = xs.length := by omega
    subst e
    exact .inl ⟨⟨xs, k1, Nat.le_refl _⟩, hd σ1 H1 hp⟩
section
variable {X : Cx} {tg : Expr}
end
theorem pg_tupK {X : Cx} {K : PySem.W.Frag} {es : List Expr} {k : Nat} {t : TGs} {n : Nat} {pos : Pos} (hc : X.calm = true) (h : PGs X es t) (hK : X.K = K := by rfl)
    (hn : (assignEach es X.env).length = n := by rfl) (hst : (assignEach es X.env).findIdx? (·.1) = none := by rfl) : PG X (.Tuple es k pos) (gTup K n t) := by
  subst hK
  exact pg_tup hc h hn hst
end L2
set_option Elab.async false
set_option linter.all false
namespace L2
theorem odd_part : ∀ n : Nat, 0 < n → ∃ t m, n = 2 ^ t * (2 * m + 1) := by
  intro n
  induction n using Nat.strongRecOn with
  | _ n ih =>
    intro h
    by_cases ho : n % 2 = 1
    · exact ⟨0, n / 2, by omega⟩
    · obtain ⟨t, m, e⟩ := ih (n / 2) (by omega) (by omega)
      refine ⟨t + 1, m, ?_⟩
      rw [Nat.pow_succ, Nat.mul_assoc, Nat.mul_left_comm, ← e]
      omega
theorem low_bits {n : Nat} (h : 0 < n) : ∃ t, n.testBit t = true ∧ (∀ i, i < t → n.testBit i = false) ∧ n - (n &&& (n - 1)) = 2 ^ t ∧ ∀ i, (n &&& (n - 1)).testBit i = (n.testBit i && decide (i ≠ t)) := by
  obtain ⟨t, m, e⟩ := odd_part n h
  have e1 : n = 2 ^ t * (2 * m + 1) + 0 := by omega
  have hp : 0 < 2 ^ t := Nat.two_pow_pos t
  have e2 : n - 1 = 2 ^ t * (2 * m) + (2 ^ t - 1) := by
    rw [e, Nat.mul_add, Nat.mul_one]
    omega
  have b1 : ∀ i, n.testBit i = if i < t then false else (2 * m + 1).testBit (i - t) := fun i => by
    rw [e, Nat.testBit_two_pow_mul]
    by_cases hi : i < t
    · rw [if_pos hi, decide_eq_false (by omega), Bool.false_and]
    · rw [if_neg hi, decide_eq_true (by omega), Bool.true_and]
  have b2 : ∀ i, (n - 1).testBit i = if i < t then true else (2 * m).testBit (i - t) := fun i => by
    rw [e2, Nat.testBit_two_pow_mul_add _ (by omega)]
    by_cases hi : i < t
    · rw [if_pos hi, if_pos hi, Nat.testBit_two_pow_sub_one, decide_eq_true hi]
    · rw [if_neg hi, if_neg hi]
  have ev : ∀ j, (2 * m).testBit j = ((2 * m + 1).testBit j && decide (j ≠ 0)) := fun j => by
    cases j with
    | zero => simp
    | succ j =>
      rw [Nat.testBit_succ, Nat.testBit_succ]
      have : (2 * m + 1) / 2 = 2 * m / 2 := by omega
      rw [this]
      simp
  have b3 : ∀ i, (n &&& (n - 1)).testBit i = (n.testBit i && decide (i ≠ t)) := fun i => by
    rw [Nat.testBit_and, b1, b2]
    by_cases hi : i < t
    · rw [if_pos hi, Bool.false_and, Bool.false_and]
    · rw [if_neg hi, if_neg hi, ev]
      have : decide (i - t ≠ 0) = decide (i ≠ t) := by
        rw [decide_eq_decide]
        omega
      rw [this]
      cases (2 * m + 1).testBit (i - t) <;> simp
  have e3 : n &&& (n - 1) = 2 ^ t * (2 * m) := by
    apply Nat.eq_of_testBit_eq
    intro i
    rw [b3, b1, Nat.testBit_two_pow_mul]
    by_cases hi : i < t
    · rw [if_pos hi, show decide (i ≥ t) = false from decide_eq_false (by omega), Bool.false_and, Bool.false_and]
    · rw [if_neg hi, show decide (i ≥ t) = true from decide_eq_true (by omega), Bool.true_and, ev]
      have : decide (i - t ≠ 0) = decide (i ≠ t) := by
        rw [decide_eq_decide]
        omega
      rw [this]
  refine ⟨t, ?_, fun i hi => ?_, ?_, b3⟩
  · rw [b1, if_neg (by omega), Nat.sub_self]
    simp
  · rw [b1, if_pos hi]
  · rw [e3, e, Nat.mul_add, Nat.mul_one]
    omega
def Bits (n : Nat) (xs : List Nat) : Prop := xs.Pairwise (· < ·) ∧ ∀ i, n.testBit i = decide (i ∈ xs)
theorem Bits.zero : Bits 0 [] := ⟨List.Pairwise.nil, fun i => by simp⟩
theorem Bits.nil {n : Nat} (h : Bits n []) : n = 0 := Nat.eq_of_testBit_eq fun i => by rw [h.2]; simp
theorem Bits.cons {n x : Nat} {xs : List Nat} (h : Bits n (x :: xs)) : 0 < n ∧ n - (n &&& (n - 1)) = 2 ^ x ∧ Bits (n &&& (n - 1)) xs := by
  have hx : n.testBit x = true := by rw [h.2]; simp
  have hn : 0 < n := Nat.pos_of_ne_zero fun z => by rw [z] at hx; simp at hx
  obtain ⟨t, t1, t2, t3, t4⟩ := low_bits hn
  have hp := List.pairwise_cons.mp h.1
  have e : t = x := by
    rw [h.2, decide_eq_true_eq] at t1
    rcases List.mem_cons.mp t1 with e | e
    · exact e
    · have := hp.1 t e
      rw [t2 x this] at hx
      cases hx
  subst e
  refine ⟨hn, t3, hp.2, fun i => ?_⟩
  rw [t4, h.2]
  by_cases hi : i = t
  · subst hi
    have : i ∉ xs := fun z => Nat.lt_irrefl _ (hp.1 i z)
    simp [this]
  · simp [hi]
theorem Bits.len {n : Nat} {xs : List Nat} (h : Bits n xs) {b : Nat} (hb : n < 2 ^ b) : ∀ x ∈ xs, x < b := by
  intro x hx
  have ht : n.testBit x = true := by rw [h.2]; simpa using hx
  have := Nat.ge_two_pow_of_testBit ht
  exact (Nat.pow_lt_pow_iff_right (a := 2) (by decide)).mp (Nat.lt_of_le_of_lt this hb)
end L2
set_option Elab.async false
set_option linter.all false
set_option maxRecDepth 100000
namespace L2
open PySem PySem.Spec PyProof.Rows PySem.SeqAt
section
variable {X : Cx}
theorem ip_or : PIp X .BitOr (ipI fun i j => Builtin.bitOr i j) := by
  intro pins s σ H x y v u Q I r1 r2 h
  obtain ⟨i, j, e1, e2, q⟩ := h
  subst e1; subst e2
  obtain ⟨t, rfl⟩ := r1
  obtain ⟨t', rfl⟩ := r2
  exact ior_int ⟨.int _, H, I.tok _, ⟨_, rfl⟩, q⟩
theorem ip_xor : PIp X .BitXor (ipI fun i j => Builtin.bitXor i j) := by
  intro pins s σ H x y v u Q I r1 r2 h
  obtain ⟨i, j, e1, e2, q⟩ := h
  subst e1; subst e2
  obtain ⟨t, rfl⟩ := r1
  obtain ⟨t', rfl⟩ := r2
  exact ixor_int ⟨.int _, H, I.tok _, ⟨_, rfl⟩, q⟩
def rGetL : V → V → Hp → VK → Prop := fun x y H Q => ∃ (p : Addr) (xs : List V) (i : Nat) (v : V), x = .ref p ∧ y = .int i ∧ H p = some (.lst xs) ∧ xs[i]? = some v ∧ Q v H
theorem get_list : PGet X rGetL := by
  intro pins s σ H o i ov iv Q I ro ri h
  obtain ⟨p, xs, k, v, rfl, rfl, hp, hk, q⟩ := h
  cases ro
  obtain ⟨t, rfl⟩ := ri
  obtain ⟨its, r, pl, hz⟩ := I.list (SqL.of hp)
  obtain ⟨w, ew, rw'⟩ := r.get hk
  have hl := r.length
  have hkl := (List.getElem?_eq_some_iff.mp hk).1
  have hs := sizeLine_eq
  exact wpAny_getItem_list pl.isList (by omega) (by omega) (by simpa using ew) ⟨v, H, I, rw', q⟩
def rBitLen : V → List V → Hp → VK → Prop := fun x vs H Q => ∃ i : Int, x = .int i ∧ vs = [] ∧ Q (.int (Builtin.Int.intBits i)) H
theorem mt_bit_length : MtR X "int.bit_length" rBitLen := by
  intro pins s σ H x xs v us Q I rx rv h
  obtain ⟨i, rfl, rfl, q⟩ := h
  cases rv
  obtain ⟨t, rfl⟩ := rx
  exact call_int_bit_length ⟨.int _, H, I.tok _, ⟨_, rfl⟩, q⟩
end
theorem pe_fldK {X : Cx} (K : PySem.W.Frag) {e : Expr} {f : Str} {pos : Pos} {ta : TE} (he : PE X e ta) (hb : attributeBase e f X.env (eval e X.env) = eval e X.env) (hK : X.K = K := by rfl) : PE X (.Attribute e f pos) (tFld K ta f) := by
  subst hK
  exact pe_fld he hb
theorem not_not (x : Int) : Builtin.bitNot (Builtin.bitNot x) = x := by unfold Builtin.bitNot; omega
theorem or_mask (m n : Nat) : Builtin.bitOr (m : Int) (n : Int) = ((m ||| n : Nat) : Int) := by
  unfold Builtin.bitOr
  rw [bitAnd_nn (by unfold Builtin.bitNot; omega) (by unfold Builtin.bitNot; omega), not_not, not_not, not_not]
  simp
theorem and_mask (m n : Nat) : Builtin.bitAnd (m : Int) (n : Int) = ((m &&& n : Nat) : Int) := by
  rw [bitAnd_pp (by omega) (by omega)]
  simp
theorem low_mask {n : Nat} (h : 0 < n) : Builtin.bitAnd (n : Int) (-(n : Int)) = ((n - (n &&& (n - 1)) : Nat) : Int) := by
  rw [bitAnd_pn (by omega) (by omega)]
  have e : (Builtin.bitNot (-(n : Int))).toNat = n - 1 := by unfold Builtin.bitNot; omega
  rw [e, Int.toNat_natCast]
  have := Nat.and_le_left (n := n) (m := n - 1)
  omega
theorem xor_low {n x : Nat} (h : n - (n &&& (n - 1)) = 2 ^ x) (hb : n.testBit x = true) : Builtin.bitXor (n : Int) ((2 ^ x : Nat) : Int) = ((n &&& (n - 1) : Nat) : Int) := by
  rw [bitXor_and, and_mask]
  have e : n &&& 2 ^ x = 2 ^ x := by
    apply Nat.eq_of_testBit_eq
    intro i
    rw [Nat.testBit_and, Nat.testBit_two_pow]
    by_cases hi : x = i
    · subst hi; simp [hb]
    · simp [hi]
  rw [e]
  have := Nat.and_le_left (n := n) (m := n - 1)
  omega
theorem bits_pow (x : Nat) : Builtin.Int.intBits ((2 ^ x : Nat) : Int) = x + 1 := by
  unfold Builtin.Int.intBits
  have hp : 0 < 2 ^ x := Nat.two_pow_pos x
  rw [if_neg (by rw [beq_iff_eq]; omega), Int.natAbs_natCast, Nat.log2_two_pow]
theorem shl_one (x : Nat) : (1 : Int) * 2 ^ (x : Int).toNat = ((2 ^ x : Nat) : Int) := by
  rw [Int.one_mul, Int.toNat_natCast]
  simp
end L2
set_option Elab.async false
set_option linter.all false
set_option maxRecDepth 100000
namespace L2
open PySem PySem.Spec PyProof.Rows PySem.SeqAt
section
variable {prog : Program} {w : World} {K : Type} [DecidableEq K] {knd : HeapKind prog w K} {A : Around} {E : Value → Shared → Prop} {s : Shared} {d a : Addr} {k : K} {xs : List (K × Addr × Value)}
theorem sdef_heap {v : Value} {Q : Value → Shared → Prop} (hu : knd.room A) (hkey : knd.is s.heap k a) (hm : s.heap.DictOfH knd d xs)
    (h1 : ∀ p, atKey xs k = some p → Q p.2 { s with toks := s.toks + knd.draws k })
    (h2 : atKey xs k = none → ∀ h', h'.DictOfH knd d (storedH xs k a v) → Heap.SameBut d s.heap h' → Q v { s with heap := h', toks := s.toks + knd.draws k })
    (hsz : xs.length ≤ sizeLine) : wpAny (model prog w) A (dictSetDefault d (.ref a) v) Q E s := by
  obtain ⟨o, es, ep, ho, hc, hd, he, his, hn⟩ := hm
  unfold dictSetDefault
  try with_reducible refine wpAny_holding ?_
  refine wpAny_bind (knd.pyHash hu hkey ?_)
  refine wpAny_bind (wpAny_dictFind_heap (s := { s with toks := s.toks + knd.draws k }) hu hkey ho hd he his hn ?_ ?_)
  · intro hno
    have hnot : k ∉ xs.map (·.1) := not_mem_keys_of_get hno
    refine wpAny_bind (wpAny_rule (wpAny_bind (wpAny_updateDictKeys (hz := by have e := size_of_entries he; omega) (s := { s with toks := s.toks + knd.draws k }) ho hd (wpAny_pure (h2 (atKey_none_of_get hno) _ ⟨_, _, ep + 1, Heap.get?_update_self _ ho (Obj.isFreed_of_dict (Obj.data_mapDictKeys hd _)),
      hc.mapDictKeys _, Obj.data_mapDictKeys hd _, ?_, ?_, ?_⟩ (Heap.SameBut.update ..))))))
    · rw [storedH_new (atKey_none_of_get hno)]
      simp [he, entryOfKey]
    · rw [storedH_new (atKey_none_of_get hno)]
      intro x hx
      rcases List.mem_append.mp hx with hx | hx
      · exact knd.keeps (his x hx) ho hd (Heap.SameBut.update ..)
      · simp only [List.mem_singleton] at hx
        subst hx
        exact knd.keeps hkey ho hd (Heap.SameBut.update ..)
    · rw [storedH_new (atKey_none_of_get hno)]
      rw [List.map_append, List.nodup_append]
      refine ⟨hn, by simp, ?_⟩
      intro x hx y hy
      simp only [List.map_cons, List.map_nil, List.mem_singleton] at hy
      subst hy
      exact fun e => hnot (e ▸ hx)
  · intro j p hj
    refine wpAny_bind (wpAny_dictEntries (s := { s with toks := s.toks + knd.draws k }) ho hd ?_)
    rw [entry_at he j, hj]
    exact wpAny_bind (wpAny_rule (wpAny_pure (h1 p (atKey_of_get hn hj))))
theorem sdef_meets (hd : (d == sysModules) = false) (dflt : Value) :
    MeetsIn prog w (Builtin.«dict.setdefault» ⟨[.ref d, .ref a, dflt], []⟩) (fun A R s => knd.room A.in1 ∧ ∃ k xs, knd.is s.heap k a ∧ s.heap.DictOfH knd d xs ∧ xs.length ≤ sizeLine ∧
      (∀ p, atKey xs k = some p → R (.ok (.ret p.2)) { s with toks := s.toks + knd.draws k }) ∧
      (atKey xs k = none → ∀ h', h'.DictOfH knd d (storedH xs k a dflt) → Heap.SameBut d s.heap h' → R (.ok (.ret dflt)) { s with heap := h', toks := s.toks + knd.draws k })) :=
  .of_wp fun A R s ⟨hu, k, xs, hkey, hm, hz, h1, h2⟩ => by
    unfold Builtin.«dict.setdefault»
    refine wpAny_bind ?_
    unfold Builtin.Dict.keyAndDefault
    refine wpAny_bind (wpAny_notOrdered_dict hm.typeIs ?_)
    show wpAny _ _ (pure (d, Value.ref a, some dflt)) _ _ s
    refine wpAny_pure ?_
    show wpAny _ _ (if (d == sysModules) = true then _ else (dictSetDefault d (.ref a) dflt >>= _)) _ _ s
    rw [if_neg (by rw [hd]; exact Bool.false_ne_true)]
    exact wpAny_bind (sdef_heap hu hkey hm (fun p hp => wpAny_pure ⟨p.2, rfl, h1 p hp⟩) (fun hn h' hm' hs' => wpAny_pure ⟨dflt, rfl, h2 hn h' hm' hs'⟩) hz)
end
theorem relO_some {v : V} {u : Value} (h : RelO (some v) (some u)) : RelV v u := h
def tSDef (td ty tx : TE) : TE := fun σ H Q => td σ H fun x H1 => ∃ a, x = .ref a ∧ IsD H1 a ∧ ty σ H1 fun y H2 => tx σ H2 fun z H3 => ∃ (kvs : List (List Key × V)) (k : List Key) (b : Addr), H3 a = some (.dT kvs) ∧ y = .ref b ∧ H3 b = some (.tup (k.map kV)) ∧ kvs.length < sizeLine ∧
  (∀ v, valV kvs k = some v → Q v H3) ∧ (valV kvs k = none → Q z (upd H3 a (.dT (putK kvs k z))))
section
variable {X : Cx} {o e f : Expr} {apos cpos : Pos} {td ty tx : TE}
theorem pe_sdef (hu : X.A.units + 1 < cLine) (ho : PE X o td) (he : PE X e ty) (hf : PE X f tx) (m : M2 X o "setdefault" apos e f cpos) : PE X (.Call (.Attribute o "setdefault" apos) [e, f] [] cpos) (tSDef td ty tx) := by
  intro pins s σ H Q I h
  refine wpAny_Call_method m.base m.few m.line PySem.F.plainAttrs_dict PySem.F.slot_dict_setdefault PySem.F.type_dict_setdefault (thn (ho pins s σ H _ I h) fun u s1 ⟨x, H1, I1, rx, a, ex, d, q1⟩ => ?_)
  subst ex
  obtain rfl : u = Value.ref a := rx
  obtain ⟨t1, t2, _⟩ := isD_at I1 d
  refine ⟨t1, t2, ?_⟩
  rw [m.trees]
  refine Calls.callWith_builtin rfl (Calls.evalArgs_plain (Calls.spliced_cons (thn (he pins s1 σ H1 _ I1 q1) fun iv s2 ⟨y, H2, I2, ry, q2⟩ =>
    Calls.spliced_cons (thn (hf pins s2 σ H2 _ I2 q2) fun fv s3 ⟨z, H3, I3, rz, kvs, k, b, e, ey, eb, l, q3, q4⟩ => Calls.spliced_nil ?_))))
  subst ey
  cases (show iv = Value.ref b from ry)
  obtain ⟨z0, hd, xs, rel, dd⟩ := dt_of I3.hok e
  have hz : xs.length ≤ sizeLine := by rw [← Paired.length rel]; exact z0
  have hl : (putK kvs k z).length ≤ sizeLine := by have := length_putK kvs k z; omega
  refine call_meetsIn PySem.F.slot_dict_setdefault dd.typeIs PySem.F.entry_dict_setdefault (PySem.F.args_dict_setdefault_3 _ _ _) (sdef_meets (knd := tupleKind (mixKind X.prog X.w)) hd fv) ⟨tupleKind_room_in1 hu, k, xs, key_of I3.hok eb, dd, hz, fun p hp => ?_, fun hn h' dd' hs => ?_⟩
  · have rv := rel.val k
    rw [hp] at rv
    cases hv : valV kvs k with
    | none => rw [hv] at rv; cases rv
    | some v =>
      rw [hv] at rv
      exact ⟨v, H3, I3.tok _, relO_some rv, q3 v hv⟩
  · have rv := rel.val k
    rw [hn] at rv
    have hv : valV kvs k = none := by
      cases hv : valV kvs k with
      | none => rfl
      | some v => rw [hv] at rv; cases rv
    obtain ⟨q, es, ep, hq, h2, h3, h4, _, h5⟩ := dd'
    refine ⟨z, upd H3 a (.dT (putK kvs k z)), d_write I3 (by rw [e]; exact True.intro) hs ⟨q, hq⟩ ⟨hl, hd, _, (rel.put k eb rz).keeps fun c ys ec => ?_, q, es, ep, hq, h2, h3, h4, h5⟩, rz, q4 hv⟩
    rw [upd_ne (ne_of ec e (fun z => nomatch z))]
    exact ec
end
end L2
set_option Elab.async false
set_option linter.all false
set_option maxRecDepth 100000
namespace L2
open PySem PySem.Spec PyProof.Rows PySem.W
section
variable {prog : Program} {w : World} {A : Around} {E : Value → Shared → Prop} {s : Shared}
def RawD (h : Heap) (d : Addr) (es : Array DictEntry) (ep : Nat) : Prop := ∃ o, h.get? d = some o ∧ o.ExactDict ∧ o.data = .dict es ep
theorem RawD.typeIs {d : Addr} {es : Array DictEntry} {ep : Nat} (x : RawD s.heap d es ep) : s.TypeIs (.ref d) "dict" := let ⟨o, ho, hc, _⟩ := x; ⟨o, ho, hc.1⟩
theorem RawD.at' {h h' : Heap} {d : Addr} {es : Array DictEntry} {ep : Nat} (x : RawD h d es ep) (e : ∀ o, h.get? d = some o → h'.get? d = some o) : RawD h' d es ep := let ⟨o, ho, r⟩ := x; ⟨o, e _ ho, r⟩
theorem RawD.lt {h : Heap} {d : Addr} {es : Array DictEntry} {ep : Nat} (x : RawD h d es ep) : d < h.objs.size := let ⟨_, ho, _⟩ := x; Heap.lt_size ho
theorem raw_values (d : Addr) (hd : (d == sysModules) = false) : MeetsIn prog w (Builtin.«dict.values» ⟨[.ref d], []⟩) (fun _ R s => (∃ es ep, RawD s.heap d es ep) ∧ R (.ok (.ret (.ref s.heap.objs.size))) { s with heap := s.heap.push { cls := .type "dict_values", data := .fields #[.ref d] } }) :=
  .of_wp fun A R s ⟨⟨es, ep, hm⟩, h⟩ => by
    refine wpAny_bind ?_; unfold Builtin.Dict.noArgs
    refine wpAny_bind (wpAny_notOrdered_dict hm.typeIs ?_); show wpAny _ _ (pure d) _ _ s
    refine wpAny_pure ?_; show wpAny _ _ (Builtin.Dict.showsAll d >>= _) _ _ s
    unfold Builtin.Dict.showsAll; rw [if_neg (by rw [hd]; exact Bool.false_ne_true)]
    refine wpAny_bind (wpAny_pure ?_); exact wpAny_bind (wpAny_newObj_type (wpAny_pure ⟨_, rfl, h⟩))
theorem raw_len (d : Addr) (hd : (d == sysModules) = false) : MeetsIn prog w (Builtin.«dict.__len__» ⟨[.ref d], []⟩) (fun _ R s => ∃ es ep, RawD s.heap d es ep ∧ R (.ok (.ret (.int es.size s.toks))) { s with toks := s.toks + 1 }) :=
  .of_wp fun A R s ⟨es, ep, hm, h⟩ => by
    obtain ⟨o, a1, a2, a3⟩ := id hm
    show wpAny _ _ (dictSize d >>= _) _ _ s; unfold dictSize
    refine wpAny_bind (wpAny_bind (wpAny_dictEntries a1 a3 (wpAny_pure ?_))); show wpAny _ _ (Builtin.Dict.pendingCount d >>= _) _ _ s
    refine wpAny_bind (wpAny_pendingCount_other hd ?_); refine wpAny_ret_mkInt ?_
    rw [Nat.add_zero]; exact h
theorem raw_iter {v d : Addr} {es : Array DictEntry} {ep : Nat} {Q : Value → Shared → Prop} (hv : s.heap.IsValuesView v d) (hm : RawD s.heap d es ep)
    (hQ : Q (.ref s.heap.objs.size) { s with heap := s.heap.push { cls := .type "dict_valueiterator", data := .fields #[.ref d, .int 0 0, .int es.size 0, .int ep 0] } }) : wpAny (model prog w) A (pyIter (.ref v)) Q E s := by
  obtain ⟨ov, a1, a2, a3⟩ := id hv; obtain ⟨o, b1, b2, b3⟩ := id hm
  refine wpAny_pyIter_slot hv.typeIs PySem.F.slot_dict_values_iter (wpAny_call_entry PySem.F.slot_dict_values_iter hv.typeIs PySem.F.entry_dict_values_iter ?_ (PySem.F.args_dict_values_iter_1 _))
  unfold Builtin.«dict_values.__iter__»; refine wpAny_bind (wpAny_pure ?_)
  refine wpAny_bind ?_; unfold Builtin.Dict_items.dictOf
  refine wpAny_bind (wpAny_field a1 a3 (x := .ref d) rfl (wpAny_pure ?_))
  refine wpAny_bind ?_; unfold Builtin.Dict_items.newIterator
  refine wpAny_bind (wpAny_dictEntries b1 b3 ?_); refine wpAny_bind (wpAny_dictEpoch b1 b3 ?_)
  have ow : Builtin.Dict_items.ownsTuple "dict_valueiterator" = false := by decide
  simp only [ow, Bool.false_eq_true, if_false]
  refine wpAny_newObj_type (wpAny_pure ⟨_, rfl, "dict_valueiterator", _, ⟨_, Heap.get?_push_size _ rfl, rfl⟩, PySem.F.slot_dict_valueiterator_next.lookup, ?_⟩)
  simpa [rawInt] using hQ
theorem raw_item {it d : Addr} {i ep : Nat} {es : Array DictEntry} {v : Value} {Q : Option Value → Shared → Prop} (hit : s.heap.IsValIter it d i es.size ep) (hm : RawD s.heap d es ep) (hi : i < es.size) (hx : es[i].val = v)
    (hQ : ∀ h', h'.IsValIter it d (i + 1) es.size ep → Heap.SameBut it s.heap h' → Q (some v) { s with heap := h' }) : wpAny (model prog w) A (pyNext (.ref it)) Q E s := by
  obtain ⟨o, a1, a2, a3⟩ := id hit; obtain ⟨od, b1, b2, b3⟩ := id hm
  unfold pyNext
  refine wpAny_bind (wpAny_attempt (wpAny_callSpecial?_slot (name := Str.ofString "__next__") hit.typeIs PySem.F.slot_dict_valueiterator_next (wpAny_call_entry PySem.F.slot_dict_valueiterator_next hit.typeIs PySem.F.entry_dict_valueiterator_next ?_ (PySem.F.args_dict_valueiterator_next_1 _))))
  refine wpAny_bind (wpAny_pure ?_); refine wpAny_bind ?_; refine wpAny_bind ?_
  first | refine wpAny_bind (wpAny_typeNameOfWhole_valiter hit.typeIs (wpAny_pure ?_)); skip | refine wpAny_bind (wpAny_typeNameOf_valiter hit.typeIs (wpAny_pure ?_)); skip
  refine wpAny_bind (wpAny_fieldsOf a1 a3 ?_)
  have ow : Builtin.Dict_items.ownsTuple "dict_valueiterator" = false := by decide
  simp only [ow, Bool.false_eq_true, if_false]; show wpAny _ _ (if (Value.ref d == Value.none) = true then _ else _) _ _ s
  rw [if_neg (show ¬ ((Value.ref d == Value.none) = true) from Bool.false_ne_true)]; refine wpAny_bind (wpAny_pure ?_)
  refine wpAny_bind (wpAny_dictEntries b1 b3 ?_); rw [if_neg (by simp)]
  refine wpAny_bind (wpAny_pure ?_); refine wpAny_bind (wpAny_dictEpoch b1 b3 ?_); rw [if_neg (by simp)]; refine wpAny_pure ?_
  simp only [show ¬ ((i : Int) < 0) from by omega, if_false, Int.toNat_natCast, Array.getElem?_eq_getElem hi]; refine wpAny_bind ?_
  first | refine wpAny_bind (wpAny_typeNameOfWhole_valiter hit.typeIs (wpAny_pure ?_)); skip | refine wpAny_bind (wpAny_typeNameOf_valiter hit.typeIs (wpAny_pure ?_)); skip
  refine wpAny_bind (wpAny_isOneOf_valiter hit.typeIs ?_); show wpAny _ _ (setField (.ref it) 1 (rawInt ((i : Int) + 1)) >>= _) _ _ s
  refine wpAny_bind (wpAny_setField a1 a3 (by simp) ?_)
  have it' : (s.heap.update it (Obj.mapFields (·.setIfInBounds 1 (rawInt ((i : Int) + 1))))).IsValIter it d (i + 1) es.size ep := ⟨_, Heap.get?_update_self _ a1 (Obj.isFreed_of_fields (Obj.data_mapFields a3 _)), (Obj.cls_mapFields ..).trans a2, by rw [Obj.data_mapFields a3]; simp [rawInt]⟩
  refine wpAny_bind (wpAny_holding ?_)
  refine wpAny_bind (wpAny_isOneOf_valiter (s := { s with heap := s.heap.update it (Obj.mapFields (·.setIfInBounds 1 (rawInt ((i : Int) + 1)))) }) it'.typeIs ?_)
  refine wpAny_bind (wpAny_isOneOf_valiter (s := { s with heap := s.heap.update it (Obj.mapFields (·.setIfInBounds 1 (rawInt ((i : Int) + 1)))) }) it'.typeIs ?_)
  show wpAny _ _ (pure es[i].val) _ _ _; exact wpAny_pure (wpAny_pure ⟨_, rfl, wpAny_pure (hx ▸ hQ _ it' (Heap.SameBut.update ..))⟩)
theorem raw_end {it d : Addr} {i ep : Nat} {es : Array DictEntry} {Q : Option Value → Shared → Prop} (hh : A.handled = none) (hit : s.heap.IsValIter it d i es.size ep) (hm : RawD s.heap d es ep) (hi : es.size ≤ i)
    (hQ : ∀ h', Heap.ExtBut it s.heap h' → Q none { s with heap := h' }) : wpAny (model prog w) A (pyNext (.ref it)) Q E s := by
  obtain ⟨o, a1, a2, a3⟩ := id hit; obtain ⟨od, b1, b2, b3⟩ := id hm
  unfold pyNext
  refine wpAny_bind (wpAny_attempt (wpAny_callSpecial?_slot (name := Str.ofString "__next__") hit.typeIs PySem.F.slot_dict_valueiterator_next (wpAny_call_entry PySem.F.slot_dict_valueiterator_next hit.typeIs PySem.F.entry_dict_valueiterator_next ?_ (PySem.F.args_dict_valueiterator_next_1 _))))
  refine wpAny_bind (wpAny_pure ?_); refine wpAny_bind ?_; refine wpAny_bind ?_
  first | refine wpAny_bind (wpAny_typeNameOfWhole_valiter hit.typeIs (wpAny_pure ?_)); skip | refine wpAny_bind (wpAny_typeNameOf_valiter hit.typeIs (wpAny_pure ?_)); skip
  refine wpAny_bind (wpAny_fieldsOf a1 a3 ?_)
  have ow : Builtin.Dict_items.ownsTuple "dict_valueiterator" = false := by decide
  simp only [ow, Bool.false_eq_true, if_false]; show wpAny _ _ (if (Value.ref d == Value.none) = true then _ else _) _ _ s
  rw [if_neg (show ¬ ((Value.ref d == Value.none) = true) from Bool.false_ne_true)]; refine wpAny_bind (wpAny_pure ?_)
  refine wpAny_bind (wpAny_dictEntries b1 b3 ?_); rw [if_neg (by simp)]
  refine wpAny_bind (wpAny_pure ?_); refine wpAny_bind (wpAny_dictEpoch b1 b3 ?_); rw [if_neg (by simp)]; refine wpAny_pure ?_
  simp only [show ¬ ((i : Int) < 0) from by omega, if_false, Int.toNat_natCast, Array.getElem?_eq_none hi]; refine wpAny_bind ?_
  first | refine wpAny_bind (wpAny_typeNameOfWhole_valiter hit.typeIs (wpAny_pure ?_)); skip | refine wpAny_bind (wpAny_typeNameOf_valiter hit.typeIs (wpAny_pure ?_)); skip
  show wpAny _ _ (setField (.ref it) 0 .none >>= _) _ _ s; refine wpAny_bind (wpAny_setField a1 a3 (by simp) ?_)
  show wpAny _ _ (newExc (.type "StopIteration") [] >>= _) _ _ _; refine wpAny_bind ?_
  simp only [newExc, newTuple]; refine wpAny_bind (wpAny_newObj_type ?_ (by size_fits))
  refine wpAny_bind (m := firstArgMember _ _) (wpAny_of_eq (a := Value.none) (by first | rfl | (simp only [firstArgMember]; rfl)) ?_); refine wpAny_newObj_type ?_ (by size_fits)
  simp only [raiseNew]; refine wpAny_bind (wpAny_handled ?_); rw [show A.in1.handled = none from hh]
  refine wpAny_bind (wpAny_pure (wpAny_throw ?_)); refine wpAny_bind (wpAny_isInstance (T := "StopIteration") (b := true) ⟨_, Heap.get?_push_size _ rfl, rfl⟩ isSubtype_stop ?_)
  exact wpAny_pure (hQ _ (((Heap.SameBut.update ..).extBut.push _).push _))
theorem raw_walks (hh : A.handled = none) (I d : Addr) (hne : d ≠ I) (es : Array DictEntry) (ep : Nat) : Walks prog w A I [I, d] [I] es.size (fun i v => ∃ e, es[i]? = some e ∧ e.val = v) (fun i h => h.IsValIter I d i es.size ep ∧ RawD h d es ep) where
  sub := fun b hb => by simp at hb; simp [hb]
  frame := fun _ _ _ st hk => ⟨st.1.at fun o e => hk I (by simp) o e, RawD.at' st.2 fun o e => hk d (by simp) o e⟩
  item := fun i s Q E hi st hQ => by
    refine raw_item st.1 st.2 hi rfl fun h' it' hs' => ?_
    exact hQ es[i].val h' s.toks ⟨es[i], Array.getElem?_eq_getElem hi, rfl⟩ ⟨it', RawD.at' st.2 fun o e => hs'.extBut d o hne e⟩ fun b o hb e => hs'.extBut b o (fun h => hb (by simp [h])) e
  done := fun s Q E st hQ => raw_end hh st.1 st.2 (Nat.le_refl _) fun h' he' => hQ h' s.toks fun b o hb e => he' b o (fun h => hb (by simp [h])) e
  self := fun _ _ _ _ st hQ => wpAny_pyIter_valiter st.1 hQ
theorem raw_src {r d : Addr} {es : Array DictEntry} {ep : Nat} : KdlSrc prog w "dict_values" r d es.size (fun i v => ∃ e, es[i]? = some e ∧ e.val = v) (fun h => h.IsValuesView r d ∧ RawD h d es ep) where
  type := fun _ hm => hm.1.typeIs
  there := fun _ hm => ⟨let ⟨_, ho, _⟩ := hm.1; Heap.lt_size ho, hm.2.lt⟩
  keep := fun _ _ hm hk => ⟨let ⟨o, ho, x⟩ := hm.1; ⟨o, hk r (.inl rfl) o ho, x⟩, hm.2.at' fun o e => hk d (.inr rfl) o e⟩
  notList := by decide
  notTuple := by decide
  hint := fun _ _ _ _ hm hq => kdl_hint_values hm.1.typeIs hq
  iter := fun _ _ hh hm => ⟨_, _, (fun _ _ hq => raw_iter hm.1 hm.2 hq), raw_walks hh _ d (Nat.ne_of_lt hm.2.lt) es ep, ⟨⟨_, Heap.get?_push_size _ rfl, rfl, rfl⟩, hm.2.at' fun o e => Heap.get?_push_of_some _ e⟩⟩
end
theorem vals_of : ∀ {ys : List V} {us : List Value}, ys.length = us.length → (∀ (i : Nat) (y : V) (u : Value), ys[i]? = some y → us[i]? = some u → RelV y u) → Vals ys us
  | [], [], _, _ => .nil
  | [], _ :: _, h, _ => by simp at h
  | _ :: _, [], h, _ => by simp at h
  | y :: ys, u :: us, h, hh => .cons (hh 0 y u rfl rfl) (vals_of (by simpa using h) fun i y' u' h1 h2 => hh (i + 1) y' u' (by simpa using h1) (by simpa using h2))
theorem KT.at {H : Hp} : ∀ {kvs : List (List Key × V)} {xs : List (List Key × Addr × Value)}, KT H kvs xs → ∀ {i : Nat} {p : List Key × V} {q : List Key × Addr × Value}, kvs[i]? = some p → xs[i]? = some q → RelV p.2 q.2.2
  | _, _, .nil, i, p, q, h, _ => by simp at h
  | _, _, .cons hq t, 0, p, q, h1, h2 => by
    simp only [List.getElem?_cons_zero, Option.some.injEq] at h1 h2
    subst h1 h2
    exact hq.2.2
  | _, _, .cons hq t, i + 1, p, q, h1, h2 => KT.at t (by simpa using h1) (by simpa using h2)
section
variable {X : Cx}
def tLV (to : TE) : TE := fun σ H Q => to σ H fun x H1 => ∃ a kvs, x = .ref a ∧ H1 a = some (.dT kvs) ∧ ∀ l, H1 l = none → Q (.ref l) (upd H1 l (.lst (kvs.map (·.2))))
theorem pe_listVals {o : Expr} {to : TE} {p ap cp pos : Pos} (hg : Gl X "list") (hm : X.mg "list" = none) (hc : X.calm = true) (ho : PE X o to) (hbase : attributeBase o "values" X.env (eval o X.env) = eval o X.env := by rfl) (hline : (ap.endLine == cp.line) = true := by rfl)
    (he : starEach [Expr.Call (.Attribute o "values" ap) [] [] cp] X.env = [(false, eval (.Call (.Attribute o "values" ap) [] [] cp) X.env)] := by rfl) : PE X (.Call (.Name "list" p) [.Call (.Attribute o "values" ap) [] [] cp] [] pos) (tLV to) := by
  intro pins s σ H Q I h
  refine wpAny_Call_Name_kw (ld_blt I hg hm bt_list ?_ (by decide) (by decide))
  refine PyProof.Rows.callWith_type1 ?_ he (by rfl)
  rw [he]
  show wpAny _ _ (spliced [(false, _)]) _ _ s
  refine Calls.spliced_cons ?_
  refine wpAny_Call_method0_late hbase hline (thn (ho pins s σ H _ I h) fun v s1 ⟨x, H1, I1, r1, a, kvs, e, ha, q⟩ => ?_)
  subst e
  obtain ⟨h1, h2⟩ := tyV_is I1 r1 (T := "dict") (.inr (.inr (.inl ⟨rfl, .inr ⟨kvs, ha⟩⟩)))
  cases r1
  obtain ⟨hz, lo, xs, kt, oo, es, ep, o1, o2, o3, o4, o5, o6⟩ := dt_of I1.hok ha
  have raw : RawD s1.heap a es ep := ⟨oo, o1, o2, o3⟩
  refine ⟨"dict", "dict.values", PySem.F.plainAttrs_dict, PySem.F.slot_dict_values, PySem.F.type_dict_values, h1, h2, Calls.callWith_builtin rfl (PySem.evalArgs_none (call_meetsIn PySem.F.slot_dict_values raw.typeIs PySem.F.entry_dict_values (PySem.F.args_dict_values_1 _) (raw_values a lo) ⟨⟨es, ep, raw⟩, ?_⟩))⟩
  refine Calls.spliced_nil ?_
  have hlen : es.size = kvs.length := by
    rw [← Array.length_toList, o4, List.length_map]
    exact (Paired.length kt).symm
  have raw2 : RawD (s1.heap.push { cls := .type "dict_values", data := .fields #[.ref a] }) a es ep := raw.at' fun o e => Heap.get?_push_of_some _ e
  refine kdl_call (raw_src (r := s1.heap.objs.size) (d := a) (es := es) (ep := ep)) (I.ok.hd hc) ⟨⟨_, Heap.get?_push_size _ rfl, rfl, rfl⟩, raw2⟩ (by omega) fun h' tk acc c' hk hS hacc => ?_
  have I2 : Inv X pins σ H1 { s1 with heap := s1.heap.push { cls := .type "dict_values", data := .fields #[.ref a] } } := I1.kept (t' := s1.toks) fun b u e => Heap.get?_push_of_some _ e
  have vals : Vals (kvs.map (·.2)) acc.toList := by
    have hal : acc.toList.length = es.size := by rw [Array.length_toList]; exact hacc.1
    refine vals_of (by rw [List.length_map, hal, hlen]) fun i y u hy hu => ?_
    rw [Array.getElem?_toList] at hu
    obtain ⟨en, e1, e2⟩ := hacc.2 i u hu
    rw [← Array.getElem?_toList, o4, List.getElem?_map] at e1
    obtain ⟨qx, q1, q2⟩ := Option.map_eq_some_iff.mp e1
    rw [List.getElem?_map] at hy
    obtain ⟨px, p1, p2⟩ := Option.map_eq_some_iff.mp hy
    have := KT.at kt p1 q1
    rw [← e2, ← q2, ← p2]
    exact this
  exact ⟨.ref _, _, I2.laid (a := _) (o := .lst (kvs.map (·.2))) (t' := tk) hk (Nat.le_refl _) ⟨by rw [List.length_map]; exact hz, acc.toList, c', vals, by rw [Array.toArray_toList]; exact hS⟩, rfl, q _ (I2.hok.fresh (Nat.le_refl _))⟩
theorem call_lenT : CallR X (.builtin "len") (fun xs H Q => ∃ a kvs, xs = [V.ref a] ∧ H a = some (.dT kvs) ∧ Q (.int kvs.length) H) := by
  intro pins s σ H xs us Q I r h
  obtain ⟨a, kvs, rfl, ha, q⟩ := h
  obtain ⟨u, rfl, ru⟩ := vals1 r
  cases ru
  obtain ⟨hz, lo, xs, kt, oo, es, ep, o1, o2, o3, o4, o5, o6⟩ := dt_of I.hok ha
  have raw : RawD s.heap a es ep := ⟨oo, o1, o2, o3⟩
  have hlen : es.size = kvs.length := by
    rw [← Array.length_toList, o4, List.length_map]
    exact (Paired.length kt).symm
  have hs : sizeLine = 16777216 := sizeLine_eq
  refine call_len_slot (n := (es.size : Int)) raw.typeIs PySem.F.slot_dict_len (fun Q' hq => call_meetsIn PySem.F.slot_dict_len raw.typeIs PySem.F.entry_dict_len (PySem.F.args_dict_len_1 _) (raw_len a lo) ⟨es, ep, raw, hq⟩) (by omega) (by omega) ?_
  rw [hlen]
  exact ⟨.int kvs.length, H, (I.tok _), ⟨_, rfl⟩, q⟩
end
end L2
set_option Elab.async false
set_option linter.all false
set_option maxRecDepth 100000
set_option maxHeartbeats 8000000
namespace C
open PySem L2
seal PE PT PW PA PS PSs PG PGs PI PPs PO PSet PIf
def top (i : Nat) : Stmt := PySem.Challenge.pw_clashbook_k17_closing_by_passes.main.body.getD i (.Pass ⟨0, 0, 0, 0⟩)
abbrev s_is_whole : Stmt := top 3
theorem sc_is_whole : FnScope ["n"] ["n"] (defScope s_is_whole) := ⟨rfl, rfl, rfl, by decide +kernel, rfl, by decide +kernel, by decide +kernel⟩
abbrev s_is_below : Stmt := top 4
theorem sc_is_below : FnScope ["n", "bound"] ["n", "bound"] (defScope s_is_below) := ⟨rfl, rfl, rfl, by decide +kernel, rfl, by decide +kernel, by decide +kernel⟩
abbrev RwAts (H : Hp) (rows : List Rw) (us : List V) : Prop := DAts H (rows.map dRw) us
abbrev LnAts (H : Hp) (ls : List Ln) (us : List V) : Prop := DAts H (ls.map dLn) us
abbrev WtAts (H : Hp) (as : List Wt) (us : List V) : Prop := DAts H (as.map dWt) us
theorem mapGetV {α : Type} {H : Hp} {f : α → Dt} {xs : List α} {us : List V} {i : Nat} {v : V} (h : DAts H (xs.map f) us) (hv : us[i]? = some v) : ∃ x, xs[i]? = some x ∧ DAt H (f x) v := by
  have hl := DAts.length h
  rw [List.length_map] at hl
  have hi : i < xs.length := by rw [← hl]; exact (List.getElem?_eq_some_iff.mp hv).1
  obtain ⟨u, h1, h2⟩ := DAts.get (d := f xs[i]) h (by rw [List.getElem?_map, List.getElem?_eq_getElem hi]; rfl)
  rw [hv] at h1
  cases h1
  exact ⟨_, List.getElem?_eq_getElem hi, h2⟩
theorem mapLen {α : Type} {H : Hp} {f : α → Dt} {xs : List α} {us : List V} (h : DAts H (xs.map f) us) : us.length = xs.length := by
  have hl := DAts.length h
  rwa [List.length_map] at hl
theorem mapSnoc {α : Type} {H : Hp} {f : α → Dt} {xs : List α} {us : List V} {i : Nat} {x : α} {v : V} (hx : xs[i]? = some x) (h : DAts H ((xs.take i).map f) us) (h1 : DAt H (f x) v) : DAts H ((xs.take (i + 1)).map f) (us ++ [v]) := by
  obtain ⟨hi, e⟩ := List.getElem?_eq_some_iff.mp hx
  rw [List.take_succ_eq_append_getElem hi, e, List.map_append]
  exact DAts.append h (DAts.one h1)
theorem LnAt.out {H : Hp} {l : Ln} {v : V} (h : DAt H (dLn l) v) : ∃ a b us, v = .ref a ∧ H a = some (.tup [.int l.i, .int l.j, .ref b]) ∧ H b = some (.tup (.str l.w :: us)) ∧ WtAts H l.as us := by
  obtain ⟨a, vs, e1, e2, u1, r1, q1, h1, u2, r2, q2, h2, u3, r3, q3, ⟨b, ws, g1, g2, x, y, g3, g4, g5⟩, h4⟩ := h
  have h1 : u1 = .int l.i := h1
  have h2 : u2 = .int l.j := h2
  have h4 : r3 = [] := h4
  have g4 : x = .str l.w := g4
  subst h4 q3 q2 q1 h1 h2 g1 g3 g4
  exact ⟨a, b, y, e1, e2, g2, g5⟩
theorem RwAt.out {H : Hp} {r : Rw} {v : V} (h : DAt H (dRw r) v) : ∃ a x us, v = .ref a ∧ H a = some (.tup (.str x :: us)) ∧ (match r with | .no => x = "none" ∧ us = [] | .nm y => x = "name" ∧ us = [.str y] | .bo i j => x = "both" ∧ us = [.int i, .int j]) := by
  cases r with
  | no =>
    obtain ⟨a, vs, e1, e2, u1, r1, q1, h1, h2⟩ := h
    have h1 : u1 = .str "none" := h1
    have h2 : r1 = [] := h2
    subst h2 q1 h1
    exact ⟨a, _, _, e1, e2, rfl, rfl⟩
  | nm y =>
    obtain ⟨a, vs, e1, e2, u1, r1, q1, h1, u2, r2, q2, h2, h3⟩ := h
    have h1 : u1 = .str "name" := h1
    have h2 : u2 = .str y := h2
    have h3 : r2 = [] := h3
    subst h3 q2 q1 h1 h2
    exact ⟨a, _, _, e1, e2, rfl, rfl⟩
  | bo i j =>
    obtain ⟨a, vs, e1, e2, u1, r1, q1, h1, u2, r2, q2, h2, u3, r3, q3, h3, h4⟩ := h
    have h1 : u1 = .str "both" := h1
    have h2 : u2 = .int i := h2
    have h3 : u3 = .int j := h3
    have h4 : r3 = [] := h4
    subst h4 q3 q2 q1 h1 h2 h3
    exact ⟨a, _, _, e1, e2, rfl, rfl⟩
def ptsR : Rw → List Int
  | .bo i j => [i, j]
  | _ => []
theorem parts_of_row {rows : List Rw} {n : Int} {r : Rw} (h : n % 2 = 0) (hr : rows[(n / 2).toNat]? = some r) : parts rows n = ptsR r := by
  unfold parts
  rw [if_pos h, hr]
  cases r <;> rfl
theorem said_pos {ls : List Ln} {k : Nat} {i : Int} {l : Ln} (h : 0 ≤ i ∧ i < (k : Int)) (hl : ls[i.toNat]? = some l) : said ls k (.n i) = some (l.i, l.j) := by
  show (if 0 ≤ i ∧ i < (k : Int) then (ls[i.toNat]?).map fun l => (l.i, l.j) else none) = _
  rw [if_pos h, hl]
  rfl
theorem said_neg {ls : List Ln} {k : Nat} {i : Int} (h : ¬ (0 ≤ i ∧ i < (k : Int))) : said ls k (.n i) = none := by
  show (if 0 ≤ i ∧ i < (k : Int) then (ls[i.toNat]?).map fun l => (l.i, l.j) else none) = _
  rw [if_neg h]
def isN : Wt → Bool
  | .n _ => true
  | .ps _ => false
def spWh : Sp := fun vs H Q _ => ∃ (v : V) (x : Wt), vs = [v] ∧ DAt H (dWt x) v ∧ Q (.bl (isN x)) H
def spBel : Sp := fun vs H Q _ => ∃ (v : V) (x : Wt) (b : Int), vs = [v, .int b] ∧ DAt H (dWt x) v ∧ Q (.bl (belW b x)) H
section
variable {P : Program} {w : World} {K : PySem.W.Frag} {mg : Str → Option Value} {base : Heap} {f : Addr} {fd : FuncData}
theorem ok_is_whole (bi : Bi mg) (F : Fun K "is_whole" "is_whole" s_is_whole f fd) : FnOk P w K mg base CX0 1 f fd ["n"] spWh := by
  refine F.ok sc_is_whole (fun vs H Q E h => ?_) (fun cdv A outer s H vs Q E hr h => ?_)
  · obtain ⟨v, x, rfl, _⟩ := h
    rfl
  obtain ⟨v, x, rfl, hv, q⟩ := h
  refine ⟨_, (pss_one (ps_ret (pe_and (pe_callB (call_isi (T := "int")) rfl bi.isinstance bt_isinstance (pa_cons (pv 0) (pa_cons (pe_ty bi.int bt_int rfl) pa_nil))) (pe_one (pe_not (pe_callB (call_isi (T := "bool")) rfl bi.isinstance bt_isinstance (pa_cons (pv 0) (pa_cons (pe_ty bi.bool bt_bool rfl) pa_nil)))))))), ?_⟩
  cases x with
  | n i =>
    have e : v = .int i := hv
    subst e
    simp only [tSeq, tFor_eq, tLC_eq, iRng1, iRng2, iList, iTup, iStr, tIfS, tRet, tRetN, tNext, tAsg, gName, tVar, tC, tOp, rI0, rI, tTest, tB, rEq, rNe, tCall, tCons, tNil, tCB, tLst, tTup, tAnd, tOr, tNot, tAndV, tOrV, tNotV, tIf, tDrop, tSl, tPart, tNoPart, tChain, tUn, rU, L2.start, cx_K, bk_K, cx_calm, bk_calm, lenV_str, and_assoc, Option.join, List.length_map, List.length_append, decide_eq_true_eq, Bool.false_eq_true, if_false, if_true, Bool.not_true, Bool.not_false, Bool.not_eq_true', decide_eq_false_iff_not, Bool.true_eq_false, List.length_cons, List.length_nil, List.map_cons, List.map_nil, List.replicate, List.cons_append, List.nil_append, List.append_nil, List.getElem?_cons_zero, List.getElem?_cons_succ, List.set_cons_zero, List.set_cons_succ, Nat.reduceSub, Nat.reduceAdd, Option.some.injEq, V.int.injEq, V.str.injEq, V.bl.injEq, V.ref.injEq, List.cons.injEq, and_true, true_and, exists_eq_left', exists_eq_left, exists_and_left, exists_eq_right, exists_const, tBM, tBM0, rAppend, rPop, rIxL, rIxT, rIxS, rSlL, rSlT, rSlS, rCat, rCatT, tKGet, cx_w, bk_w, tDGet, tDisp, tPairs, tDNewK, cx_P]
    exact ⟨_, .int i, true, kit_same, iteT ⟨_, .int i, false, kit_ib, q⟩⟩
  | ps l =>
    obtain ⟨a, us, rfl, ha, hu⟩ := hv
    simp only [tSeq, tFor_eq, tLC_eq, iRng1, iRng2, iList, iTup, iStr, tIfS, tRet, tRetN, tNext, tAsg, gName, tVar, tC, tOp, rI0, rI, tTest, tB, rEq, rNe, tCall, tCons, tNil, tCB, tLst, tTup, tAnd, tOr, tNot, tAndV, tOrV, tNotV, tIf, tDrop, tSl, tPart, tNoPart, tChain, tUn, rU, L2.start, cx_K, bk_K, cx_calm, bk_calm, lenV_str, and_assoc, Option.join, List.length_map, List.length_append, decide_eq_true_eq, Bool.false_eq_true, if_false, if_true, Bool.not_true, Bool.not_false, Bool.not_eq_true', decide_eq_false_iff_not, Bool.true_eq_false, List.length_cons, List.length_nil, List.map_cons, List.map_nil, List.replicate, List.cons_append, List.nil_append, List.append_nil, List.getElem?_cons_zero, List.getElem?_cons_succ, List.set_cons_zero, List.set_cons_succ, Nat.reduceSub, Nat.reduceAdd, Option.some.injEq, V.int.injEq, V.str.injEq, V.bl.injEq, V.ref.injEq, List.cons.injEq, and_true, true_and, exists_eq_left', exists_eq_left, exists_and_left, exists_eq_right, exists_const, tBM, tBM0, rAppend, rPop, rIxL, rIxT, rIxS, rSlL, rSlT, rSlS, rCat, rCatT, tKGet, cx_w, bk_w, tDGet, tDisp, tPairs, tDNewK, cx_P]
    exact ⟨_, .tup ha, false, kit_ti, iteF q⟩
theorem ok_is_below (bi : Bi mg) (h_is_whole : Has P w K mg base 1 "is_whole" ["n"] spWh) (F : Fun K "is_below" "is_below" s_is_below f fd) : FnOk P w K mg base CX0 2 f fd ["n", "bound"] spBel := by
  refine F.ok sc_is_below (fun vs H Q E h => ?_) (fun cdv A outer s H vs Q E hr h => ?_)
  · obtain ⟨v, x, b, rfl, _⟩ := h
    rfl
  obtain ⟨v, x, b, rfl, hv, q⟩ := h
  refine ⟨_, (pss_one (ps_ret (pe_and (pe_callH h_is_whole (hr.mono (by omega)) rfl (pa_cons (pv 0) pa_nil)) (pe_one (pe_chain op_le op_lt pe_int (pv 0) (pv 1)))))), ?_⟩
  simp only [tSeq, tFor_eq, tLC_eq, iRng1, iRng2, iList, iTup, iStr, tIfS, tRet, tRetN, tNext, tAsg, gName, tVar, tC, tOp, rI0, rI, tTest, tB, rEq, rNe, tCall, tCons, tNil, tCB, tLst, tTup, tAnd, tOr, tNot, tAndV, tOrV, tNotV, tIf, tDrop, tSl, tPart, tNoPart, tChain, tUn, rU, L2.start, cx_K, bk_K, cx_calm, bk_calm, lenV_str, and_assoc, Option.join, List.length_map, List.length_append, decide_eq_true_eq, Bool.false_eq_true, if_false, if_true, Bool.not_true, Bool.not_false, Bool.not_eq_true', decide_eq_false_iff_not, Bool.true_eq_false, List.length_cons, List.length_nil, List.map_cons, List.map_nil, List.replicate, List.cons_append, List.nil_append, List.append_nil, List.getElem?_cons_zero, List.getElem?_cons_succ, List.set_cons_zero, List.set_cons_succ, Nat.reduceSub, Nat.reduceAdd, Option.some.injEq, V.int.injEq, V.str.injEq, V.bl.injEq, V.ref.injEq, List.cons.injEq, and_true, true_and, exists_eq_left', exists_eq_left, exists_and_left, exists_eq_right, exists_const, tBM, tBM0, rAppend, rPop, rIxL, rIxT, rIxS, rSlL, rSlT, rSlS, rCat, rCatT, tKGet, cx_w, bk_w, tDGet, tDisp, tPairs, tDNewK, cx_P, spWh]
  refine ⟨x, hv, ?_⟩
  cases x with
  | n i =>
    have e : v = .int i := hv
    subst e
    rw [show isN (.n i) = true from rfl, if_pos rfl]
    have q : Q (.bl (decide (0 ≤ i) && decide (i < b))) H := q
    refine ⟨i, rfl, ?_⟩
    split
    · rename_i h
      rw [decide_eq_true h, Bool.true_and] at q
      exact ⟨i, rfl, q⟩
    · rename_i h
      rw [decide_eq_false h, Bool.false_and] at q
      exact q
  | ps l =>
    rw [show isN (.ps l) = false from rfl, if_neg Bool.false_ne_true]
    exact q
end
end C
set_option Elab.async false
set_option linter.all false
set_option maxRecDepth 100000
set_option maxHeartbeats 8000000
namespace C
open PySem L2
seal PE PT PW PA PS PSs PG PGs PI PPs PO PSet PIf
theorem prAt {H : Hp} {p : Pr} {v : V} (h : DAt H (dPr p) v) : ∃ a, v = .ref a ∧ H a = some (.tup [.int p.1, .int p.2]) := by
  obtain ⟨a, vs, e1, e2, u1, r1, q1, h1, u2, r2, q2, h2, h3⟩ := h
  have h1 : u1 = .int p.1 := h1
  have h2 : u2 = .int p.2 := h2
  have h3 : r2 = [] := h3
  subst h3 q2 q1 h1 h2
  exact ⟨a, e1, e2⟩
section
variable {P : Program} {w : World} {K : PySem.W.Frag} {mg : Str → Option Value} {base : Heap} {f : Addr} {fd : FuncData}
end
end C
set_option Elab.async false
set_option linter.all false
set_option maxRecDepth 100000
set_option maxHeartbeats 8000000
namespace C
open PySem L2
seal PE PT PW PA PS PSs PG PGs PI PPs PO PSet PIf
theorem nrAt {H : Hp} {r : NRul} {v : V} (h : DAt H (dNR r) v) : ∃ a l b us, v = .ref a ∧ H a = some (.tup [.ref l, .ref b]) ∧ H l = some (.lst us) ∧ DAts H (r.1.map dPr) us ∧ H b = some (.tup [.int r.2.1, .int r.2.2]) := by
  obtain ⟨a, vs, e1, e2, u1, r1, q1, ⟨l, us, g1, g2, g3⟩, u2, r2, q2, h2, h3⟩ := h
  obtain ⟨b, g4, g5⟩ := prAt h2
  have h3 : r2 = [] := h3
  subst h3 q2 q1 g1 g4
  exact ⟨a, l, b, us, e1, e2, g2, g3, g5⟩
theorem rul_eq {rules : List NRul} {ls : List Ln} {k : Nat} {l : Ln} {r : Int} {ps : List Int} (h : l.as = [.n r, .ps ps]) : ruleStep rules ls k l = if 0 ≤ r ∧ r < rules.length then (match rules[r.toNat]? with | some q => (l.i, l.j) == q.2 && (ps.map fun p => said ls k (.n p)) == q.1.map some | none => false) else false := by
  unfold ruleStep
  rw [h] <;> rfl
section
variable {P : Program} {w : World} {K : PySem.W.Frag} {mg : Str → Option Value} {base : Heap} {f : Addr} {fd : FuncData}
end
end C
set_option Elab.async false
set_option linter.all false
set_option maxRecDepth 100000
set_option maxHeartbeats 8000000
namespace C
open PySem L2
seal PE PT PW PA PS PSs PG PGs PI PPs PO PSet PIf
abbrev s_law_turned : Stmt := top 19
theorem sc_law_turned : FnScope ["n"] ["n"] (defScope s_law_turned) := ⟨rfl, rfl, rfl, by decide +kernel, rfl, by decide +kernel, by decide +kernel⟩
def spTurned : Sp := fun vs H Q _ => ∃ n : Int, vs = [.int n] ∧ Q (.int (tn1 n)) H
section
variable {P : Program} {w : World} {K : PySem.W.Frag} {mg : Str → Option Value} {base : Heap} {f : Addr} {fd : FuncData}
theorem ok_turned (bi : Bi mg) (F : Fun K "_law_turned" "_law_turned" s_law_turned f fd) : FnOk P w K mg base CX0 1 f fd ["n"] spTurned := by
  refine F.ok sc_law_turned (fun vs H Q E h => ?_) (fun cdv A outer s H vs Q E hr h => ?_)
  · obtain ⟨n, rfl, _⟩ := h
    rfl
  obtain ⟨n, rfl, q⟩ := h
  refine ⟨_, (pss_one (ps_ret (pe_op op_sub (pe_op op_add (pv 0) pe_int) (pe_op op_mul pe_int (pe_op op_mod (pv 0) pe_int))))), ?_⟩
  simp only [tSeq, tFor_eq, tLC_eq, iRng1, iRng2, iList, iTup, iStr, tIfS, tRet, tRetN, tNext, tAsg, gName, tVar, tC, tOp, rI0, rI, tTest, tB, rEq, rNe, tCall, tCons, tNil, tCB, tLst, tTup, tAnd, tOr, tNot, tAndV, tOrV, tNotV, tIf, tDrop, tSl, tPart, tNoPart, tChain, tUn, rU, L2.start, cx_K, bk_K, cx_calm, bk_calm, lenV_str, and_assoc, Option.join, List.length_map, List.length_append, decide_eq_true_eq, Bool.false_eq_true, if_false, if_true, Bool.not_true, Bool.not_false, Bool.not_eq_true', decide_eq_false_iff_not, Bool.true_eq_false, List.length_cons, List.length_nil, List.map_cons, List.map_nil, List.replicate, List.cons_append, List.nil_append, List.append_nil, List.getElem?_cons_zero, List.getElem?_cons_succ, List.set_cons_zero, List.set_cons_succ, Nat.reduceSub, Nat.reduceAdd, Option.some.injEq, V.int.injEq, V.str.injEq, V.bl.injEq, V.ref.injEq, List.cons.injEq, and_true, true_and, exists_eq_left', exists_eq_left, exists_and_left, exists_eq_right, exists_const, tBM, tBM0, rAppend, rPop, rIxL, rIxT, rIxS, rSlL, rSlT, rSlS, rCat, rCatT, tKGet, cx_w, bk_w, tDGet, tDisp, tPairs, tDNewK, cx_P]
  exact ⟨by decide, .inl ⟨by decide, by decide⟩, q⟩
end
end C
set_option Elab.async false
set_option linter.all false
set_option maxRecDepth 100000
set_option maxHeartbeats 8000000
namespace C
open PySem L2
seal PE PT PW PA PS PSs PG PGs PI PPs PO PSet PIf
end C
set_option Elab.async false
set_option linter.all false
set_option maxRecDepth 100000
set_option maxHeartbeats 8000000
namespace C
open PySem L2
seal PE PT PW PA PS PSs PG PGs PI PPs PO PSet PIf
section
variable {P : Program} {w : World} {K : PySem.W.Frag} {mg : Str → Option Value} {base : Heap} {f : Addr} {fd : FuncData}
end
end C
set_option Elab.async false
set_option linter.all false
set_option maxRecDepth 100000
set_option maxHeartbeats 8000000
namespace C
open PySem L2
seal PE PT PW PA PS PSs PG PGs PI PPs PO PSet PIf
abbrev s_law_name_by : Stmt := top 18
theorem sc_law_name_by : FnScope ["cell", "size", "letters", "made", "rest", "k"] ["cell", "size"] (defScope s_law_name_by) := ⟨rfl, rfl, rfl, by decide +kernel, rfl, by decide +kernel, by decide +kernel⟩
abbrev s_law_sheet_and_rules : Stmt := top 20
theorem sc_law_sheet_and_rules : FnScope ["script", "most", "many", "rows", "rules", "raw", "cell", "top", "one", "other", "row"] ["script", "most", "many"] (defScope s_law_sheet_and_rules) := ⟨rfl, rfl, rfl, by decide +kernel, rfl, by decide +kernel, by decide +kernel⟩
def spName : Sp := fun vs H Q _ => ∃ c n : Int, vs = [.int c, .int n] ∧ ∀ x : Str, Nm x → Q (.str x) H
theorem p1018 : (0 : Int) < 10 ^ Int.toNat 18 := by show (0 : Int) < 10 ^ 18; simp
structure RC where
  o : Addr
  l : Addr
  t : Addr
  ps : List Pr
  q : Pr
def RcOk (H : Hp) (c : RC) : Prop := H c.o = some (.lst [.ref c.l, .ref c.t]) ∧ (∃ us, H c.l = some (.lst us) ∧ DAts H (c.ps.map dPr) us) ∧ H c.t = some (.tup [.int c.q.1, .int c.q.2])
theorem RcOk.same {H H' : Hp} {c : RC} (e : Same H H') (h : RcOk H c) : RcOk H' c := by
  obtain ⟨h1, ⟨us, h2, h3⟩, h4⟩ := h
  exact ⟨e _ _ h1, ⟨us, e _ _ h2, DAts.same e h3⟩, e _ _ h4⟩
theorem prs_tups {H H' : Hp} (e : TupSame H H') : ∀ {ps : List Pr} {us : List V}, DAts H (ps.map dPr) us → DAts H' (ps.map dPr) us
  | [], us, h => h
  | p :: ps, us, h => by
    obtain ⟨v, r, e1, e2, e3⟩ := h
    obtain ⟨a, g1, g2⟩ := prAt e2
    exact ⟨v, r, e1, ⟨a, _, g1, e _ _ g2, _, _, rfl, rfl, _, _, rfl, rfl, rfl⟩, prs_tups e e3⟩
theorem rws_tups {H H' : Hp} (e : TupSame H H') : ∀ {rs : List Rw} {us : List V}, RwAts H rs us → RwAts H' rs us
  | [], us, h => h
  | r :: rs, us, h => by
    obtain ⟨v, q, e1, e2, e3⟩ := h
    refine ⟨v, q, e1, ?_, rws_tups e e3⟩
    obtain ⟨a, x, vs, g1, g2, g3⟩ := RwAt.out e2
    cases r with
    | no => obtain ⟨rfl, rfl⟩ := g3; exact ⟨a, _, g1, e _ _ g2, _, _, rfl, rfl, rfl⟩
    | nm y => obtain ⟨rfl, rfl⟩ := g3; exact ⟨a, _, g1, e _ _ g2, _, _, rfl, rfl, _, _, rfl, rfl, rfl⟩
    | bo i j => obtain ⟨rfl, rfl⟩ := g3; exact ⟨a, _, g1, e _ _ g2, _, _, rfl, rfl, _, _, rfl, rfl, _, _, rfl, rfl, rfl⟩
theorem RcOk.put {H : Hp} {c : RC} {a : Addr} {zs xs : List V} (h : RcOk H c) (ha : H a = some (.lst xs)) (n1 : c.o ≠ a) (n2 : c.l ≠ a) : RcOk (upd H a (.lst zs)) c := by
  have tu : TupSame H (upd H a (.lst zs)) := (TupSame.refl _).upd_lst ha
  obtain ⟨h1, ⟨us, h2, h3⟩, h4⟩ := h
  exact ⟨by rw [upd_ne n1]; exact h1, ⟨us, by rw [upd_ne n2]; exact h2, prs_tups tu h3⟩, tu _ _ h4⟩
def RowsIn (rows : List Rw) : Prop := ∀ (k : Nat) (i j : Int), rows[k]? = some (.bo i j) → (0 ≤ i ∧ i < 2 * (k : Int)) ∧ 0 ≤ j ∧ j < 2 * (k : Int)
def RowB (r : Rw) (n : Int) : Prop := ∀ i j, r = .bo i j → (0 ≤ i ∧ i < n) ∧ 0 ≤ j ∧ j < n
theorem RowsIn.put {rows : List Rw} {r : Rw} (h : RowsIn rows) (hr : RowB r (2 * (rows.length : Int))) : RowsIn (rows ++ [r]) := fun k i j hk => by
  by_cases hl : k < rows.length
  · rw [List.getElem?_append_left hl] at hk
    exact h k i j hk
  · have h2 := (List.getElem?_eq_some_iff.mp hk).1
    rw [List.length_append, List.length_singleton] at h2
    have e : k = rows.length := by omega
    subst e
    rw [List.getElem?_append_right (Nat.le_refl _), Nat.sub_self] at hk
    have e : r = .bo i j := by simpa using hk
    exact hr i j e
structure SRI (H : Hp) (pc : Addr) (zs : List V) (i : Nat) (H' : Hp) (ra rb : Addr) (us : List V) (rows : List Rw) (rs : List RC) : Prop where
  same : Same H H'
  na : H ra = none
  nb : H rb = none
  ne : ra ≠ rb
  pk : H' pc = some (.lst zs)
  pn : pc ≠ ra ∧ pc ≠ rb ∧ ∀ c ∈ rs, pc ≠ c.o ∧ pc ≠ c.l
  rw : H' ra = some (.lst us)
  rws : RwAts H' rows us
  r1 : 1 ≤ rows.length
  r2 : rows.length ≤ i + 1
  rbd : RowsIn rows
  ru : H' rb = some (.lst (rs.map fun c => V.ref c.o))
  ok : ∀ c ∈ rs, RcOk H' c
  fr : ∀ c ∈ rs, H c.o = none ∧ H c.l = none ∧ c.o ≠ ra ∧ c.o ≠ rb ∧ c.l ≠ ra ∧ c.l ≠ rb
  nd : (rs.map RC.l).Nodup
  ol : ∀ c ∈ rs, ∀ c' ∈ rs, c.o ≠ c'.l
  s1 : rs.length ≤ i
  s2 : ∀ c ∈ rs, c.ps.length ≤ i
  qb : ∀ c ∈ rs, (0 ≤ c.q.1 ∧ c.q.1 < 2 * (rows.length : Int)) ∧ (0 ≤ c.q.2 ∧ c.q.2 < 2 * (rows.length : Int))
theorem fit_rw (n : Nat) (r : Rw) : DFit (n + 1) (dRw r) := by
  cases r with
  | no => exact ⟨by simp, fun d hd => by simp at hd; subst hd; cases n <;> trivial⟩
  | nm x => exact ⟨by simp, fun d hd => by simp at hd; rcases hd with rfl | rfl <;> (cases n <;> trivial)⟩
  | bo i j => exact ⟨by simp, fun d hd => by simp at hd; rcases hd with rfl | rfl | rfl <;> (cases n <;> trivial)⟩
theorem SRI.go {H : Hp} {pc : Addr} {zs : List V} {i : Nat} {H' H'' : Hp} {ra rb : Addr} {us : List V} {rows : List Rw} {rs : List RC} (S : SRI H pc zs i H' ra rb us rows rs) (e : Same H' H'') : SRI H pc zs i H'' ra rb us rows rs :=
  { S with same := S.same.trans e, pk := e _ _ S.pk, rw := e _ _ S.rw, rws := DAts.same e S.rws, ru := e _ _ S.ru, ok := fun c hc => (S.ok c hc).same e }
theorem SRI.up {H : Hp} {pc : Addr} {zs : List V} {i : Nat} {H' : Hp} {ra rb : Addr} {us : List V} {rows : List Rw} {rs : List RC} (S : SRI H pc zs i H' ra rb us rows rs) : SRI H pc zs (i + 1) H' ra rb us rows rs :=
  { S with r2 := Nat.le_succ_of_le S.r2, s1 := Nat.le_succ_of_le S.s1, s2 := fun c hc => Nat.le_succ_of_le (S.s2 c hc) }
theorem SRI.rowPut {H : Hp} {pc : Addr} {zs : List V} {i : Nat} {H' : Hp} {ra rb : Addr} {us : List V} {rows : List Rw} {rs : List RC} {r : Rw} {rv : V} (S : SRI H pc zs i H' ra rb us rows rs) (hr : DAt H' (dRw r) rv) (hrb : RowB r (2 * (rows.length : Int))) :
    SRI H pc zs (i + 1) (upd H' ra (.lst (us ++ [rv]))) ra rb (us ++ [rv]) (rows ++ [r]) rs := by
  have tu : TupSame H' (upd H' ra (.lst (us ++ [rv]))) := (TupSame.refl _).upd_lst S.rw
  refine { S with same := S.same.upd S.na, pk := by rw [upd_ne S.pn.1]; exact S.pk, rw := upd_same, rws := ?_, r1 := by simp, r2 := by have := S.r2; simp; omega, rbd := S.rbd.put hrb, ru := by rw [upd_ne (Ne.symm S.ne)]; exact S.ru, ok := fun c hc => (S.ok c hc).put S.rw (S.fr c hc).2.2.1 (S.fr c hc).2.2.2.2.1, s1 := Nat.le_succ_of_le S.s1, s2 := fun c hc => Nat.le_succ_of_le (S.s2 c hc), qb := fun c hc => by have := S.qb c hc; rw [List.length_append, List.length_singleton]; omega }
  unfold RwAts
  rw [List.map_append]
  exact DAts.append (rws_tups tu S.rws) (rws_tups tu (DAts.one hr : RwAts H' [r] [rv]))
theorem SRI.rulePut {H : Hp} {pc : Addr} {zs : List V} {i : Nat} {H' H'' : Hp} {ra rb : Addr} {us : List V} {rows : List Rw} {rs : List RC} {o l t : Addr} {q : Pr} (S : SRI H pc zs i H' ra rb us rows rs) (e : Same H' H'') (no : H' o = none) (nl : H' l = none) (ne : o ≠ l) (ho : H'' o = some (.lst [.ref l, .ref t])) (hl : H'' l = some (.lst [])) (ht : H'' t = some (.tup [.int q.1, .int q.2])) (hqb : (0 ≤ q.1 ∧ q.1 < 2 * (rows.length : Int)) ∧ (0 ≤ q.2 ∧ q.2 < 2 * (rows.length : Int))) :
    SRI H pc zs (i + 1) (upd H'' rb (.lst ((rs.map fun c => V.ref c.o) ++ [.ref o]))) ra rb us rows (rs ++ [⟨o, l, t, [], q⟩]) := by
  have S2 := S.go e
  have tu : TupSame H'' (upd H'' rb (.lst ((rs.map fun c => V.ref c.o) ++ [.ref o]))) := (TupSame.refl _).upd_lst S2.ru
  have obr : o ≠ rb := fun z => by rw [z, S.ru] at no; cases no
  have lbr : l ≠ rb := fun z => by rw [z, S.ru] at nl; cases nl
  have new : RcOk (upd H'' rb (.lst ((rs.map fun c => V.ref c.o) ++ [.ref o]))) ⟨o, l, t, [], q⟩ := RcOk.put ⟨ho, ⟨[], hl, rfl⟩, ht⟩ S2.ru obr lbr
  have fo : ∀ {c : RC}, c ∈ rs → c.o ≠ o ∧ c.l ≠ l ∧ c.o ≠ l ∧ c.l ≠ o := fun {c} hc => by
    obtain ⟨h1, ⟨uu, h2, _⟩, _⟩ := S.ok c hc
    refine ⟨fun z => ?_, fun z => ?_, fun z => ?_, fun z => ?_⟩
    · rw [z, no] at h1; cases h1
    · rw [z, nl] at h2; cases h2
    · rw [z, nl] at h1; cases h1
    · rw [z, no] at h2; cases h2
  exact { S2 with
    same := S2.same.upd S.nb
    pk := by rw [upd_ne S.pn.2.1]; exact S2.pk
    pn := ⟨S.pn.1, S.pn.2.1, fun c hc => by
      rcases List.mem_append.mp hc with hc | hc
      · exact S.pn.2.2 c hc
      · rw [List.mem_singleton.mp hc]
        exact ⟨fun z => (by have z : pc = o := z; rw [← z, S.pk] at no; cases no), fun z => (by have z : pc = l := z; rw [← z, S.pk] at nl; cases nl)⟩⟩
    rw := by rw [upd_ne S.ne]; exact S2.rw
    rws := rws_tups tu S2.rws
    r2 := Nat.le_succ_of_le S.r2
    ru := by rw [upd_same, List.map_append]; rfl
    ok := fun c hc => by
      rcases List.mem_append.mp hc with hc | hc
      · exact (S2.ok c hc).put S2.ru (S.fr c hc).2.2.2.1 (S.fr c hc).2.2.2.2.2
      · rw [List.mem_singleton.mp hc]; exact new
    fr := fun c hc => by
      rcases List.mem_append.mp hc with hc | hc
      · exact S.fr c hc
      · rw [List.mem_singleton.mp hc]
        exact ⟨S.same.free no, S.same.free nl, fun z => (by have z : o = ra := z; rw [z, S.rw] at no; cases no), obr, fun z => (by have z : l = ra := z; rw [z, S.rw] at nl; cases nl), lbr⟩
    nd := by
      rw [List.map_append]
      refine List.nodup_append.mpr ⟨S.nd, by simp, fun a ha b hb => ?_⟩
      obtain ⟨c, hc, rfl⟩ := List.mem_map.mp ha
      simp at hb
      rw [hb]
      exact (fo hc).2.1
    ol := fun c hc c' hc' => by
      rcases List.mem_append.mp hc with hc | hc <;> rcases List.mem_append.mp hc' with hc' | hc'
      · exact S.ol c hc c' hc'
      · rw [List.mem_singleton.mp hc']; exact (fo hc).2.2.1
      · rw [List.mem_singleton.mp hc]; exact (fo hc').2.2.2.symm
      · rw [List.mem_singleton.mp hc, List.mem_singleton.mp hc']; exact ne
    s1 := by have := S.s1; simp; omega
    s2 := fun c hc => by
      rcases List.mem_append.mp hc with hc | hc
      · exact Nat.le_succ_of_le (S.s2 c hc)
      · rw [List.mem_singleton.mp hc]; exact Nat.zero_le _
    qb := fun c hc => by
      rcases List.mem_append.mp hc with hc | hc
      · exact S.qb c hc
      · rw [List.mem_singleton.mp hc]; exact hqb }
theorem SRI.premPut {H : Hp} {pc : Addr} {zs : List V} {i : Nat} {H' : Hp} {ra rb : Addr} {us : List V} {rows : List Rw} {rs : List RC} {c : RC} {uc : List V} {p : Addr} {q : Pr} (S : SRI H pc zs i H' ra rb us rows (rs ++ [c])) (hl : H' c.l = some (.lst uc)) (hp : H' p = some (.tup [.int q.1, .int q.2])) :
    SRI H pc zs (i + 1) (upd H' c.l (.lst (uc ++ [.ref p]))) ra rb us rows (rs ++ [{ c with ps := c.ps ++ [q] }]) := by
  have tu : TupSame H' (upd H' c.l (.lst (uc ++ [.ref p]))) := (TupSame.refl _).upd_lst hl
  have mc : c ∈ rs ++ [c] := by simp
  have fc := S.fr c mc
  have old : ∀ c' ∈ rs, c' ∈ rs ++ [c] := fun c' h => List.mem_append_left _ h
  have nd := S.nd
  rw [List.map_append] at nd
  have ndl : ∀ c' ∈ rs, c'.l ≠ c.l := fun c' h => (List.nodup_append.mp nd).2.2 _ (List.mem_map.mpr ⟨c', h, rfl⟩) _ (by simp)
  have case : ∀ {R : RC → Prop}, (∀ c' ∈ rs, R c') → R { c with ps := c.ps ++ [q] } → ∀ c' ∈ rs ++ [{ c with ps := c.ps ++ [q] }], R c' := fun a b c' h => by
    rcases List.mem_append.mp h with h | h
    · exact a c' h
    · rw [List.mem_singleton.mp h]; exact b
  exact { S with
    same := S.same.upd fc.2.1
    pk := by rw [upd_ne (S.pn.2.2 c mc).2]; exact S.pk
    pn := ⟨S.pn.1, S.pn.2.1, case (fun c' h => S.pn.2.2 c' (old c' h)) (S.pn.2.2 c mc)⟩
    rw := by rw [upd_ne (Ne.symm fc.2.2.2.2.1)]; exact S.rw
    rws := rws_tups tu S.rws
    r2 := Nat.le_succ_of_le S.r2
    ru := by rw [upd_ne (Ne.symm fc.2.2.2.2.2)]; have := S.ru; rw [List.map_append] at this ⊢; exact this
    ok := case (fun c' h => (S.ok c' (old c' h)).put hl (S.ol c' (old c' h) c mc) (ndl c' h)) (by
      obtain ⟨h1, ⟨uu, h2, h3⟩, h4⟩ := S.ok c mc
      rw [hl] at h2
      cases h2
      refine ⟨by rw [upd_ne (S.ol c mc c mc)]; exact h1, ⟨_, upd_same, ?_⟩, tu _ _ h4⟩
      rw [List.map_append]
      exact DAts.append (prs_tups tu h3) (DAts.one ⟨p, _, rfl, tu _ _ hp, _, _, rfl, rfl, _, _, rfl, rfl, rfl⟩))
    fr := case (fun c' h => S.fr c' (old c' h)) fc
    nd := by rw [List.map_append]; exact nd
    ol := case (fun c' h => case (fun c'' h2 => S.ol c' (old c' h) c'' (old c'' h2)) (S.ol c' (old c' h) c mc)) (case (fun c'' h2 => S.ol c mc c'' (old c'' h2)) (S.ol c mc c mc))
    s1 := by have := S.s1; simp at this ⊢; omega
    s2 := case (fun c' h => Nat.le_succ_of_le (S.s2 c' (old c' h))) (by have := S.s2 c mc; simp; omega)
    qb := case (fun c' h => S.qb c' (old c' h)) (S.qb c mc) }
def spSR (K : PySem.W.Frag) : Sp := fun vs H Q _ => ∃ (sa : Addr) (ns : List Int) (m n : Int), vs = [.ref sa, .int m, .int n] ∧ SqL K H sa (ns.map V.int) ∧ ns.length ≤ 63 ∧
  ∀ (p ra rb : Addr) (us ws : List V) (rows : List Rw) (rules : List NRul) H', Same H H' → H' p = some (.tup [.ref ra, .ref rb]) → H' ra = some (.lst us) → RwAts H' rows us → H' rb = some (.lst ws) → DAts H' (rules.map dNR) ws → 1 ≤ rows.length → rows.length ≤ 100 → rules.length ≤ 100 → (∀ r ∈ rules, r.1.length ≤ 100) → RowsIn rows → (∀ r ∈ rules, (0 ≤ r.2.1 ∧ r.2.1 < 2 * (rows.length : Int)) ∧ (0 ≤ r.2.2 ∧ r.2.2 < 2 * (rows.length : Int))) → Q (.ref p) H'
section
variable {P : Program} {w : World} {K : PySem.W.Frag} {mg : Str → Option Value} {base : Heap} {f : Addr} {fd : FuncData}
theorem letter_at (c : Int) : ∃ d : Nat, atI ("abcdefghijklmnopqrstuvwxyz" : Str).cps.toList (c % 26) = some d ∧ 97 ≤ d ∧ d ≤ 122 := by
  have h : ∀ k : Fin 26, ∃ d : Nat, ("abcdefghijklmnopqrstuvwxyz" : Str).cps.toList[k.val]? = some d ∧ 97 ≤ d ∧ d ≤ 122 := by decide +kernel
  have h1 : 0 ≤ c % 26 := Int.emod_nonneg _ (by omega)
  have h2 : c % 26 < 26 := Int.emod_lt_of_pos _ (by omega)
  have e : c % 26 = ((c % 26).toNat : Nat) := by omega
  obtain ⟨d, h3, h4⟩ := h ⟨(c % 26).toNat, by omega⟩
  refine ⟨d, ?_, h4⟩
  rw [e]
  exact atI_nat h3
theorem ok_name (bi : Bi mg) (F : Fun K "_law_name_by" "_law_name_by" s_law_name_by f fd) : FnOk P w K mg base CX0 1 f fd ["cell", "size"] spName := by
  refine F.ok sc_law_name_by (fun vs H Q E h => ?_) (fun cdv A outer s H vs Q E hr h => ?_)
  · obtain ⟨c, n, rfl, _⟩ := h
    rfl
  obtain ⟨c, n, rfl, q⟩ := h
  refine ⟨_, (pss_cons (ps_set (i := 2) sc_law_name_by.nd rfl (Or.inl rfl) pe_str) (pss_cons (ps_set (i := 3) sc_law_name_by.nd rfl (Or.inl rfl) pe_str) (pss_cons (ps_set (i := 4) sc_law_name_by.nd rfl (Or.inl rfl) (pe_op op_mod (pv 0) (pe_op op_pow pe_int pe_int))) (pss_cons (ps_for PassesOwn.never rfl (pi_range1 rfl bi.range (pa_cons (pe_op op_add pe_int (pe_op op_mod (pv 1) pe_int)) pa_nil)) (pg_name (i := 5) sc_law_name_by.nd rfl (Or.inl rfl)) (pss_cons (ps_set (i := 3) sc_law_name_by.nd rfl (Or.inl rfl) (pe_op op_add_str (pv 3) (pe_ix ix_str (pv 2) (pe_op op_mod (pv 4) pe_int) (fun _ _ => rfl)))) (pss_one (ps_set (i := 4) sc_law_name_by.nd rfl (Or.inl rfl) (pe_op op_fdiv (pv 4) pe_int))))) (pss_cons (ps_if (PW.pt (pw_or (pt_cmpR op_eq (pv 3) pe_str (nomark _)) (pw_or1 (pt_cmpR op_eq (pv 3) pe_str (nomark _))))) (pss_one (ps_set (i := 3) sc_law_name_by.nd rfl (Or.inl rfl) (pe_op op_add_str (pv 3) pe_str))) pss_nil) (pss_one (ps_ret (pv 3)))))))), ?_⟩
  refine seq_abs fun N hN => ?_
  simp only [tSeq, tFor_eq, tLC_eq, iRng1, iRng2, iList, iTup, iStr, tIfS, tRet, tRetN, tNext, tAsg, gName, tVar, tC, tOp, rI0, rI, tTest, tB, rEq, rNe, tCall, tCons, tNil, tCB, tLst, tTup, tAnd, tOr, tNot, tAndV, tOrV, tNotV, tIf, tDrop, tSl, tPart, tNoPart, tChain, tUn, rU, L2.start, cx_K, bk_K, cx_calm, bk_calm, lenV_str, and_assoc, Option.join, List.length_map, List.length_append, decide_eq_true_eq, Bool.false_eq_true, if_false, if_true, Bool.not_true, Bool.not_false, Bool.not_eq_true', decide_eq_false_iff_not, Bool.true_eq_false, List.length_cons, List.length_nil, List.map_cons, List.map_nil, List.replicate, List.cons_append, List.nil_append, List.append_nil, List.getElem?_cons_zero, List.getElem?_cons_succ, List.set_cons_zero, List.set_cons_succ, Nat.reduceSub, Nat.reduceAdd, Option.some.injEq, V.int.injEq, V.str.injEq, V.bl.injEq, V.ref.injEq, List.cons.injEq, and_true, true_and, exists_eq_left', exists_eq_left, exists_and_left, exists_eq_right, exists_const]
  refine hN _ _ ?_
  refine seq_abs fun N hN => ?_
  simp only [tSeq, tFor_eq, tLC_eq, iRng1, iRng2, iList, iTup, iStr, tIfS, tRet, tRetN, tNext, tAsg, gName, tVar, tC, tOp, rI0, rI, tTest, tB, rEq, rNe, tCall, tCons, tNil, tCB, tLst, tTup, tAnd, tOr, tNot, tAndV, tOrV, tNotV, tIf, tDrop, tSl, tPart, tNoPart, tChain, tUn, rU, L2.start, cx_K, bk_K, cx_calm, bk_calm, lenV_str, and_assoc, Option.join, List.length_map, List.length_append, decide_eq_true_eq, Bool.false_eq_true, if_false, if_true, Bool.not_true, Bool.not_false, Bool.not_eq_true', decide_eq_false_iff_not, Bool.true_eq_false, List.length_cons, List.length_nil, List.map_cons, List.map_nil, List.replicate, List.cons_append, List.nil_append, List.append_nil, List.getElem?_cons_zero, List.getElem?_cons_succ, List.set_cons_zero, List.set_cons_succ, Nat.reduceSub, Nat.reduceAdd, Option.some.injEq, V.int.injEq, V.str.injEq, V.bl.injEq, V.ref.injEq, List.cons.injEq, and_true, true_and, exists_eq_left', exists_eq_left, exists_and_left, exists_eq_right, exists_const]
  refine hN _ _ ?_
  refine seq_abs fun N hN => ?_
  simp only [tSeq, tFor_eq, tLC_eq, iRng1, iRng2, iList, iTup, iStr, tIfS, tRet, tRetN, tNext, tAsg, gName, tVar, tC, tOp, rI0, rI, tTest, tB, rEq, rNe, tCall, tCons, tNil, tCB, tLst, tTup, tAnd, tOr, tNot, tAndV, tOrV, tNotV, tIf, tDrop, tSl, tPart, tNoPart, tChain, tUn, rU, L2.start, cx_K, bk_K, cx_calm, bk_calm, lenV_str, and_assoc, Option.join, List.length_map, List.length_append, decide_eq_true_eq, Bool.false_eq_true, if_false, if_true, Bool.not_true, Bool.not_false, Bool.not_eq_true', decide_eq_false_iff_not, Bool.true_eq_false, List.length_cons, List.length_nil, List.map_cons, List.map_nil, List.replicate, List.cons_append, List.nil_append, List.append_nil, List.getElem?_cons_zero, List.getElem?_cons_succ, List.set_cons_zero, List.set_cons_succ, Nat.reduceSub, Nat.reduceAdd, Option.some.injEq, V.int.injEq, V.str.injEq, V.bl.injEq, V.ref.injEq, List.cons.injEq, and_true, true_and, exists_eq_left', exists_eq_left, exists_and_left, exists_eq_right, exists_const]
  refine ⟨⟨by decide, by decide, by decide⟩, by decide, hN _ _ ?_⟩
  generalize c % 26 ^ Int.toNat 8 = r0
  have hm : 0 ≤ n % 8 ∧ n % 8 < 8 := by omega
  have e0 : ("" : Str).cps.toList = [] := by decide +kernel
  refine seq_join (fun σ H' => H' = H ∧ ∃ (z : Str) (a b : Option V), z.length = 1 + (n % 8).toNat ∧ (∀ d ∈ z.cps.toList, 97 ≤ d ∧ d ≤ 122) ∧ σ = [some (V.int c), some (V.int n), some (V.str "abcdefghijklmnopqrstuvwxyz"), some (V.str z), a, b]) (fun N hN => ?_) (fun σ H' h => ?_)
  · simp only [tSeq, tFor_eq, tLC_eq, iRng1, iRng2, iList, iTup, iStr, tIfS, tRet, tRetN, tNext, tAsg, gName, tVar, tC, tOp, rI0, rI, tTest, tB, rEq, rNe, tCall, tCons, tNil, tCB, tLst, tTup, tAnd, tOr, tNot, tAndV, tOrV, tNotV, tIf, tDrop, tSl, tPart, tNoPart, tChain, tUn, rU, L2.start, cx_K, bk_K, cx_calm, bk_calm, lenV_str, and_assoc, Option.join, List.length_map, List.length_append, decide_eq_true_eq, Bool.false_eq_true, if_false, if_true, Bool.not_true, Bool.not_false, Bool.not_eq_true', decide_eq_false_iff_not, Bool.true_eq_false, List.length_cons, List.length_nil, List.map_cons, List.map_nil, List.replicate, List.cons_append, List.nil_append, List.append_nil, List.getElem?_cons_zero, List.getElem?_cons_succ, List.set_cons_zero, List.set_cons_succ, Nat.reduceSub, Nat.reduceAdd, Option.some.injEq, V.int.injEq, V.str.injEq, V.bl.injEq, V.ref.injEq, List.cons.injEq, and_true, true_and, exists_eq_left', exists_eq_left, exists_and_left, exists_eq_right, exists_const]
    refine ⟨by decide, by omega, by omega, fw_range (n := (1 + n % 8).toNat) (fun i σ H' => H' = H ∧ ∃ (z : Str) (r : Int) (o : Option V), z.length = i ∧ (∀ d ∈ z.cps.toList, 97 ≤ d ∧ d ≤ 122) ∧ σ = [some (V.int c), some (V.int n), some (V.str "abcdefghijklmnopqrstuvwxyz"), some (V.str z), some (V.int r), o])
      ⟨rfl, _, _, _, rfl, (fun d hd => by rw [e0] at hd; cases hd), rfl⟩ (fun i σ H' hi e => ?_) (fun σ H' e => ?_)⟩
    · obtain ⟨rfl, z, r, o, hz, hl, rfl⟩ := e
      obtain ⟨d, hd, hd2⟩ := letter_at r
      simp only [tSeq, tFor_eq, tLC_eq, iRng1, iRng2, iList, iTup, iStr, tIfS, tRet, tRetN, tNext, tAsg, gName, tVar, tC, tOp, rI0, rI, tTest, tB, rEq, rNe, tCall, tCons, tNil, tCB, tLst, tTup, tAnd, tOr, tNot, tAndV, tOrV, tNotV, tIf, tDrop, tSl, tPart, tNoPart, tChain, tUn, rU, L2.start, cx_K, bk_K, cx_calm, bk_calm, lenV_str, and_assoc, Option.join, List.length_map, List.length_append, decide_eq_true_eq, Bool.false_eq_true, if_false, if_true, Bool.not_true, Bool.not_false, Bool.not_eq_true', decide_eq_false_iff_not, Bool.true_eq_false, List.length_cons, List.length_nil, List.map_cons, List.map_nil, List.replicate, List.cons_append, List.nil_append, List.append_nil, List.getElem?_cons_zero, List.getElem?_cons_succ, List.set_cons_zero, List.set_cons_succ, Nat.reduceSub, Nat.reduceAdd, Option.some.injEq, V.int.injEq, V.str.injEq, V.bl.injEq, V.ref.injEq, List.cons.injEq, and_true, true_and, exists_eq_left', exists_eq_left, exists_and_left, exists_eq_right, exists_const]
      refine ⟨by decide, _, _, d, rfl, rfl, small (by decide +kernel), hd, ?_⟩
      have e1 : (⟨#[d]⟩ : Str).length = 1 := rfl
      refine ⟨_, rfl, small (by omega), ⟨by decide, by decide⟩, rfl, _, ?_, ?_, rfl, _, rfl⟩
      · rw [len_app, hz, e1]
      · intro d' hd'
        rw [cps_app] at hd'
        rcases List.mem_append.mp hd' with h | h
        · exact hl d' h
        · have h : d' ∈ [d] := h
          rw [List.mem_singleton.mp h]
          exact hd2
    · obtain ⟨rfl, z, r, o, hz, hl, rfl⟩ := e
      exact hN _ _ ⟨rfl, z, _, _, by omega, hl, rfl⟩
  · obtain ⟨rfl, z, a, b, hz, hl, rfl⟩ := h
    refine seq_join (fun σ H'' => H'' = H' ∧ ∃ (z : Str) (a b : Option V), Nm z ∧ σ = [some (V.int c), some (V.int n), some (V.str "abcdefghijklmnopqrstuvwxyz"), some (V.str z), a, b]) (fun N hN => ?_) (fun σ H'' h => ?_)
    · simp only [tSeq, tFor_eq, tLC_eq, iRng1, iRng2, iList, iTup, iStr, tIfS, tRet, tRetN, tNext, tAsg, gName, tVar, tC, tOp, rI0, rI, tTest, tB, rEq, rNe, tCall, tCons, tNil, tCB, tLst, tTup, tAnd, tOr, tNot, tAndV, tOrV, tNotV, tIf, tDrop, tSl, tPart, tNoPart, tChain, tUn, rU, L2.start, cx_K, bk_K, cx_calm, bk_calm, lenV_str, and_assoc, Option.join, List.length_map, List.length_append, decide_eq_true_eq, Bool.false_eq_true, if_false, if_true, Bool.not_true, Bool.not_false, Bool.not_eq_true', decide_eq_false_iff_not, Bool.true_eq_false, List.length_cons, List.length_nil, List.map_cons, List.map_nil, List.replicate, List.cons_append, List.nil_append, List.append_nil, List.getElem?_cons_zero, List.getElem?_cons_succ, List.set_cons_zero, List.set_cons_succ, Nat.reduceSub, Nat.reduceAdd, Option.some.injEq, V.int.injEq, V.str.injEq, V.bl.injEq, V.ref.injEq, List.cons.injEq, and_true, true_and, exists_eq_left', exists_eq_left, exists_and_left, exists_eq_right, exists_const]
      refine ⟨rfl, ?_⟩
      have fin : ∀ z : Str, Nm z → N [some (V.int c), some (V.int n), some (V.str "abcdefghijklmnopqrstuvwxyz"), some (V.str z), a, b] H' := fun z h => hN _ _ ⟨rfl, z, _, _, h, rfl⟩
      split
      · rename_i e
        subst e
        refine ⟨small (by decide +kernel), fin _ ?_⟩
        exact ⟨by decide +kernel, by decide +kernel, by decide +kernel, by decide +kernel, by decide +kernel⟩
      · rename_i e
        refine ⟨rfl, ?_⟩
        split
        · rename_i e
          subst e
          refine ⟨small (by decide +kernel), fin _ ?_⟩
          exact ⟨by decide +kernel, by decide +kernel, by decide +kernel, by decide +kernel, by decide +kernel⟩
        · rename_i e2
          exact fin z ⟨by omega, by omega, hl, e, e2⟩
    · obtain ⟨rfl, z, a, b, hz, rfl⟩ := h
      simp only [tSeq, tFor_eq, tLC_eq, iRng1, iRng2, iList, iTup, iStr, tIfS, tRet, tRetN, tNext, tAsg, gName, tVar, tC, tOp, rI0, rI, tTest, tB, rEq, rNe, tCall, tCons, tNil, tCB, tLst, tTup, tAnd, tOr, tNot, tAndV, tOrV, tNotV, tIf, tDrop, tSl, tPart, tNoPart, tChain, tUn, rU, L2.start, cx_K, bk_K, cx_calm, bk_calm, lenV_str, and_assoc, Option.join, List.length_map, List.length_append, decide_eq_true_eq, Bool.false_eq_true, if_false, if_true, Bool.not_true, Bool.not_false, Bool.not_eq_true', decide_eq_false_iff_not, Bool.true_eq_false, List.length_cons, List.length_nil, List.map_cons, List.map_nil, List.replicate, List.cons_append, List.nil_append, List.append_nil, List.getElem?_cons_zero, List.getElem?_cons_succ, List.set_cons_zero, List.set_cons_succ, Nat.reduceSub, Nat.reduceAdd, Option.some.injEq, V.int.injEq, V.str.injEq, V.bl.injEq, V.ref.injEq, List.cons.injEq, and_true, true_and, exists_eq_left', exists_eq_left, exists_and_left, exists_eq_right, exists_const]
      exact q z hz
theorem ok_sheet_and_rules (bi : Bi mg) (h_law_name_by : Has P w K mg base 1 "_law_name_by" ["cell", "size"] spName) (F : Fun K "_law_sheet_and_rules" "_law_sheet_and_rules" s_law_sheet_and_rules f fd) : FnOk P w K mg base CX0 2 f fd ["script", "most", "many"] (spSR K) := by
  refine F.ok sc_law_sheet_and_rules (fun vs H Q E h => ?_) (fun cdv A outer s H vs Q E hr h => ?_)
  · obtain ⟨sa, ns, m, n, rfl, _⟩ := h
    rfl
  obtain ⟨sa, ns, m, n, rfl, hS, h63, q⟩ := h
  refine ⟨_, (pss_cons (ps_set (i := 3) sc_law_sheet_and_rules.nd rfl (Or.inl rfl) (pe_lst (pa_cons (pe_tup (pa_cons pe_str pa_nil)) pa_nil))) (pss_cons (ps_set (i := 4) sc_law_sheet_and_rules.nd rfl (Or.inl rfl) (pe_lst pa_nil)) (pss_cons (ps_for PassesOwn.never rfl (pi_list (pe_slice sl_list (pv 0) po_none (po_some pe_int))) (pg_name (i := 5) sc_law_sheet_and_rules.nd rfl (Or.inl rfl)) (pss_cons (ps_set (i := 6) sc_law_sheet_and_rules.nd rfl (Or.inl rfl) (pe_op op_mod (pv 5) (pe_op op_pow pe_int pe_int))) (pss_cons (ps_set (i := 7) sc_law_sheet_and_rules.nd rfl (Or.inl rfl) (pe_op op_mul pe_int (pe_callB call_len rfl bi.len bt_len (pa_cons (pv 3) pa_nil)))) (pss_cons (ps_set (i := 8) sc_law_sheet_and_rules.nd rfl (Or.inl rfl) (pe_op op_mod (pe_op op_fdiv (pe_op op_mod (pe_op op_mul (pe_op op_fdiv (pv 6) pe_int) pe_int) pe_int) pe_int) (pv 7))) (pss_cons (ps_set (i := 9) sc_law_sheet_and_rules.nd rfl (Or.inl rfl) (pe_op op_mod (pe_op op_fdiv (pe_op op_mod (pe_op op_mul (pe_op op_fdiv (pv 6) pe_int) pe_int) pe_int) pe_int) (pv 7))) (pss_cons (ps_set (i := 10) sc_law_sheet_and_rules.nd rfl (Or.inl rfl) (pe_tup (pa_cons pe_str (pa_cons (pv 8) (pa_cons (pv 9) pa_nil))))) (pss_cons (ps_if (pt_cmpR op_eq (pe_op op_mod (pv 6) pe_int) pe_int (nomark _)) (pss_one (ps_set (i := 10) sc_law_sheet_and_rules.nd rfl (Or.inl rfl) (pe_tup (pa_cons pe_str (pa_cons (pe_callH h_law_name_by (hr.mono (by omega)) rfl (pa_cons (pe_op op_fdiv (pv 6) pe_int) (pa_cons (pe_op op_mod (pe_op op_fdiv (pv 6) pe_int) pe_int) pa_nil))) pa_nil))))) pss_nil) (pss_one (ps_if (PW.pt (pw_and (pt_cmpR op_lt (pe_op op_mod (pv 6) pe_int) pe_int (nomark _)) (pw_and (pt_cmpR op_lt (pe_callB call_len rfl bi.len bt_len (pa_cons (pv 3) pa_nil)) (pv 1) (nomark _)) (pw_and1 (pt_cmpR (op_notInG hr.units) (pv 10) (pv 3) (by with_unfolding_all rfl)))))) (pss_one (ps_expr (pe_bm PySem.F.plainAttrs_list PySem.F.slot_list_append PySem.F.type_list_append mt_append (pv 3) (pa_cons (pv 10) pa_nil)))) (pss_one (ps_if (PW.pt (pw_and (pt_cmpR op_lt (pe_callB call_len rfl bi.len bt_len (pa_cons (pv 4) pa_nil)) (pv 2) (nomark _)) (pw_and1 (pt_cmpR op_eq (pe_op op_mod (pe_op op_fdiv (pv 6) pe_int) pe_int) pe_int (nomark _))))) (pss_one (ps_expr (pe_bm PySem.F.plainAttrs_list PySem.F.slot_list_append PySem.F.type_list_append mt_append (pv 4) (pa_cons (pe_lst (pa_cons (pe_lst pa_nil) (pa_cons (pe_tup (pa_cons (pv 8) (pa_cons (pv 9) pa_nil))) pa_nil))) pa_nil)))) (pss_one (ps_if (PW.pt (pw_and (pt_cmpR op_gt (pe_callB call_len rfl bi.len bt_len (pa_cons (pv 4) pa_nil)) pe_int (nomark _)) (pw_and1 (pt_cmpR op_lt (pe_callB call_len rfl bi.len bt_len (pa_cons (pe_ix ix_list (pe_ix ix_list (pv 4) (pe_un un_neg pe_int) (fun _ _ => rfl)) pe_int (fun _ _ => rfl)) pa_nil)) pe_int (nomark _))))) (pss_one (ps_expr (pe_bm PySem.F.plainAttrs_list PySem.F.slot_list_append PySem.F.type_list_append mt_append (pe_ix ix_list (pe_ix ix_list (pv 4) (pe_un un_neg pe_int) (fun _ _ => rfl)) pe_int (fun _ _ => rfl)) (pa_cons (pe_tup (pa_cons (pv 9) (pa_cons (pv 8) pa_nil))) pa_nil)))) pss_nil))))))))))))) (pss_one (ps_ret (pe_tup (pa_cons (pv 3) (pa_cons (pe_comp ["rule"] [] [] (pi_list (pv 4)) (fun _ _ _ _ nd => pg_name (i := 0) nd rfl (Or.inl rfl)) (fun _ _ _ _ => pif_nil) (fun _ _ _ _ => (pe_tup (pa_cons (pe_ix (ix_listK K) (pv 0) pe_int (fun _ _ => rfl)) (pa_cons (pe_ix (ix_listK K) (pv 0) pe_int (fun _ _ => rfl)) pa_nil))))) pa_nil)))))))), ?_⟩
  refine seq_abs fun N hN => ?_
  simp only [tSeq, tFor_eq, tLC_eq, iRng1, iRng2, iList, iTup, iStr, tIfS, tRet, tRetN, tNext, tAsg, gName, tVar, tC, tOp, rI0, rI, tTest, tB, rEq, rNe, tCall, tCons, tNil, tCB, tLst, tTup, tAnd, tOr, tNot, tAndV, tOrV, tNotV, tIf, tDrop, tSl, tPart, tNoPart, tChain, tUn, rU, L2.start, cx_K, bk_K, cx_calm, bk_calm, lenV_str, and_assoc, Option.join, List.length_map, List.length_append, decide_eq_true_eq, Bool.false_eq_true, if_false, if_true, Bool.not_true, Bool.not_false, Bool.not_eq_true', decide_eq_false_iff_not, Bool.true_eq_false, List.length_cons, List.length_nil, List.map_cons, List.map_nil, List.replicate, List.cons_append, List.nil_append, List.append_nil, List.getElem?_cons_zero, List.getElem?_cons_succ, List.set_cons_zero, List.set_cons_succ, Nat.reduceSub, Nat.reduceAdd, Option.some.injEq, V.int.injEq, V.str.injEq, V.bl.injEq, V.ref.injEq, List.cons.injEq, and_true, true_and, exists_eq_left', exists_eq_left, exists_and_left, exists_eq_right, exists_const, tBM, tBM0, rAppend, rPop, rIxL, rIxT, rIxS, rSlL, rSlT, rSlS, rCat, rCatT, tKGet, cx_w, bk_w, tDGet, tDisp, tPairs, tDNewK, cx_P]
  refine ⟨small (by simp), fun p0 hp0 => ⟨small (by simp), fun ra hra => hN _ _ ?_⟩⟩
  have e1 := same_new hp0 (.tup [.str "none"])
  have k1 : upd H p0 (.tup [.str "none"]) p0 = some (.tup [.str "none"]) := upd_same
  generalize upd H p0 (.tup [.str "none"]) = H1 at e1 k1 hra ⊢
  have e2 := same_new hra (.lst [.ref p0])
  have k2 : upd H1 ra (.lst [.ref p0]) ra = some (.lst [.ref p0]) := upd_same
  generalize upd H1 ra (.lst [.ref p0]) = H2 at e2 k2 ⊢
  refine seq_abs fun N hN => ?_
  simp only [tSeq, tFor_eq, tLC_eq, iRng1, iRng2, iList, iTup, iStr, tIfS, tRet, tRetN, tNext, tAsg, gName, tVar, tC, tOp, rI0, rI, tTest, tB, rEq, rNe, tCall, tCons, tNil, tCB, tLst, tTup, tAnd, tOr, tNot, tAndV, tOrV, tNotV, tIf, tDrop, tSl, tPart, tNoPart, tChain, tUn, rU, L2.start, cx_K, bk_K, cx_calm, bk_calm, lenV_str, and_assoc, Option.join, List.length_map, List.length_append, decide_eq_true_eq, Bool.false_eq_true, if_false, if_true, Bool.not_true, Bool.not_false, Bool.not_eq_true', decide_eq_false_iff_not, Bool.true_eq_false, List.length_cons, List.length_nil, List.map_cons, List.map_nil, List.replicate, List.cons_append, List.nil_append, List.append_nil, List.getElem?_cons_zero, List.getElem?_cons_succ, List.set_cons_zero, List.set_cons_succ, Nat.reduceSub, Nat.reduceAdd, Option.some.injEq, V.int.injEq, V.str.injEq, V.bl.injEq, V.ref.injEq, List.cons.injEq, and_true, true_and, exists_eq_left', exists_eq_left, exists_and_left, exists_eq_right, exists_const, tBM, tBM0, rAppend, rPop, rIxL, rIxT, rIxS, rSlL, rSlT, rSlS, rCat, rCatT, tKGet, cx_w, bk_w, tDGet, tDisp, tPairs, tDNewK, cx_P]
  refine ⟨small (by simp), fun rb hrb => hN _ _ ?_⟩
  have e3 := same_new hrb (.lst [])
  have k3 : upd H2 rb (.lst []) rb = some (.lst []) := upd_same
  generalize upd H2 rb (.lst []) = H3 at e3 k3 ⊢
  have e03 := (e1.trans e2).trans e3
  refine seq_join (fun σ H' => ∃ (pc : Addr) (zs : List V) (i : Nat) (us : List V) (rows : List Rw) (rs : List RC) (o1 o2 o3 o4 o5 o6 : Option V), i ≤ 63 ∧ SRI H pc zs i H' ra rb us rows rs ∧ σ = [some (V.ref sa), some (V.int m), some (V.int n), some (V.ref ra), some (V.ref rb), o1, o2, o3, o4, o5, o6]) (fun N hN => ?_) (fun σ H' h => ?_)
  · simp only [tSeq, tFor_eq, tLC_eq, iRng1, iRng2, iList, iTup, iStr, tIfS, tRet, tRetN, tNext, tAsg, gName, tVar, tC, tOp, rI0, rI, tTest, tB, rEq, rNe, tCall, tCons, tNil, tCB, tLst, tTup, tAnd, tOr, tNot, tAndV, tOrV, tNotV, tIf, tDrop, tSl, tPart, tNoPart, tChain, tUn, rU, L2.start, cx_K, bk_K, cx_calm, bk_calm, lenV_str, and_assoc, Option.join, List.length_map, List.length_append, decide_eq_true_eq, Bool.false_eq_true, if_false, if_true, Bool.not_true, Bool.not_false, Bool.not_eq_true', decide_eq_false_iff_not, Bool.true_eq_false, List.length_cons, List.length_nil, List.map_cons, List.map_nil, List.replicate, List.cons_append, List.nil_append, List.append_nil, List.getElem?_cons_zero, List.getElem?_cons_succ, List.set_cons_zero, List.set_cons_succ, Nat.reduceSub, Nat.reduceAdd, Option.some.injEq, V.int.injEq, V.str.injEq, V.bl.injEq, V.ref.injEq, List.cons.injEq, and_true, true_and, exists_eq_left', exists_eq_left, exists_and_left, exists_eq_right, exists_const, tBM, tBM0, rAppend, rPop, rIxL, rIxT, rIxS, rSlL, rSlT, rSlS, rCat, rCatT, tKGet, cx_w, bk_w, tDGet, tDisp, tPairs, tDNewK, cx_P]
    refine ⟨_, Same.seq e03 hS, fun pc hpc => ?_⟩
    rw [cut_ints]
    have hcl := cutI_len ns none (some 60)
    generalize cutI ns none (some 60) = cs at hcl
    have e4 := same_new hpc (.lst (cs.map V.int))
    have k4 : upd H3 pc (.lst (cs.map V.int)) pc = some (.lst (cs.map V.int)) := upd_same
    generalize upd H3 pc (.lst (cs.map V.int)) = H4 at e4 k4 ⊢
    have nra : H ra = none := e1.free hra
    have nrb : H rb = none := (e1.trans e2).free hrb
    refine ⟨⟨_, SqL.of k4⟩, ?_⟩
    refine fw_list (xs := cs.map V.int) (fun i σ H' => ∃ (us : List V) (rows : List Rw) (rs : List RC) (o1 o2 o3 o4 o5 o6 : Option V), SRI H pc (cs.map V.int) i H' ra rb us rows rs ∧ σ = [some (V.ref sa), some (V.int m), some (V.int n), some (V.ref ra), some (V.ref rb), o1, o2, o3, o4, o5, o6]) ?_ (fun i σ H' _ h => ?_) (fun i x σ H' hx h => ?_) (fun σ H' h => ?_)
    · refine ⟨[.ref p0], [.no], [], _, _, _, _, _, _, ⟨e03.trans e4, nra, nrb, ne_of_none k2 hrb, k4, ⟨(ne_of_none (e3 _ _ k2) hpc).symm, (ne_of_none k3 hpc).symm, (fun c z => by cases z)⟩, (e3.trans e4) _ _ k2, ⟨_, _, rfl, ⟨p0, _, rfl, ((e2.trans e3).trans e4) _ _ k1, _, _, rfl, rfl, rfl⟩, rfl⟩, by simp, by simp, (fun k i j hk => by have := (List.getElem?_eq_some_iff.mp hk).1; simp at this; subst this; cases hk), e4 _ _ k3, (fun c z => by cases z), (fun c z => by cases z), List.nodup_nil, (fun c z => by cases z), by simp, (fun c z => by cases z), (fun c z => by cases z)⟩, rfl⟩
    · obtain ⟨us, rows, rs, o1, o2, o3, o4, o5, o6, S, rfl⟩ := h
      exact SqL.of S.pk
    · obtain ⟨us, rows, rs, o1, o2, o3, o4, o5, o6, S, rfl⟩ := h
      obtain ⟨c, hc, rfl⟩ : ∃ c, cs[i]? = some c ∧ x = .int c := by
        rw [List.getElem?_map] at hx
        cases e : cs[i]? with
        | none => rw [e] at hx; cases hx
        | some n => rw [e] at hx; cases hx; exact ⟨n, rfl, rfl⟩
      have hi63 : i < 63 := by have := (List.getElem?_eq_some_iff.mp hc).1; omega
      have hul := mapLen S.rws
      show tSeq _ _ _ _ _
      refine seq_abs fun N hN => ?_
      simp only [tSeq, tFor_eq, tLC_eq, iRng1, iRng2, iList, iTup, iStr, tIfS, tRet, tRetN, tNext, tAsg, gName, tVar, tC, tOp, rI0, rI, tTest, tB, rEq, rNe, tCall, tCons, tNil, tCB, tLst, tTup, tAnd, tOr, tNot, tAndV, tOrV, tNotV, tIf, tDrop, tSl, tPart, tNoPart, tChain, tUn, rU, L2.start, cx_K, bk_K, cx_calm, bk_calm, lenV_str, and_assoc, Option.join, List.length_map, List.length_append, decide_eq_true_eq, Bool.false_eq_true, if_false, if_true, Bool.not_true, Bool.not_false, Bool.not_eq_true', decide_eq_false_iff_not, Bool.true_eq_false, List.length_cons, List.length_nil, List.map_cons, List.map_nil, List.replicate, List.cons_append, List.nil_append, List.append_nil, List.getElem?_cons_zero, List.getElem?_cons_succ, List.set_cons_zero, List.set_cons_succ, Nat.reduceSub, Nat.reduceAdd, Option.some.injEq, V.int.injEq, V.str.injEq, V.bl.injEq, V.ref.injEq, List.cons.injEq, and_true, true_and, exists_eq_left', exists_eq_left, exists_and_left, exists_eq_right, exists_const, tBM, tBM0, rAppend, rPop, rIxL, rIxT, rIxS, rSlL, rSlT, rSlS, rCat, rCatT, tKGet, cx_w, bk_w, tDGet, tDisp, tPairs, tDNewK, cx_P]
      refine ⟨⟨by decide, by decide, by decide⟩, p1018, hN _ _ ?_⟩
      generalize c % 10 ^ Int.toNat 18 = cell
      refine seq_abs fun N hN => ?_
      simp only [tSeq, tFor_eq, tLC_eq, iRng1, iRng2, iList, iTup, iStr, tIfS, tRet, tRetN, tNext, tAsg, gName, tVar, tC, tOp, rI0, rI, tTest, tB, rEq, rNe, tCall, tCons, tNil, tCB, tLst, tTup, tAnd, tOr, tNot, tAndV, tOrV, tNotV, tIf, tDrop, tSl, tPart, tNoPart, tChain, tUn, rU, L2.start, cx_K, bk_K, cx_calm, bk_calm, lenV_str, and_assoc, Option.join, List.length_map, List.length_append, decide_eq_true_eq, Bool.false_eq_true, if_false, if_true, Bool.not_true, Bool.not_false, Bool.not_eq_true', decide_eq_false_iff_not, Bool.true_eq_false, List.length_cons, List.length_nil, List.map_cons, List.map_nil, List.replicate, List.cons_append, List.nil_append, List.append_nil, List.getElem?_cons_zero, List.getElem?_cons_succ, List.set_cons_zero, List.set_cons_succ, Nat.reduceSub, Nat.reduceAdd, Option.some.injEq, V.int.injEq, V.str.injEq, V.bl.injEq, V.ref.injEq, List.cons.injEq, and_true, true_and, exists_eq_left', exists_eq_left, exists_and_left, exists_eq_right, exists_const, tBM, tBM0, rAppend, rPop, rIxL, rIxT, rIxS, rSlL, rSlT, rSlS, rCat, rCatT, tKGet, cx_w, bk_w, tDGet, tDisp, tPairs, tDNewK, cx_P]
      refine ⟨us.length, .inl ⟨_, SqL.of S.rw, rfl⟩, .inl ⟨by decide, by decide⟩, hN _ _ ?_⟩
      have htop : (0 : Int) < 2 * (us.length : Int) := by have := S.r1; omega
      generalize htq : 2 * (us.length : Int) = top at htop
      refine seq_abs fun N hN => ?_
      simp only [tSeq, tFor_eq, tLC_eq, iRng1, iRng2, iList, iTup, iStr, tIfS, tRet, tRetN, tNext, tAsg, gName, tVar, tC, tOp, rI0, rI, tTest, tB, rEq, rNe, tCall, tCons, tNil, tCB, tLst, tTup, tAnd, tOr, tNot, tAndV, tOrV, tNotV, tIf, tDrop, tSl, tPart, tNoPart, tChain, tUn, rU, L2.start, cx_K, bk_K, cx_calm, bk_calm, lenV_str, and_assoc, Option.join, List.length_map, List.length_append, decide_eq_true_eq, Bool.false_eq_true, if_false, if_true, Bool.not_true, Bool.not_false, Bool.not_eq_true', decide_eq_false_iff_not, Bool.true_eq_false, List.length_cons, List.length_nil, List.map_cons, List.map_nil, List.replicate, List.cons_append, List.nil_append, List.append_nil, List.getElem?_cons_zero, List.getElem?_cons_succ, List.set_cons_zero, List.set_cons_succ, Nat.reduceSub, Nat.reduceAdd, Option.some.injEq, V.int.injEq, V.str.injEq, V.bl.injEq, V.ref.injEq, List.cons.injEq, and_true, true_and, exists_eq_left', exists_eq_left, exists_and_left, exists_eq_right, exists_const, tBM, tBM0, rAppend, rPop, rIxL, rIxT, rIxS, rSlL, rSlT, rSlS, rCat, rCatT, tKGet, cx_w, bk_w, tDGet, tDisp, tPairs, tDNewK, cx_P]
      refine ⟨⟨by decide, by decide⟩, .inr ⟨by decide, by decide⟩, by decide, ⟨by decide, by decide⟩, htop, hN _ _ ?_⟩
      have o1 := Int.emod_nonneg (cell / 5 * 48271 % 2147483647 / 64) (b := top) (by omega)
      have o2 := Int.emod_lt_of_pos (cell / 5 * 48271 % 2147483647 / 64) (b := top) htop
      generalize cell / 5 * 48271 % 2147483647 / 64 % top = one at o1 o2
      refine seq_abs fun N hN => ?_
      simp only [tSeq, tFor_eq, tLC_eq, iRng1, iRng2, iList, iTup, iStr, tIfS, tRet, tRetN, tNext, tAsg, gName, tVar, tC, tOp, rI0, rI, tTest, tB, rEq, rNe, tCall, tCons, tNil, tCB, tLst, tTup, tAnd, tOr, tNot, tAndV, tOrV, tNotV, tIf, tDrop, tSl, tPart, tNoPart, tChain, tUn, rU, L2.start, cx_K, bk_K, cx_calm, bk_calm, lenV_str, and_assoc, Option.join, List.length_map, List.length_append, decide_eq_true_eq, Bool.false_eq_true, if_false, if_true, Bool.not_true, Bool.not_false, Bool.not_eq_true', decide_eq_false_iff_not, Bool.true_eq_false, List.length_cons, List.length_nil, List.map_cons, List.map_nil, List.replicate, List.cons_append, List.nil_append, List.append_nil, List.getElem?_cons_zero, List.getElem?_cons_succ, List.set_cons_zero, List.set_cons_succ, Nat.reduceSub, Nat.reduceAdd, Option.some.injEq, V.int.injEq, V.str.injEq, V.bl.injEq, V.ref.injEq, List.cons.injEq, and_true, true_and, exists_eq_left', exists_eq_left, exists_and_left, exists_eq_right, exists_const, tBM, tBM0, rAppend, rPop, rIxL, rIxT, rIxS, rSlL, rSlT, rSlS, rCat, rCatT, tKGet, cx_w, bk_w, tDGet, tDisp, tPairs, tDNewK, cx_P]
      refine ⟨⟨by decide, by decide⟩, .inr ⟨by decide, by decide⟩, by decide, ⟨by decide, by decide⟩, htop, hN _ _ ?_⟩
      have o3 := Int.emod_nonneg (cell / 5 * 39373 % 2147483629 / 1024) (b := top) (by omega)
      have o4 := Int.emod_lt_of_pos (cell / 5 * 39373 % 2147483629 / 1024) (b := top) htop
      generalize cell / 5 * 39373 % 2147483629 / 1024 % top = other at o3 o4
      refine seq_abs fun N hN => ?_
      simp only [tSeq, tFor_eq, tLC_eq, iRng1, iRng2, iList, iTup, iStr, tIfS, tRet, tRetN, tNext, tAsg, gName, tVar, tC, tOp, rI0, rI, tTest, tB, rEq, rNe, tCall, tCons, tNil, tCB, tLst, tTup, tAnd, tOr, tNot, tAndV, tOrV, tNotV, tIf, tDrop, tSl, tPart, tNoPart, tChain, tUn, rU, L2.start, cx_K, bk_K, cx_calm, bk_calm, lenV_str, and_assoc, Option.join, List.length_map, List.length_append, decide_eq_true_eq, Bool.false_eq_true, if_false, if_true, Bool.not_true, Bool.not_false, Bool.not_eq_true', decide_eq_false_iff_not, Bool.true_eq_false, List.length_cons, List.length_nil, List.map_cons, List.map_nil, List.replicate, List.cons_append, List.nil_append, List.append_nil, List.getElem?_cons_zero, List.getElem?_cons_succ, List.set_cons_zero, List.set_cons_succ, Nat.reduceSub, Nat.reduceAdd, Option.some.injEq, V.int.injEq, V.str.injEq, V.bl.injEq, V.ref.injEq, List.cons.injEq, and_true, true_and, exists_eq_left', exists_eq_left, exists_and_left, exists_eq_right, exists_const, tBM, tBM0, rAppend, rPop, rIxL, rIxT, rIxS, rSlL, rSlT, rSlS, rCat, rCatT, tKGet, cx_w, bk_w, tDGet, tDisp, tPairs, tDNewK, cx_P]
      refine ⟨small (by simp), fun pr hpr => hN _ _ ?_⟩
      have g1 := same_new hpr (.tup [.str "both", .int one, .int other])
      have y1 : upd H' pr (.tup [.str "both", .int one, .int other]) pr = some (.tup [.str "both", .int one, .int other]) := upd_same
      generalize upd H' pr (.tup [.str "both", .int one, .int other]) = J1 at g1 y1 ⊢
      refine seq_join (fun σ H2 => Same H' H2 ∧ ∃ (rv : V) (r : Rw), DAt H2 (dRw r) rv ∧ RowB r top ∧ σ = [some (V.ref sa), some (V.int m), some (V.int n), some (V.ref ra), some (V.ref rb), some (V.int c), some (V.int cell), some (V.int top), some (V.int one), some (V.int other), some rv]) (fun N hN => ?_) (fun σ H2 h => ?_)
      · simp only [tSeq, tFor_eq, tLC_eq, iRng1, iRng2, iList, iTup, iStr, tIfS, tRet, tRetN, tNext, tAsg, gName, tVar, tC, tOp, rI0, rI, tTest, tB, rEq, rNe, tCall, tCons, tNil, tCB, tLst, tTup, tAnd, tOr, tNot, tAndV, tOrV, tNotV, tIf, tDrop, tSl, tPart, tNoPart, tChain, tUn, rU, L2.start, cx_K, bk_K, cx_calm, bk_calm, lenV_str, and_assoc, Option.join, List.length_map, List.length_append, decide_eq_true_eq, Bool.false_eq_true, if_false, if_true, Bool.not_true, Bool.not_false, Bool.not_eq_true', decide_eq_false_iff_not, Bool.true_eq_false, List.length_cons, List.length_nil, List.map_cons, List.map_nil, List.replicate, List.cons_append, List.nil_append, List.append_nil, List.getElem?_cons_zero, List.getElem?_cons_succ, List.set_cons_zero, List.set_cons_succ, Nat.reduceSub, Nat.reduceAdd, Option.some.injEq, V.int.injEq, V.str.injEq, V.bl.injEq, V.ref.injEq, List.cons.injEq, and_true, true_and, exists_eq_left', exists_eq_left, exists_and_left, exists_eq_right, exists_const, tBM, tBM0, rAppend, rPop, rIxL, rIxT, rIxS, rSlL, rSlT, rSlS, rCat, rCatT, tKGet, cx_w, bk_w, tDGet, tDisp, tPairs, tDNewK, cx_P, spName]
        refine ⟨by decide, rfl, ?_⟩
        split
        · refine ⟨⟨by decide, by decide⟩, ⟨by decide, by decide⟩, by decide, fun nm gn => ⟨small (by simp), fun p2 hp2 => hN _ _ ⟨g1.trans (same_new hp2 _), _, .nm nm, ⟨p2, _, rfl, upd_same, _, _, rfl, rfl, _, _, rfl, rfl, rfl⟩, (fun i j z => by cases z), rfl⟩⟩⟩
        · exact hN _ _ ⟨g1, _, .bo one other, ⟨pr, _, rfl, y1, _, _, rfl, rfl, _, _, rfl, rfl, _, _, rfl, rfl, rfl⟩, (fun i j z => by cases z; exact ⟨⟨o1, o2⟩, o3, o4⟩), rfl⟩
      · obtain ⟨m2, rv, r, hrv, hrb, rfl⟩ := h
        rw [← htq, hul] at hrb
        have S2 := S.go m2
        refine if_abs fun T U hT hU => ?_
        have hU' : U H2 := by
          refine hU H2 ?_
          refine if_abs fun T2 U2 hT2 hU2 => ?_
          have hU2' : U2 H2 := by
            refine hU2 H2 ?_
            simp only [tSeq, tFor_eq, tLC_eq, iRng1, iRng2, iList, iTup, iStr, tIfS, tRet, tRetN, tNext, tAsg, gName, tVar, tC, tOp, rI0, rI, tTest, tB, rEq, rNe, tCall, tCons, tNil, tCB, tLst, tTup, tAnd, tOr, tNot, tAndV, tOrV, tNotV, tIf, tDrop, tSl, tPart, tNoPart, tChain, tUn, rU, L2.start, cx_K, bk_K, cx_calm, bk_calm, lenV_str, and_assoc, Option.join, List.length_map, List.length_append, decide_eq_true_eq, Bool.false_eq_true, if_false, if_true, Bool.not_true, Bool.not_false, Bool.not_eq_true', decide_eq_false_iff_not, Bool.true_eq_false, List.length_cons, List.length_nil, List.map_cons, List.map_nil, List.replicate, List.cons_append, List.nil_append, List.append_nil, List.getElem?_cons_zero, List.getElem?_cons_succ, List.set_cons_zero, List.set_cons_succ, Nat.reduceSub, Nat.reduceAdd, Option.some.injEq, V.int.injEq, V.str.injEq, V.bl.injEq, V.ref.injEq, List.cons.injEq, and_true, true_and, exists_eq_left', exists_eq_left, exists_and_left, exists_eq_right, exists_const, tBM, tBM0, rAppend, rPop, rIxL, rIxT, rIxS, rSlL, rSlT, rSlS, rCat, rCatT, tKGet, cx_w, bk_w, tDGet, tDisp, tPairs, tDNewK, cx_P]
            refine ⟨_, .inl ⟨_, SqL.of S2.ru, rfl⟩, ?_⟩
            split
            · rename_i hpos
              have hne : rs ≠ [] := by intro z; subst z; simp at hpos
              obtain ⟨rs', c', rfl⟩ : ∃ r x, rs = r ++ [x] := ⟨rs.dropLast, rs.getLast hne, (List.dropLast_concat_getLast hne).symm⟩
              obtain ⟨ho, ⟨uc, hl, hps⟩, ht⟩ := S2.ok c' (by simp)
              have hucl := mapLen hps
              have hpl := S.s2 c' (by simp)
              have hru := S2.ru
              rw [List.map_append] at hru
              have hlast : atI ((rs'.map fun c => V.ref c.o) ++ [V.ref c'.o]) (-1) = some (.ref c'.o) := atI_last _ _
              refine ⟨_, SqL.of hru, .ref c'.o, hlast, c'.o, rfl, _, SqL.of ho, .ref c'.l, at0, uc.length, .inl ⟨_, SqL.of hl, rfl⟩, ?_⟩
              split
              · refine ⟨_, SqL.of hru, .ref c'.o, hlast, c'.o, rfl, _, SqL.of ho, .ref c'.l, at0, .inl ⟨rfl, _, SqL.of hl⟩, small (by simp), fun p6 hp6 => ?_⟩
                have j2 := same_new hp6 (.tup [.int other, .int one])
                have z2 : upd H2 p6 (.tup [.int other, .int one]) p6 = some (.tup [.int other, .int one]) := upd_same
                generalize upd H2 p6 (.tup [.int other, .int one]) = J3 at j2 z2 ⊢
                have hl3 := j2 _ _ hl
                exact ⟨c'.l, rfl, uc, hl3, Nat.lt_of_le_of_lt (m := 100000) (by omega) (by decide), us, rows, _, (S2.go j2).premPut (q := (other, one)) hl3 z2, _, rfl⟩
              · exact ⟨us, rows, _, S2.up, _, rfl⟩
            · exact ⟨us, rows, rs, S2.up, _, rfl⟩
          simp only [tSeq, tFor_eq, tLC_eq, iRng1, iRng2, iList, iTup, iStr, tIfS, tRet, tRetN, tNext, tAsg, gName, tVar, tC, tOp, rI0, rI, tTest, tB, rEq, rNe, tCall, tCons, tNil, tCB, tLst, tTup, tAnd, tOr, tNot, tAndV, tOrV, tNotV, tIf, tDrop, tSl, tPart, tNoPart, tChain, tUn, rU, L2.start, cx_K, bk_K, cx_calm, bk_calm, lenV_str, and_assoc, Option.join, List.length_map, List.length_append, decide_eq_true_eq, Bool.false_eq_true, if_false, if_true, Bool.not_true, Bool.not_false, Bool.not_eq_true', decide_eq_false_iff_not, Bool.true_eq_false, List.length_cons, List.length_nil, List.map_cons, List.map_nil, List.replicate, List.cons_append, List.nil_append, List.append_nil, List.getElem?_cons_zero, List.getElem?_cons_succ, List.set_cons_zero, List.set_cons_succ, Nat.reduceSub, Nat.reduceAdd, Option.some.injEq, V.int.injEq, V.str.injEq, V.bl.injEq, V.ref.injEq, List.cons.injEq, and_true, true_and, exists_eq_left', exists_eq_left, exists_and_left, exists_eq_right, exists_const, tBM, tBM0, rAppend, rPop, rIxL, rIxT, rIxS, rSlL, rSlT, rSlS, rCat, rCatT, tKGet, cx_w, bk_w, tDGet, tDisp, tPairs, tDNewK, cx_P]
          refine ⟨_, .inl ⟨_, SqL.of S2.ru, rfl⟩, ?_⟩
          split
          · refine ⟨⟨by decide, by decide⟩, by decide, rfl, ?_⟩
            split
            · refine hT2 H2 ?_
              simp only [tSeq, tFor_eq, tLC_eq, iRng1, iRng2, iList, iTup, iStr, tIfS, tRet, tRetN, tNext, tAsg, gName, tVar, tC, tOp, rI0, rI, tTest, tB, rEq, rNe, tCall, tCons, tNil, tCB, tLst, tTup, tAnd, tOr, tNot, tAndV, tOrV, tNotV, tIf, tDrop, tSl, tPart, tNoPart, tChain, tUn, rU, L2.start, cx_K, bk_K, cx_calm, bk_calm, lenV_str, and_assoc, Option.join, List.length_map, List.length_append, decide_eq_true_eq, Bool.false_eq_true, if_false, if_true, Bool.not_true, Bool.not_false, Bool.not_eq_true', decide_eq_false_iff_not, Bool.true_eq_false, List.length_cons, List.length_nil, List.map_cons, List.map_nil, List.replicate, List.cons_append, List.nil_append, List.append_nil, List.getElem?_cons_zero, List.getElem?_cons_succ, List.set_cons_zero, List.set_cons_succ, Nat.reduceSub, Nat.reduceAdd, Option.some.injEq, V.int.injEq, V.str.injEq, V.bl.injEq, V.ref.injEq, List.cons.injEq, and_true, true_and, exists_eq_left', exists_eq_left, exists_and_left, exists_eq_right, exists_const, tBM, tBM0, rAppend, rPop, rIxL, rIxT, rIxS, rSlL, rSlT, rSlS, rCat, rCatT, tKGet, cx_w, bk_w, tDGet, tDisp, tPairs, tDNewK, cx_P]
              refine ⟨.inl ⟨rfl, _, SqL.of S2.ru⟩, Nat.zero_le _, fun pl hpl => ?_⟩
              have j1 := same_new hpl (.lst [])
              have z1 : upd H2 pl (.lst []) pl = some (.lst []) := upd_same
              generalize upd H2 pl (.lst []) = J2 at j1 z1 ⊢
              refine ⟨small (by simp), fun pt hpt => ?_⟩
              have j2 := same_new hpt (.tup [.int one, .int other])
              have z2 : upd J2 pt (.tup [.int one, .int other]) pt = some (.tup [.int one, .int other]) := upd_same
              generalize upd J2 pt (.tup [.int one, .int other]) = J3 at j2 z2 ⊢
              refine ⟨small (by simp), fun po hpo => ?_⟩
              have j3 := same_new hpo (.lst [.ref pl, .ref pt])
              have z3 : upd J3 po (.lst [.ref pl, .ref pt]) po = some (.lst [.ref pl, .ref pt]) := upd_same
              have npo : H2 po = none := (j1.trans j2).free hpo
              have nol : po ≠ pl := (ne_of_none (j2 _ _ z1) hpo).symm
              generalize upd J3 po (.lst [.ref pl, .ref pt]) = J4 at j3 z3 ⊢
              have j := (j1.trans j2).trans j3
              have hsl := S.s1
              refine ⟨_, j _ _ S2.ru, Nat.lt_of_le_of_lt (m := 100000) (by rw [List.length_map]; omega) (by decide), us, rows, _, S2.rulePut (q := (one, other)) j npo hpl nol z3 ((j2.trans j3) _ _ z1) (j3 _ _ z2) ⟨⟨o1, by rw [← hul, htq]; exact o2⟩, o3, by rw [← hul, htq]; exact o4⟩, _, rfl⟩
            · exact hU2'
          · exact hU2'
        simp only [tSeq, tFor_eq, tLC_eq, iRng1, iRng2, iList, iTup, iStr, tIfS, tRet, tRetN, tNext, tAsg, gName, tVar, tC, tOp, rI0, rI, tTest, tB, rEq, rNe, tCall, tCons, tNil, tCB, tLst, tTup, tAnd, tOr, tNot, tAndV, tOrV, tNotV, tIf, tDrop, tSl, tPart, tNoPart, tChain, tUn, rU, L2.start, cx_K, bk_K, cx_calm, bk_calm, lenV_str, and_assoc, Option.join, List.length_map, List.length_append, decide_eq_true_eq, Bool.false_eq_true, if_false, if_true, Bool.not_true, Bool.not_false, Bool.not_eq_true', decide_eq_false_iff_not, Bool.true_eq_false, List.length_cons, List.length_nil, List.map_cons, List.map_nil, List.replicate, List.cons_append, List.nil_append, List.append_nil, List.getElem?_cons_zero, List.getElem?_cons_succ, List.set_cons_zero, List.set_cons_succ, Nat.reduceSub, Nat.reduceAdd, Option.some.injEq, V.int.injEq, V.str.injEq, V.bl.injEq, V.ref.injEq, List.cons.injEq, and_true, true_and, exists_eq_left', exists_eq_left, exists_and_left, exists_eq_right, exists_const, tBM, tBM0, rAppend, rPop, rIxL, rIxT, rIxS, rSlL, rSlT, rSlS, rCat, rCatT, tKGet, cx_w, bk_w, tDGet, tDisp, tPairs, tDNewK, cx_P]
        refine ⟨by decide, ?_⟩
        split
        · refine ⟨_, .inl ⟨_, SqL.of S2.rw, rfl⟩, ?_⟩
          split
          · refine ⟨2, dRw r, rows.map dRw, hrv, .inl ⟨ra, _, rfl, S2.rw, S2.rws⟩, fun d hd => ?_, by decide, _, rfl, ?_⟩
            · obtain ⟨z, _, rfl⟩ := List.mem_map.mp hd
              exact fit_rw 1 z
            · split
              · refine hT H2 ?_
                simp only [tSeq, tFor_eq, tLC_eq, iRng1, iRng2, iList, iTup, iStr, tIfS, tRet, tRetN, tNext, tAsg, gName, tVar, tC, tOp, rI0, rI, tTest, tB, rEq, rNe, tCall, tCons, tNil, tCB, tLst, tTup, tAnd, tOr, tNot, tAndV, tOrV, tNotV, tIf, tDrop, tSl, tPart, tNoPart, tChain, tUn, rU, L2.start, cx_K, bk_K, cx_calm, bk_calm, lenV_str, and_assoc, Option.join, List.length_map, List.length_append, decide_eq_true_eq, Bool.false_eq_true, if_false, if_true, Bool.not_true, Bool.not_false, Bool.not_eq_true', decide_eq_false_iff_not, Bool.true_eq_false, List.length_cons, List.length_nil, List.map_cons, List.map_nil, List.replicate, List.cons_append, List.nil_append, List.append_nil, List.getElem?_cons_zero, List.getElem?_cons_succ, List.set_cons_zero, List.set_cons_succ, Nat.reduceSub, Nat.reduceAdd, Option.some.injEq, V.int.injEq, V.str.injEq, V.bl.injEq, V.ref.injEq, List.cons.injEq, and_true, true_and, exists_eq_left', exists_eq_left, exists_and_left, exists_eq_right, exists_const, tBM, tBM0, rAppend, rPop, rIxL, rIxT, rIxS, rSlL, rSlT, rSlS, rCat, rCatT, tKGet, cx_w, bk_w, tDGet, tDisp, tPairs, tDNewK, cx_P]
                have hrl := S.r2
                exact ⟨.inl ⟨rfl, _, SqL.of S2.rw⟩, _, S2.rw, Nat.lt_of_le_of_lt (m := 100000) (by omega) (by decide), _, _, _, S2.rowPut hrv hrb, _, rfl⟩
              · exact hU'
          · exact hU'
        · exact hU'
    · obtain ⟨us, rows, rs, o1, o2, o3, o4, o5, o6, S, rfl⟩ := h
      rw [List.length_map] at S
      exact hN _ _ ⟨_, _, _, us, rows, rs, _, _, _, _, _, _, by omega, S, rfl⟩
  · obtain ⟨pc, zs, ii, us, rows, rs, o1, o2, o3, o4, o5, o6, hii, S, rfl⟩ := h
    simp only [tSeq, tFor_eq, tLC_eq, iRng1, iRng2, iList, iTup, iStr, tIfS, tRet, tRetN, tNext, tAsg, gName, tVar, tC, tOp, rI0, rI, tTest, tB, rEq, rNe, tCall, tCons, tNil, tCB, tLst, tTup, tAnd, tOr, tNot, tAndV, tOrV, tNotV, tIf, tDrop, tSl, tPart, tNoPart, tChain, tUn, rU, L2.start, cx_K, bk_K, cx_calm, bk_calm, lenV_str, and_assoc, Option.join, List.length_map, List.length_append, decide_eq_true_eq, Bool.false_eq_true, if_false, if_true, Bool.not_true, Bool.not_false, Bool.not_eq_true', decide_eq_false_iff_not, Bool.true_eq_false, List.length_cons, List.length_nil, List.map_cons, List.map_nil, List.replicate, List.cons_append, List.nil_append, List.append_nil, List.getElem?_cons_zero, List.getElem?_cons_succ, List.set_cons_zero, List.set_cons_succ, Nat.reduceSub, Nat.reduceAdd, Option.some.injEq, V.int.injEq, V.str.injEq, V.bl.injEq, V.ref.injEq, List.cons.injEq, and_true, true_and, exists_eq_left', exists_eq_left, exists_and_left, exists_eq_right, exists_const, tBM, tBM0, rAppend, rPop, rIxL, rIxT, rIxS, rSlL, rSlT, rSlS, rCat, rCatT, tKGet, cx_w, bk_w, tDGet, tDisp, tPairs, tDNewK, cx_P]
    have hrl := S.s1
    have hr2 := S.r2
    refine ⟨⟨_, SqL.of S.ru⟩, ?_⟩
    refine lc_list (xs := rs.map fun c => V.ref c.o) (fun i ys σ H2 => Same H' H2 ∧ DAts H2 ((rs.take i).map fun c => dNR (c.ps, c.q)) ys ∧ ∃ o, σ = [o]) ⟨Same.refl _, rfl, _, rfl⟩ (small (by rw [List.length_map]; omega)) (fun i ys σ H2 e => ?_) (fun i ys σ H2 e => SqL.of (e.1 _ _ S.ru)) (fun i x ys σ H2 C hx e hC => ?_) (fun ys σ H2 e p3 hp3 => ?_)
    · have := DAts.length e.2.1
      rw [List.length_map, List.length_take] at this
      omega
    · obtain ⟨es, hys, o, rfl⟩ := e
      rw [List.getElem?_map] at hx
      cases hci : rs[i]? with
      | none => rw [hci] at hx; cases hx
      | some c =>
        rw [hci] at hx
        cases hx
        obtain ⟨ho, ⟨uc, hl, hps⟩, ht⟩ := (S.ok c (List.mem_of_getElem? hci)).same es
        simp only [tSeq, tFor_eq, tLC_eq, iRng1, iRng2, iList, iTup, iStr, tIfS, tRet, tRetN, tNext, tAsg, gName, tVar, tC, tOp, rI0, rI, tTest, tB, rEq, rNe, tCall, tCons, tNil, tCB, tLst, tTup, tAnd, tOr, tNot, tAndV, tOrV, tNotV, tIf, tDrop, tSl, tPart, tNoPart, tChain, tUn, rU, L2.start, cx_K, bk_K, cx_calm, bk_calm, lenV_str, and_assoc, Option.join, List.length_map, List.length_append, decide_eq_true_eq, Bool.false_eq_true, if_false, if_true, Bool.not_true, Bool.not_false, Bool.not_eq_true', decide_eq_false_iff_not, Bool.true_eq_false, List.length_cons, List.length_nil, List.map_cons, List.map_nil, List.replicate, List.cons_append, List.nil_append, List.append_nil, List.getElem?_cons_zero, List.getElem?_cons_succ, List.set_cons_zero, List.set_cons_succ, Nat.reduceSub, Nat.reduceAdd, Option.some.injEq, V.int.injEq, V.str.injEq, V.bl.injEq, V.ref.injEq, List.cons.injEq, and_true, true_and, exists_eq_left', exists_eq_left, exists_and_left, exists_eq_right, exists_const, tBM, tBM0, rAppend, rPop, rIxL, rIxT, rIxS, rSlL, rSlT, rSlS, rCat, rCatT, tKGet, cx_w, bk_w, tDGet, tDisp, tPairs, tDNewK, cx_P]
        refine ⟨_, SqL.of ho, _, at0, _, SqL.of ho, _, at1, small (by simp), fun p hp => hC _ _ _ ?_⟩
        have g := same_new hp (.tup [.ref c.l, .ref c.t])
        refine ⟨es.trans g, mapSnoc (f := fun c : RC => dNR (c.ps, c.q)) hci (DAts.same g hys) ?_, _, rfl⟩
        exact ⟨p, _, rfl, upd_same, _, _, rfl, ⟨c.l, _, rfl, g _ _ hl, DAts.same g hps⟩, _, _, rfl, ⟨c.t, _, rfl, g _ _ ht, _, _, rfl, rfl, _, _, rfl, rfl, rfl⟩, rfl⟩
    · obtain ⟨es, hys, o, rfl⟩ := e
      rw [List.length_map, List.take_of_length_le (Nat.le_refl _)] at hys
      have g3 := same_new hp3 (.lst ys)
      have z3 : upd H2 p3 (.lst ys) p3 = some (.lst ys) := upd_same
      generalize upd H2 p3 (.lst ys) = H3' at g3 z3 ⊢
      refine ⟨small (by simp), fun p4 hp4 => ?_⟩
      have g4 := same_new hp4 (.tup [.ref ra, .ref p3])
      have gg := (es.trans g3).trans g4
      refine q p4 ra p3 us ys rows (rs.map fun c => (c.ps, c.q)) _ (S.same.trans gg) upd_same (gg _ _ S.rw) (DAts.same gg S.rws) (g4 _ _ z3) ?_ S.r1 (by omega) (by rw [List.length_map]; omega) (fun r hr => ?_) S.rbd (fun r hr => ?_)
      · rw [List.map_map]
        exact DAts.same (g3.trans g4) hys
      · obtain ⟨c, hc, rfl⟩ := List.mem_map.mp hr
        have := S.s2 c hc
        show c.ps.length ≤ 100
        omega
      · obtain ⟨c, hc, rfl⟩ := List.mem_map.mp hr
        exact S.qb c hc
end
end C
set_option Elab.async false
set_option linter.all false
set_option maxRecDepth 100000
set_option maxHeartbeats 8000000
namespace C
open PySem L2
seal PE PT PW PA PS PSs PG PGs PI PPs PO PSet PIf
abbrev s_Growth_init : Stmt := inClass (top 6) 0
theorem sc_Growth_init : FnScope ["self", "many"] ["self", "many"] (defScope s_Growth_init) := ⟨rfl, rfl, rfl, by decide +kernel, rfl, by decide +kernel, by decide +kernel⟩
abbrev s_Growth_line_of : Stmt := inClass (top 6) 1
theorem sc_Growth_line_of : FnScope ["self", "i", "j"] ["self", "i", "j"] (defScope s_Growth_line_of) := ⟨rfl, rfl, rfl, by decide +kernel, rfl, by decide +kernel, by decide +kernel⟩
abbrev s_Growth_has : Stmt := inClass (top 6) 2
theorem sc_Growth_has : FnScope ["self", "i", "j"] ["self", "i", "j"] (defScope s_Growth_has) := ⟨rfl, rfl, rfl, by decide +kernel, rfl, by decide +kernel, by decide +kernel⟩
abbrev s_Growth_grow : Stmt := inClass (top 6) 3
theorem sc_Growth_grow : FnScope ["self", "i", "j", "why"] ["self", "i", "j", "why"] (defScope s_Growth_grow) := ⟨rfl, rfl, rfl, by decide +kernel, rfl, by decide +kernel, by decide +kernel⟩
abbrev s_bits_of : Stmt := top 1
theorem sc_bits_of : FnScope ["mask", "bits", "rest", "low"] ["mask"] (defScope s_bits_of) := ⟨rfl, rfl, rfl, by decide +kernel, rfl, by decide +kernel, by decide +kernel⟩
abbrev nV (n : Nat) : V := .int (n : Int)
def spBits : Sp := fun vs H Q _ => ∃ (m : Nat) (xs : List Nat), vs = [.int m] ∧ Bits m xs ∧ (∀ x ∈ xs, x < 300) ∧ ∀ p H', Same H H' → H p = none → H' p = some (.lst (xs.map nV)) → Q (.ref p) H'
theorem bits_len {m : Nat} {xs : List Nat} (h : Bits m xs) (hx : ∀ x ∈ xs, x < 300) : xs.length ≤ 300 := by
  have : ∀ (xs : List Nat) (b : Nat), xs.Pairwise (· < ·) → (∀ x ∈ xs, b ≤ x ∧ x < 300) → xs.length + b ≤ 300 ∨ xs = [] := by
    intro xs
    induction xs with
    | nil => intro b _ _; exact .inr rfl
    | cons x xs ih =>
      intro b hp hb
      have hp' := List.pairwise_cons.mp hp
      have hx := hb x List.mem_cons_self
      rcases ih (x + 1) hp'.2 (fun y hy => ⟨hp'.1 y hy, (hb y (List.mem_cons_of_mem _ hy)).2⟩) with h | h
      · left; rw [List.length_cons]; omega
      · subst h; left; rw [List.length_cons, List.length_nil]; omega
  rcases this xs 0 h.1 (fun x hx' => ⟨Nat.zero_le _, hx x hx'⟩) with h | h
  · omega
  · subst h; simp
section
variable {P : Program} {w : World} {K : PySem.W.Frag} {mg : Str → Option Value} {base : Heap} {f : Addr} {fd : FuncData}
theorem ok_bits_of (bi : Bi mg) (F : Fun K "bits_of" "bits_of" s_bits_of f fd) : FnOk P w K mg base CX0 1 f fd ["mask"] spBits := by
  refine F.ok sc_bits_of (fun vs H Q E h => ?_) (fun cdv A outer s H vs Q E hr h => ?_)
  · obtain ⟨m, xs, rfl, _⟩ := h
    rfl
  obtain ⟨m, xs, rfl, hb, hx, q⟩ := h
  have hxl := bits_len hb hx
  refine ⟨_, (pss_cons (ps_set (i := 1) sc_bits_of.nd rfl (Or.inl rfl) (pe_lst pa_nil)) (pss_cons (ps_set (i := 2) sc_bits_of.nd rfl (Or.inl rfl) (pv 0)) (pss_cons (ps_while PassesOwn.never (pt_truth (pv 2) (fun _ => rfl)) (pss_cons (ps_set (i := 3) sc_bits_of.nd rfl (Or.inl rfl) (pe_op op_and (pv 2) (pe_un un_neg (pv 2)))) (pss_cons (ps_expr (pe_bm PySem.F.plainAttrs_list PySem.F.slot_list_append PySem.F.type_list_append mt_append (pv 1) (pa_cons (pe_op op_sub (pe_bm0 PySem.F.plainAttrs_int PySem.F.slot_int_bit_length PySem.F.type_int_bit_length mt_bit_length (pv 3)) pe_int) pa_nil))) (pss_one (ps_aug (i := 2) sc_bits_of.nd rfl (Or.inl rfl) (pv 3) ip_xor))))) (pss_one (ps_ret (pv 1)))))), ?_⟩
  refine seq_abs fun N hN => ?_
  simp only [tSeq, tFor_eq, tLC_eq, iRng1, iRng2, iList, iTup, iStr, tIfS, tRet, tRetN, tNext, tAsg, gName, tVar, tC, tOp, rI0, rI, tTest, tB, rEq, rNe, tCall, tCons, tNil, tCB, tLst, tTup, tAnd, tOr, tNot, tAndV, tOrV, tNotV, tIf, tDrop, tSl, tPart, tNoPart, tChain, tUn, rU, L2.start, cx_K, bk_K, cx_calm, bk_calm, lenV_str, and_assoc, Option.join, List.length_map, List.length_append, decide_eq_true_eq, Bool.false_eq_true, if_false, if_true, Bool.not_true, Bool.not_false, Bool.not_eq_true', decide_eq_false_iff_not, Bool.true_eq_false, List.length_cons, List.length_nil, List.map_cons, List.map_nil, List.replicate, List.cons_append, List.nil_append, List.append_nil, List.getElem?_cons_zero, List.getElem?_cons_succ, List.set_cons_zero, List.set_cons_succ, Nat.reduceSub, Nat.reduceAdd, Option.some.injEq, V.int.injEq, V.str.injEq, V.bl.injEq, V.ref.injEq, List.cons.injEq, and_true, true_and, exists_eq_left', exists_eq_left, exists_and_left, exists_eq_right, exists_const, tBM, tBM0, rAppend, rPop, rIxL, rIxT, rIxS, rSlL, rSlT, rSlS, rCat, rCatT, tKGet, cx_w, bk_w, tDGet, tDisp, tPairs, tDNewK, cx_P]
  refine ⟨small (by simp), fun p hp => hN _ _ ?_⟩
  clear hN
  refine seq_abs fun N hN => ?_
  simp only [tSeq, tFor_eq, tLC_eq, iRng1, iRng2, iList, iTup, iStr, tIfS, tRet, tRetN, tNext, tAsg, gName, tVar, tC, tOp, rI0, rI, tTest, tB, rEq, rNe, tCall, tCons, tNil, tCB, tLst, tTup, tAnd, tOr, tNot, tAndV, tOrV, tNotV, tIf, tDrop, tSl, tPart, tNoPart, tChain, tUn, rU, L2.start, cx_K, bk_K, cx_calm, bk_calm, lenV_str, and_assoc, Option.join, List.length_map, List.length_append, decide_eq_true_eq, Bool.false_eq_true, if_false, if_true, Bool.not_true, Bool.not_false, Bool.not_eq_true', decide_eq_false_iff_not, Bool.true_eq_false, List.length_cons, List.length_nil, List.map_cons, List.map_nil, List.replicate, List.cons_append, List.nil_append, List.append_nil, List.getElem?_cons_zero, List.getElem?_cons_succ, List.set_cons_zero, List.set_cons_succ, Nat.reduceSub, Nat.reduceAdd, Option.some.injEq, V.int.injEq, V.str.injEq, V.bl.injEq, V.ref.injEq, List.cons.injEq, and_true, true_and, exists_eq_left', exists_eq_left, exists_and_left, exists_eq_right, exists_const, tBM, tBM0, rAppend, rPop, rIxL, rIxT, rIxS, rSlL, rSlT, rSlS, rCat, rCatT, tKGet, cx_w, bk_w, tDGet, tDisp, tPairs, tDNewK, cx_P]
  refine hN _ _ ?_
  clear hN
  have s1 := same_new hp (.lst [])
  have k1 : upd H p (.lst []) p = some (.lst ((xs.take 0).map nV)) := upd_same
  generalize upd H p (.lst []) = H1 at s1 k1 ⊢
  refine seq_join (fun σ H' => ∃ (o1 o2 : Option V), Same H H' ∧ H' p = some (.lst (xs.map nV)) ∧ σ = [some (V.int m), some (V.ref p), o1, o2]) (fun N hN => ?_) (fun σ H' h => ?_)
  · simp only [tSeq, tFor_eq, tLC_eq, iRng1, iRng2, iList, iTup, iStr, tIfS, tRet, tRetN, tNext, tAsg, gName, tVar, tC, tOp, rI0, rI, tTest, tB, rEq, rNe, tCall, tCons, tNil, tCB, tLst, tTup, tAnd, tOr, tNot, tAndV, tOrV, tNotV, tIf, tDrop, tSl, tPart, tNoPart, tChain, tUn, rU, L2.start, cx_K, bk_K, cx_calm, bk_calm, lenV_str, and_assoc, Option.join, List.length_map, List.length_append, decide_eq_true_eq, Bool.false_eq_true, if_false, if_true, Bool.not_true, Bool.not_false, Bool.not_eq_true', decide_eq_false_iff_not, Bool.true_eq_false, List.length_cons, List.length_nil, List.map_cons, List.map_nil, List.replicate, List.cons_append, List.nil_append, List.append_nil, List.getElem?_cons_zero, List.getElem?_cons_succ, List.set_cons_zero, List.set_cons_succ, Nat.reduceSub, Nat.reduceAdd, Option.some.injEq, V.int.injEq, V.str.injEq, V.bl.injEq, V.ref.injEq, List.cons.injEq, and_true, true_and, exists_eq_left', exists_eq_left, exists_and_left, exists_eq_right, exists_const, tBM, tBM0, rAppend, rPop, rIxL, rIxT, rIxS, rSlL, rSlT, rSlS, rCat, rCatT, tKGet, cx_w, bk_w, tDGet, tDisp, tPairs, tDNewK, cx_P, tWhile]
    refine ⟨fun k σ H' => ∃ (i r : Nat) (o : Option V), k = xs.length - i ∧ i ≤ xs.length ∧ Same H H' ∧ H' p = some (.lst ((xs.take i).map nV)) ∧ Bits r (xs.drop i) ∧ σ = [some (V.int m), some (V.ref p), some (V.int r), o], ⟨_, 0, m, _, rfl, Nat.zero_le _, s1, k1, hb, rfl⟩, fun k σ H' h => ?_⟩
    obtain ⟨i, r, o, rfl, hi, s2, k2, hr', rfl⟩ := h
    simp only [tSeq, tFor_eq, tLC_eq, iRng1, iRng2, iList, iTup, iStr, tIfS, tRet, tRetN, tNext, tAsg, gName, tVar, tC, tOp, rI0, rI, tTest, tB, rEq, rNe, tCall, tCons, tNil, tCB, tLst, tTup, tAnd, tOr, tNot, tAndV, tOrV, tNotV, tIf, tDrop, tSl, tPart, tNoPart, tChain, tUn, rU, L2.start, cx_K, bk_K, cx_calm, bk_calm, lenV_str, and_assoc, Option.join, List.length_map, List.length_append, decide_eq_true_eq, Bool.false_eq_true, if_false, if_true, Bool.not_true, Bool.not_false, Bool.not_eq_true', decide_eq_false_iff_not, Bool.true_eq_false, List.length_cons, List.length_nil, List.map_cons, List.map_nil, List.replicate, List.cons_append, List.nil_append, List.append_nil, List.getElem?_cons_zero, List.getElem?_cons_succ, List.set_cons_zero, List.set_cons_succ, Nat.reduceSub, Nat.reduceAdd, Option.some.injEq, V.int.injEq, V.str.injEq, V.bl.injEq, V.ref.injEq, List.cons.injEq, and_true, true_and, exists_eq_left', exists_eq_left, exists_and_left, exists_eq_right, exists_const, tBM, tBM0, rAppend, rPop, rIxL, rIxT, rIxS, rSlL, rSlT, rSlS, rCat, rCatT, tKGet, cx_w, bk_w, tDGet, tDisp, tPairs, tDNewK, cx_P]
    refine ⟨_, rfl, ?_⟩
    cases hd : xs.drop i with
    | nil =>
      rw [hd] at hr'
      have e0 := hr'.nil
      subst e0
      rw [if_neg (by decide)]
      have hil : xs.length ≤ i := by
        have := congrArg List.length hd
        rw [List.length_drop, List.length_nil] at this
        omega
      rw [List.take_of_length_le hil] at k2
      exact hN _ _ ⟨_, _, s2, k2, rfl⟩
    | cons x rest =>
      rw [hd] at hr'
      have hxb : r.testBit x = true := by rw [hr'.2]; simp
      obtain ⟨hr0, hl, hb2⟩ := hr'.cons
      rw [if_pos (by simp; omega)]
      have hil : i < xs.length := by
        have := congrArg List.length hd
        rw [List.length_drop, List.length_cons] at this
        omega
      have hxi : xs[i]? = some x := by
        have := congrArg (·[0]?) hd
        simpa using this
      have hdr : xs.drop (i + 1) = rest := by
        have := congrArg (List.drop 1) hd
        rw [List.drop_drop] at this
        simpa using this
      refine ⟨fun σ' H'' => ∃ (o : Option V), Same H H'' ∧ H'' p = some (.lst ((xs.take (i + 1)).map nV)) ∧ σ' = [some (V.int m), some (V.ref p), some (V.int ((r &&& (r - 1) : Nat) : Int)), o], fun σ' H'' h => ?_, ?_⟩
      · obtain ⟨o', a1, a2, rfl⟩ := h
        exact ⟨xs.length - (i + 1), by omega, i + 1, rfl, by omega, a1, a2, _, by rw [hdr]; exact hb2, _, rfl⟩
      have elow : Builtin.bitAnd (r : Int) (-(r : Int)) = ((2 ^ x : Nat) : Int) := by rw [low_mask hr0, hl]
      simp only [tSeq, tFor_eq, tLC_eq, iRng1, iRng2, iList, iTup, iStr, tIfS, tRet, tRetN, tNext, tAsg, gName, tVar, tC, tOp, rI0, rI, tTest, tB, rEq, rNe, tCall, tCons, tNil, tCB, tLst, tTup, tAnd, tOr, tNot, tAndV, tOrV, tNotV, tIf, tDrop, tSl, tPart, tNoPart, tChain, tUn, rU, L2.start, cx_K, bk_K, cx_calm, bk_calm, lenV_str, and_assoc, Option.join, List.length_map, List.length_append, decide_eq_true_eq, Bool.false_eq_true, if_false, if_true, Bool.not_true, Bool.not_false, Bool.not_eq_true', decide_eq_false_iff_not, Bool.true_eq_false, List.length_cons, List.length_nil, List.map_cons, List.map_nil, List.replicate, List.cons_append, List.nil_append, List.append_nil, List.getElem?_cons_zero, List.getElem?_cons_succ, List.set_cons_zero, List.set_cons_succ, Nat.reduceSub, Nat.reduceAdd, Option.some.injEq, V.int.injEq, V.str.injEq, V.bl.injEq, V.ref.injEq, List.cons.injEq, and_true, true_and, exists_eq_left', exists_eq_left, exists_and_left, exists_eq_right, exists_const, tBM, tBM0, rAppend, rPop, rIxL, rIxT, rIxS, rSlL, rSlT, rSlS, rCat, rCatT, tKGet, cx_w, bk_w, tDGet, tDisp, tPairs, tDNewK, cx_P, tAug, ipI, rBitLen]
      rw [elow, bits_pow]
      refine ⟨.inl ⟨rfl, _, SqL.of k2⟩, rfl, _, k2, small1000 (by rw [List.length_map, List.length_take]; omega), s2.upd hp, ?_, xor_low hl hxb, _, rfl⟩
      have e : (((x + 1 : Nat) : Int) - 1) = (x : Int) := by omega
      obtain ⟨_, ei⟩ := List.getElem?_eq_some_iff.mp hxi
      rw [upd_same, e, List.take_succ_eq_append_getElem hil, ei, List.map_append]
      rfl
  obtain ⟨o1, o2, s2, k2, rfl⟩ := h
  simp only [tSeq, tFor_eq, tLC_eq, iRng1, iRng2, iList, iTup, iStr, tIfS, tRet, tRetN, tNext, tAsg, gName, tVar, tC, tOp, rI0, rI, tTest, tB, rEq, rNe, tCall, tCons, tNil, tCB, tLst, tTup, tAnd, tOr, tNot, tAndV, tOrV, tNotV, tIf, tDrop, tSl, tPart, tNoPart, tChain, tUn, rU, L2.start, cx_K, bk_K, cx_calm, bk_calm, lenV_str, and_assoc, Option.join, List.length_map, List.length_append, decide_eq_true_eq, Bool.false_eq_true, if_false, if_true, Bool.not_true, Bool.not_false, Bool.not_eq_true', decide_eq_false_iff_not, Bool.true_eq_false, List.length_cons, List.length_nil, List.map_cons, List.map_nil, List.replicate, List.cons_append, List.nil_append, List.append_nil, List.getElem?_cons_zero, List.getElem?_cons_succ, List.set_cons_zero, List.set_cons_succ, Nat.reduceSub, Nat.reduceAdd, Option.some.injEq, V.int.injEq, V.str.injEq, V.bl.injEq, V.ref.injEq, List.cons.injEq, and_true, true_and, exists_eq_left', exists_eq_left, exists_and_left, exists_eq_right, exists_const, tBM, tBM0, rAppend, rPop, rIxL, rIxT, rIxS, rSlL, rSlT, rSlS, rCat, rCatT, tKGet, cx_w, bk_w, tDGet, tDisp, tPairs, tDNewK, cx_P]
  exact q _ _ s2 hp k2
end
def OW (as : List Wt) : Prop := as.length ≤ 3 ∧ ∀ ps, Wt.ps ps ∈ as → ps.length ≤ 300
def hasP (ls : List Ln) (i j : Int) : Bool := ls.any fun l => l.i == i && l.j == j
theorem hasP_iff {ls : List Ln} {i j : Int} : hasP ls i j = true ↔ ∃ (p : Nat) (l : Ln), ls[p]? = some l ∧ l.i = i ∧ l.j = j := by
  unfold hasP
  rw [List.any_eq_true]
  constructor
  · rintro ⟨l, hl, h⟩
    rw [Bool.and_eq_true, beq_iff_eq, beq_iff_eq] at h
    obtain ⟨p, hp, e⟩ := List.getElem_of_mem hl
    exact ⟨p, l, by rw [List.getElem?_eq_getElem hp, e], h.1, h.2⟩
  · rintro ⟨p, l, hl, h1, h2⟩
    exact ⟨l, List.mem_of_getElem? hl, by rw [h1, h2]; simp⟩
theorem hasP_app (ls t : List Ln) (i j : Int) : hasP (ls ++ t) i j = (hasP ls i j || hasP t i j) := by
  unfold hasP
  rw [List.any_append]
theorem hasP_one (l : Ln) (i j : Int) : hasP [l] i j = (l.i == i && l.j == j) := by
  unfold hasP
  simp
def key2 (i j : Int) : List Key := [.inl i, .inl j]
def plT : List Ln → Nat → List (List Key × V)
  | [], _ => []
  | l :: ls, k => (key2 l.i l.j, .int k) :: plT ls (k + 1)
theorem plT_len : ∀ (ls : List Ln) (k : Nat), (plT ls k).length = ls.length
  | [], _ => rfl
  | l :: ls, k => by show (plT ls (k + 1)).length + 1 = _; rw [plT_len ls (k + 1)]; rfl
theorem plT_snoc (l : Ln) : ∀ (ls : List Ln) (k : Nat), plT (ls ++ [l]) k = plT ls k ++ [(key2 l.i l.j, .int ((k + ls.length : Nat) : Int))]
  | [], k => rfl
  | l' :: ls, k => by
    show _ :: plT (ls ++ [l]) (k + 1) = _
    rw [plT_snoc l ls (k + 1), List.length_cons]
    show _ = _ :: _ ++ _
    rw [show k + 1 + ls.length = k + (ls.length + 1) by omega]
    rfl
theorem key2_inj {i j i' j' : Int} (h : key2 i j = key2 i' j') : i = i' ∧ j = j' := by
  unfold key2 at h
  injection h with h1 h2
  injection h2 with h2 h3
  exact ⟨Sum.inl.inj h1, Sum.inl.inj h2⟩
theorem plT_val {i j : Int} : ∀ (ls : List Ln) (k : Nat), (hasP ls i j = false ∧ valV (plT ls k) (key2 i j) = none) ∨ ∃ (p : Nat) (l : Ln), ls[p]? = some l ∧ l.i = i ∧ l.j = j ∧ valV (plT ls k) (key2 i j) = some (.int ((k + p : Nat) : Int))
  | [], k => .inl ⟨rfl, rfl⟩
  | l :: ls, k => by
    by_cases h : l.i = i ∧ l.j = j
    · refine .inr ⟨0, l, rfl, h.1, h.2, ?_⟩
      show valV ((key2 l.i l.j, V.int k) :: plT ls (k + 1)) (key2 i j) = _
      rw [h.1, h.2, valV_pos rfl]
      rfl
    · have e : valV (plT (l :: ls) k) (key2 i j) = valV (plT ls (k + 1)) (key2 i j) := valV_neg (fun z => h (key2_inj z))
      rcases plT_val ls (k + 1) with ⟨h1, h2⟩ | ⟨p, l', h1, h2, h3, h4⟩
      · left
        refine ⟨?_, by rw [e]; exact h2⟩
        show ((l.i == i && l.j == j) || hasP ls i j) = false
        rw [h1, Bool.or_false]
        rw [Bool.eq_false_iff]
        intro z
        rw [Bool.and_eq_true, beq_iff_eq, beq_iff_eq] at z
        exact h z
      · right
        refine ⟨p + 1, l', h1, h2, h3, ?_⟩
        rw [e, h4]
        congr 2
        omega
theorem put_new {κ : Type} [DecidableEq κ] {kvs : List (κ × V)} {k : κ} {v : V} (h : valV kvs k = none) : putK kvs k v = kvs ++ [(k, v)] := by
  unfold putK
  rw [if_neg]
  intro z
  obtain ⟨x, hx, hk⟩ := List.any_eq_true.mp z
  unfold valV at h
  rw [Option.map_eq_none_iff, List.find?_eq_none] at h
  exact h x hx hk
theorem said_ext {ls t : List Ln} {k : Nat} (h : k ≤ ls.length) (x : Wt) : said (ls ++ t) k x = said ls k x := by
  cases x with
  | ps l => rfl
  | n i =>
    show (if 0 ≤ i ∧ i < (k : Int) then ((ls ++ t)[i.toNat]?).map fun l => (l.i, l.j) else none) = (if 0 ≤ i ∧ i < (k : Int) then (ls[i.toNat]?).map fun l => (l.i, l.j) else none)
    by_cases hi : 0 ≤ i ∧ i < (k : Int)
    · rw [if_pos hi, if_pos hi, List.getElem?_append_left (by omega)]
    · rw [if_neg hi, if_neg hi]
theorem step_ext {rows : List Rw} {rules : List NRul} {ls t : List Ln} {k : Nat} {l : Ln} (h : k ≤ ls.length) : stepB rows rules (ls ++ t) k l = stepB rows rules ls k l := by
  have e : said (ls ++ t) k = said ls k := funext fun x => said_ext h x
  unfold stepB ruleStep
  rw [e]
theorem step_rng {rows : List Rw} {rules : List NRul} {ls : List Ln} {k : Nat} {l : Ln} (h : stepB rows rules ls k l = true) : (0 ≤ l.i ∧ l.i < 2 * (rows.length : Int)) ∧ 0 ≤ l.j ∧ l.j < 2 * (rows.length : Int) := by
  unfold stepB at h
  split at h
  · cases h
  · rename_i hn
    simp only [not_or, Classical.not_not] at hn
    exact hn
structure GOk (rows : List Rw) (rules : List NRul) (ls : List Ln) : Prop where
  snd : ∀ (k : Nat) (l : Ln), ls[k]? = some l → stepB rows rules ls k l = true
  dis : ∀ (a b : Nat) (x y : Ln), ls[a]? = some x → ls[b]? = some y → x.i = y.i → x.j = y.j → a = b
  siz : ∀ l ∈ ls, OW l.as
theorem GOk.put {rows : List Rw} {rules : List NRul} {ls : List Ln} {l : Ln} (h : GOk rows rules ls) (hn : hasP ls l.i l.j = false) (hs : stepB rows rules ls ls.length l = true) (ho : OW l.as) : GOk rows rules (ls ++ [l]) := by
  have no : ∀ (a : Nat) (x : Ln), ls[a]? = some x → x.i = l.i → x.j = l.j → False := fun a x hx h1 h2 => by
    have := hasP_iff.mpr ⟨a, x, hx, h1, h2⟩
    rw [hn] at this
    cases this
  have sp : ∀ (a : Nat) (x : Ln), (ls ++ [l])[a]? = some x → ls[a]? = some x ∨ a = ls.length ∧ x = l := fun a x hx => by
    by_cases ha : a < ls.length
    · rw [List.getElem?_append_left ha] at hx
      exact .inl hx
    · have ha2 := (List.getElem?_eq_some_iff.mp hx).1
      rw [List.length_append, List.length_singleton] at ha2
      have e : a = ls.length := by omega
      subst e
      rw [List.getElem?_append_right (Nat.le_refl _), Nat.sub_self] at hx
      cases hx
      exact .inr ⟨rfl, rfl⟩
  refine ⟨fun k x hx => ?_, fun a b x y hx hy h1 h2 => ?_, fun x hx => ?_⟩
  · rcases sp k x hx with hx | ⟨rfl, rfl⟩
    · have hk := (List.getElem?_eq_some_iff.mp hx).1
      rw [step_ext (by omega)]
      exact h.snd k x hx
    · rw [step_ext (Nat.le_refl _)]
      exact hs
  · rcases sp a x hx with hx' | ⟨ea, ex⟩
    · rcases sp b y hy with hy' | ⟨eb, ey⟩
      · exact h.dis a b x y hx' hy' h1 h2
      · rw [ey] at h1 h2
        exact (no a x hx' h1 h2).elim
    · rcases sp b y hy with hy' | ⟨eb, ey⟩
      · rw [ex] at h1 h2
        exact (no b y hy' h1.symm h2.symm).elim
      · rw [ea, eb]
  · rcases List.mem_append.mp hx with hx | hx
    · exact h.siz x hx
    · rw [List.mem_singleton.mp hx]; exact ho
theorem nodup_subI : ∀ {l m : List Int}, l.Nodup → (∀ x ∈ l, x ∈ m) → l.length ≤ m.length
  | [], m, _, _ => Nat.zero_le _
  | x :: l, m, hn, hs => by
    have hx : x ∈ m := hs x List.mem_cons_self
    have hn' := List.nodup_cons.mp hn
    have := nodup_subI (l := l) (m := m.erase x) hn'.2 fun y hy => by
      have hy' := hs y (List.mem_cons_of_mem _ hy)
      have hne : y ≠ x := fun e => hn'.1 (by rw [← e]; exact hy)
      exact (List.mem_erase_of_ne hne).mpr hy'
    rw [List.length_erase_of_mem hx] at this
    have := List.length_pos_of_mem hx
    rw [List.length_cons]
    omega
theorem GOk.len {rows : List Rw} {rules : List NRul} {ls : List Ln} (h : GOk rows rules ls) : ls.length ≤ (2 * rows.length) * (2 * rows.length) := by
  have hr : ∀ l ∈ ls, (0 ≤ l.i ∧ l.i < 2 * (rows.length : Int)) ∧ 0 ≤ l.j ∧ l.j < 2 * (rows.length : Int) := fun l hl => by
    obtain ⟨p, hp, e⟩ := List.getElem_of_mem hl
    exact step_rng (h.snd p l (by rw [List.getElem?_eq_getElem hp, e]))
  generalize hn : 2 * rows.length = n
  have hn' : 2 * (rows.length : Int) = (n : Int) := by omega
  rw [hn'] at hr
  have := nodup_subI (l := ls.map fun l => l.i * n + l.j) (m := (List.range (n * n)).map fun i : Nat => (i : Int)) ?_ fun x hx => ?_
  · rwa [List.length_map, List.length_map, List.length_range] at this
  · refine List.pairwise_iff_getElem.mpr fun a b ha hb hab e => ?_
    rw [List.length_map] at ha hb
    rw [List.getElem_map, List.getElem_map] at e
    have r1 := hr _ (List.getElem_mem ha)
    have r2 := hr _ (List.getElem_mem hb)
    have hi : ls[a].i = ls[b].i := by
      have e1 : (ls[a].i * n + ls[a].j) / n = ls[a].i := by
        rw [Int.add_comm, Int.add_mul_ediv_right _ _ (by omega), Int.ediv_eq_zero_of_lt r1.2.1 r1.2.2, Int.zero_add]
      have e2 : (ls[b].i * n + ls[b].j) / n = ls[b].i := by
        rw [Int.add_comm, Int.add_mul_ediv_right _ _ (by omega), Int.ediv_eq_zero_of_lt r2.2.1 r2.2.2, Int.zero_add]
      rw [← e1, e, e2]
    have hj : ls[a].j = ls[b].j := by rw [hi] at e; omega
    have := h.dis a b _ _ (List.getElem?_eq_getElem ha) (List.getElem?_eq_getElem hb) hi hj
    omega
  · obtain ⟨l, hl, rfl⟩ := List.mem_map.mp hx
    have r1 := hr l hl
    have b1 : l.i * n + l.j < n * n := by
      have : l.i * n ≤ (n - 1) * n := Int.mul_le_mul_of_nonneg_right (by omega) (by omega)
      rw [Int.sub_mul, Int.one_mul] at this
      omega
    have b0 : 0 ≤ l.i * n := Int.mul_nonneg r1.1.1 (by omega)
    rw [List.mem_map]
    exact ⟨(l.i * n + l.j).toNat, by rw [List.mem_range]; omega, by omega⟩
structure MkA (n : Nat) (hp : Nat → Nat → Bool) (as : List Nat) : Prop where
  len : as.length = n
  bit : ∀ (a c : Nat), as[a]? = some c → ∀ b, c.testBit b = hp a b
theorem MkA.put {n a b c : Nat} {hp hp' : Nat → Nat → Bool} {as : List Nat} (h : MkA n hp as) (hc : as[a]? = some c) (e : ∀ x y, hp' x y = (hp x y || (x == a && y == b))) : MkA n hp' (as.set a (c ||| 2 ^ b)) := by
  have la := (List.getElem?_eq_some_iff.mp hc).1
  refine ⟨by rw [List.length_set]; exact h.len, fun x d hx y => ?_⟩
  rw [e]
  by_cases ex : a = x
  · subst ex
    rw [List.getElem?_set_self la] at hx
    cases hx
    rw [Nat.testBit_or, h.bit a c hc, Nat.testBit_two_pow]
    simp only [beq_self_eq_true, Bool.true_and]
    congr 1
    rw [Bool.eq_iff_iff, decide_eq_true_eq, beq_iff_eq]
    exact eq_comm
  · rw [List.getElem?_set_ne ex] at hx
    have : (x == a) = false := beq_eq_false_iff_ne.mpr (Ne.symm ex)
    rw [h.bit x d hx, this, Bool.false_and, Bool.or_false]
structure GAd where
  r : Addr
  la : Addr
  pa : Addr
  aa : Addr
  ba : Addr
def grF (g : GAd) : List (Str × V) := [("lines", .ref g.la), ("places", .ref g.pa), ("above", .ref g.aa), ("below", .ref g.ba)]
structure GrC (K : PySem.W.Frag) (C : Addr) : Prop where
  cl : Cls K C
  nL : NoAttr K C "lines"
  nP : NoAttr K C "places"
  nA : NoAttr K C "above"
  nB : NoAttr K C "below"
theorem gr_l (g : GAd) : (grF g).lookup ("lines" : Str) = some (.ref g.la) := by
  unfold grF
  rw [List.lookup_cons, show (("lines" : Str) == "lines") = true by decide +kernel]
theorem gr_p (g : GAd) : (grF g).lookup ("places" : Str) = some (.ref g.pa) := by
  unfold grF
  rw [List.lookup_cons, show (("places" : Str) == "lines") = false by decide +kernel, List.lookup_cons, show (("places" : Str) == "places") = true by decide +kernel]
theorem gr_a (g : GAd) : (grF g).lookup ("above" : Str) = some (.ref g.aa) := by
  unfold grF
  rw [List.lookup_cons, show (("above" : Str) == "lines") = false by decide +kernel, List.lookup_cons, show (("above" : Str) == "places") = false by decide +kernel, List.lookup_cons, show (("above" : Str) == "above") = true by decide +kernel]
theorem gr_b (g : GAd) : (grF g).lookup ("below" : Str) = some (.ref g.ba) := by
  unfold grF
  rw [List.lookup_cons, show (("below" : Str) == "lines") = false by decide +kernel, List.lookup_cons, show (("below" : Str) == "places") = false by decide +kernel, List.lookup_cons, show (("below" : Str) == "above") = false by decide +kernel, List.lookup_cons, show (("below" : Str) == "below") = true by decide +kernel]
theorem gr_no (g : GAd) {x : Str} (h1 : (x == ("lines" : Str)) = false) (h2 : (x == ("places" : Str)) = false) (h3 : (x == ("above" : Str)) = false) (h4 : (x == ("below" : Str)) = false) : (grF g).lookup x = none := by
  unfold grF
  rw [List.lookup_cons, h1, List.lookup_cons, h2, List.lookup_cons, h3, List.lookup_cons, h4]
  rfl
structure GrAt (C : Addr) (H : Hp) (g : GAd) (rows : List Rw) (rules : List NRul) (ls : List Ln) : Prop where
  ins : ∃ dx, H g.r = some (.ins C dx (grF g))
  lin : ∃ ws, H g.la = some (.lst ws) ∧ LnAts H ls ws
  plc : H g.pa = some (.dT (plT ls 0))
  abv : ∃ as, H g.aa = some (.lst (as.map nV)) ∧ MkA (2 * rows.length) (fun a b => hasP ls a b) as
  blw : ∃ as, H g.ba = some (.lst (as.map nV)) ∧ MkA (2 * rows.length) (fun a b => hasP ls b a) as
  ne : g.la ≠ g.aa ∧ g.la ≠ g.ba ∧ g.aa ≠ g.ba
  ok : GOk rows rules ls
def SameG (g : GAd) (H H' : Hp) : Prop := ∀ b o, H b = some o → b ≠ g.la → b ≠ g.pa → b ≠ g.aa → b ≠ g.ba → H' b = some o
theorem SameG.trans {g : GAd} {H H1 H2 : Hp} (a : SameG g H H1) (b : SameG g H1 H2) : SameG g H H2 := fun c o h n1 n2 n3 n4 => b c o (a c o h n1 n2 n3 n4) n1 n2 n3 n4
theorem Same.g {g : GAd} {H H' : Hp} (a : Same H H') : SameG g H H' := fun c o h _ _ _ _ => a c o h
theorem GrAt.same {C : Addr} {H H' : Hp} {g : GAd} {rows : List Rw} {rules : List NRul} {ls : List Ln} (e : Same H H') (h : GrAt C H g rows rules ls) : GrAt C H' g rows rules ls := by
  obtain ⟨⟨dx, h1⟩, ⟨ws, h2, h3⟩, h4, ⟨as, h5, h6⟩, ⟨bs, h7, h8⟩, h9, h10⟩ := h
  exact ⟨⟨dx, e _ _ h1⟩, ⟨ws, e _ _ h2, DAts.same e h3⟩, e _ _ h4, ⟨as, e _ _ h5, h6⟩, ⟨bs, e _ _ h7, h8⟩, h9, h10⟩
theorem GrAt.tups {C : Addr} {H H' : Hp} {g : GAd} {rows : List Rw} {rules : List NRul} {ls : List Ln} (h : GrAt C H g rows rules ls) (e : SameG g H H') : TupSame H H' := fun b xs hb => by
  obtain ⟨ws, h2, _⟩ := h.lin
  obtain ⟨as, h5, _⟩ := h.abv
  obtain ⟨bs, h7, _⟩ := h.blw
  exact e b _ hb (ne_of hb h2 (by intro z; cases z)) (ne_of hb h.plc (by intro z; cases z)) (ne_of hb h5 (by intro z; cases z)) (ne_of hb h7 (by intro z; cases z))
theorem psAt {H : Hp} {ps : List Int} {v : V} (h : DAt H (dWt (.ps ps)) v) : ∃ a, v = .ref a ∧ H a = some (.tup (ps.map V.int)) := by
  obtain ⟨a, us, e1, e2, e3⟩ := h
  have go : ∀ {ps : List Int} {us : List V}, DAts H (ps.map Dt.int) us → us = ps.map V.int := fun {ps} => by
    induction ps with
    | nil => exact fun h => h
    | cons n ns ih =>
      intro us h
      obtain ⟨v, r, e1, e2, e3⟩ := h
      have e2 : v = .int n := e2
      rw [e1, e2, ih e3]
      rfl
  rw [go e3] at e2
  exact ⟨a, e1, e2⟩
theorem atPs {H : Hp} {a : Addr} {ps : List Int} (h : H a = some (.tup (ps.map V.int))) : DAt H (dWt (.ps ps)) (.ref a) := by
  refine ⟨a, _, rfl, h, ?_⟩
  clear h
  induction ps with
  | nil => rfl
  | cons n ns ih => exact ⟨_, _, rfl, rfl, ih⟩
theorem whyAt {H : Hp} {x : Str} {as : List Wt} {v : V} (h : DAt H (dWhy x as) v) : ∃ a us, v = .ref a ∧ H a = some (.tup (.str x :: us)) ∧ WtAts H as us := by
  obtain ⟨a, vs, e1, e2, u, r, e3, h1, h2⟩ := h
  have h1 : u = .str x := h1
  subst h1 e3
  exact ⟨a, r, e1, e2, h2⟩
theorem lnAt {H : Hp} {l : Ln} {v : V} (h : DAt H (dLn l) v) : ∃ a u, v = .ref a ∧ H a = some (.tup [.int l.i, .int l.j, u]) ∧ DAt H (dWhy l.w l.as) u := by
  obtain ⟨a, vs, e1, e2, u1, r1, rfl, d1, u2, r2, rfl, d2, u3, r3, rfl, d3, d4⟩ := h
  have d1 : u1 = .int l.i := d1
  have d2 : u2 = .int l.j := d2
  have d4 : r3 = [] := d4
  subst d1 d2 d4
  exact ⟨a, u3, e1, e2, d3⟩
theorem atLn {H : Hp} {i j : Int} {x : Str} {as : List Wt} {a : Addr} {u : V} (h : H a = some (.tup [.int i, .int j, u])) (hu : DAt H (dWhy x as) u) : DAt H (dLn ⟨i, j, x, as⟩) (.ref a) :=
  ⟨a, _, rfl, h, _, _, rfl, rfl, _, _, rfl, rfl, _, _, rfl, hu, rfl⟩
theorem wts_tups {H H' : Hp} (e : TupSame H H') : ∀ {as : List Wt} {us : List V}, WtAts H as us → WtAts H' as us
  | [], us, h => h
  | .n i :: as, us, h => by
    obtain ⟨v, r, e1, e2, e3⟩ := h
    exact ⟨v, r, e1, e2, wts_tups e e3⟩
  | .ps l :: as, us, h => by
    obtain ⟨v, r, e1, e2, e3⟩ := h
    obtain ⟨a, rfl, g2⟩ := psAt e2
    exact ⟨_, r, e1, atPs (e _ _ g2), wts_tups e e3⟩
theorem why_tups {H H' : Hp} (e : TupSame H H') {x : Str} {as : List Wt} {v : V} (h : DAt H (dWhy x as) v) : DAt H' (dWhy x as) v := by
  obtain ⟨b, us, rfl, h3, h4⟩ := whyAt h
  exact ⟨b, _, rfl, e _ _ h3, _, _, rfl, rfl, wts_tups e h4⟩
theorem ln_tups {H H' : Hp} (e : TupSame H H') {l : Ln} {v : V} (h : DAt H (dLn l) v) : DAt H' (dLn l) v := by
  obtain ⟨a, u, rfl, h1, h2⟩ := lnAt h
  exact atLn (e _ _ h1) (why_tups e h2)
theorem lns_tups {H H' : Hp} (e : TupSame H H') : ∀ {ls : List Ln} {us : List V}, LnAts H ls us → LnAts H' ls us
  | [], us, h => h
  | l :: ls, us, h => by
    obtain ⟨v, r, e1, e2, e3⟩ := h
    exact ⟨v, r, e1, ln_tups e e2, lns_tups e e3⟩
theorem ixN_nat {n p : Nat} (h : p < n) : ixN n (p : Int) = some p := by
  unfold ixN
  rw [if_pos (by omega), if_pos (by omega), Int.toNat_natCast]
def spLo (C : Addr) : Sp := fun vs H Q _ => ∃ (g : GAd) (rows : List Rw) (rules : List NRul) (ls : List Ln) (i j : Int), vs = [.ref g.r, .int i, .int j] ∧ GrAt C H g rows rules ls ∧ hasP ls i j = true ∧ ∀ (p : Nat) (l : Ln) H', Same H H' → ls[p]? = some l → l.i = i → l.j = j → Q (.int p) H'
def spHs (C : Addr) : Sp := fun vs H Q _ => ∃ (g : GAd) (rows : List Rw) (rules : List NRul) (ls : List Ln) (i j : Int), vs = [.ref g.r, .int i, .int j] ∧ GrAt C H g rows rules ls ∧ ∀ H', Same H H' → Q (.bl (hasP ls i j)) H'
def GrTo (C : Addr) (H : Hp) (g : GAd) (rows : List Rw) (rules : List NRul) (ls : List Ln) (H' : Hp) : Prop := SameG g H H' ∧ ∃ t, GrAt C H' g rows rules (ls ++ t)
def GrH (C : Addr) (H : Hp) (g : GAd) (rows : List Rw) (rules : List NRul) (ls : List Ln) (R : List Ln → Prop) (H' : Hp) : Prop := SameG g H H' ∧ ∃ t, GrAt C H' g rows rules (ls ++ t) ∧ R (ls ++ t)
def spGw (C : Addr) : Sp := fun vs H Q _ => ∃ (g : GAd) (rows : List Rw) (rules : List NRul) (ls : List Ln) (i j : Nat) (wv : V) (x : Str) (as : List Wt), vs = [.ref g.r, .int i, .int j, wv] ∧ GrAt C H g rows rules ls ∧ rows.length ≤ 100 ∧ DAt H (dWhy x as) wv ∧ stepB rows rules ls ls.length ⟨i, j, x, as⟩ = true ∧ OW as ∧ ∀ H', GrH C H g rows rules ls (fun L => hasP L i j = true) H' → Q .non H'
section
variable {P : Program} {w : World} {K : PySem.W.Frag} {mg : Str → Option Value} {base : Heap} {f : Addr} {fd : FuncData}
theorem ok_line_of {C : Addr} (T : GrC K C) (F : Fun K "line_of" "Growth.line_of" s_Growth_line_of f fd) : FnOk P w K mg base CX0 1 f fd ["self", "i", "j"] (spLo C) := by
  refine F.ok sc_Growth_line_of (fun vs H Q E h => ?_) (fun cdv A outer s H vs Q E hr h => ?_)
  · obtain ⟨g, rows, rules, ls, i, j, rfl, _⟩ := h
    rfl
  obtain ⟨g, rows, rules, ls, i, j, rfl, hg, hh, q⟩ := h
  obtain ⟨dx, hi⟩ := hg.ins
  refine ⟨_, (pss_one (ps_ret (pe_dget (hu_of hr) (pe_fld (pv 0) rfl) (pe_tup (pa_cons (pv 1) (pa_cons (pv 2) pa_nil))) (fun _ _ => rfl)))), ?_⟩
  simp only [tSeq, tFor_eq, tLC_eq, iRng1, iRng2, iList, iTup, iStr, tIfS, tRet, tRetN, tNext, tAsg, gName, tVar, tC, tOp, rI0, rI, tTest, tB, rEq, rNe, tCall, tCons, tNil, tCB, tLst, tTup, tAnd, tOr, tNot, tAndV, tOrV, tNotV, tIf, tDrop, tSl, tPart, tNoPart, tChain, tUn, rU, L2.start, cx_K, bk_K, cx_calm, bk_calm, lenV_str, and_assoc, Option.join, List.length_map, List.length_append, decide_eq_true_eq, Bool.false_eq_true, if_false, if_true, Bool.not_true, Bool.not_false, Bool.not_eq_true', decide_eq_false_iff_not, Bool.true_eq_false, List.length_cons, List.length_nil, List.map_cons, List.map_nil, List.replicate, List.cons_append, List.nil_append, List.append_nil, List.getElem?_cons_zero, List.getElem?_cons_succ, List.set_cons_zero, List.set_cons_succ, Nat.reduceSub, Nat.reduceAdd, Option.some.injEq, V.int.injEq, V.str.injEq, V.bl.injEq, V.ref.injEq, List.cons.injEq, and_true, true_and, exists_eq_left', exists_eq_left, exists_and_left, exists_eq_right, exists_const, tBM, tBM0, rAppend, rPop, rIxL, rIxT, rIxS, rSlL, rSlT, rSlS, rCat, rCatT, tKGet, cx_w, bk_w, tDGet, tDisp, tPairs, tDNewK, cx_P, tFld]
  refine ⟨C, dx, _, hi, T.cl, T.nP, _, gr_p g, small (by simp), fun p hp => ?_⟩
  have s1 := same_new hp (.tup [.int i, .int j])
  rcases plT_val (i := i) (j := j) ls 0 with ⟨h1, _⟩ | ⟨p', l, h1, h2, h3, h4⟩
  · rw [hh] at h1; cases h1
  rw [Nat.zero_add] at h4
  exact ⟨g.pa, rfl, _, .inr ⟨_, key2 i j, p, .inl (s1 _ _ hg.plc), rfl, upd_same, h4.symm⟩, q p' l _ s1 h1 h2 h3⟩
theorem ok_has {C : Addr} (T : GrC K C) (F : Fun K "has" "Growth.has" s_Growth_has f fd) : FnOk P w K mg base CX0 1 f fd ["self", "i", "j"] (spHs C) := by
  refine F.ok sc_Growth_has (fun vs H Q E h => ?_) (fun cdv A outer s H vs Q E hr h => ?_)
  · obtain ⟨g, rows, rules, ls, i, j, rfl, _⟩ := h
    rfl
  obtain ⟨g, rows, rules, ls, i, j, rfl, hg, q⟩ := h
  obtain ⟨dx, hi⟩ := hg.ins
  refine ⟨_, (pss_one (ps_ret (pe_cmp (pc_din (hu_of hr) (pe_tup (pa_cons (pv 1) (pa_cons (pv 2) pa_nil))) (pe_fld (pv 0) rfl)) (by with_unfolding_all rfl)))), ?_⟩
  simp only [tSeq, tFor_eq, tLC_eq, iRng1, iRng2, iList, iTup, iStr, tIfS, tRet, tRetN, tNext, tAsg, gName, tVar, tC, tOp, rI0, rI, tTest, tB, rEq, rNe, tCall, tCons, tNil, tCB, tLst, tTup, tAnd, tOr, tNot, tAndV, tOrV, tNotV, tIf, tDrop, tSl, tPart, tNoPart, tChain, tUn, rU, L2.start, cx_K, bk_K, cx_calm, bk_calm, lenV_str, and_assoc, Option.join, List.length_map, List.length_append, decide_eq_true_eq, Bool.false_eq_true, if_false, if_true, Bool.not_true, Bool.not_false, Bool.not_eq_true', decide_eq_false_iff_not, Bool.true_eq_false, List.length_cons, List.length_nil, List.map_cons, List.map_nil, List.replicate, List.cons_append, List.nil_append, List.append_nil, List.getElem?_cons_zero, List.getElem?_cons_succ, List.set_cons_zero, List.set_cons_succ, Nat.reduceSub, Nat.reduceAdd, Option.some.injEq, V.int.injEq, V.str.injEq, V.bl.injEq, V.ref.injEq, List.cons.injEq, and_true, true_and, exists_eq_left', exists_eq_left, exists_and_left, exists_eq_right, exists_const, tBM, tBM0, rAppend, rPop, rIxL, rIxT, rIxS, rSlL, rSlT, rSlS, rCat, rCatT, tKGet, cx_w, bk_w, tDGet, tDisp, tPairs, tDNewK, cx_P, tFld, tDIn]
  refine ⟨small (by simp), fun p hp => ?_⟩
  have s1 := same_new hp (.tup [.int i, .int j])
  refine ⟨C, dx, _, s1 _ _ hi, T.cl, T.nP, _, gr_p g, g.pa, rfl, _, .inr ⟨_, key2 i j, p, .inl (s1 _ _ hg.plc), rfl, upd_same, rfl⟩, ?_⟩
  have e : (valV (plT ls 0) (key2 i j)).isSome = hasP ls i j := by
    rcases plT_val (i := i) (j := j) ls 0 with ⟨h1, h2⟩ | ⟨p', l, h1, h2, h3, h4⟩
    · rw [h1, h2]; rfl
    · rw [h4, hasP_iff.mpr ⟨p', l, h1, h2, h3⟩]; rfl
  rw [e]
  exact q _ s1
end
end C
set_option Elab.async false
set_option linter.all false
set_option maxRecDepth 100000
set_option maxHeartbeats 8000000
namespace C
open PySem L2
seal PE PT PW PA PS PSs PG PGs PI PPs PO PSet PIf
section
variable {P : Program} {w : World} {K : PySem.W.Frag} {mg : Str → Option Value} {base : Heap} {f : Addr} {fd : FuncData}
theorem ok_grow {C : Addr} (T : GrC K C) (bi : Bi mg) (h_Growth_has : HasM P w K mg base 1 C "has" ["self", "i", "j"] (spHs C)) (F : Fun K "grow" "Growth.grow" s_Growth_grow f fd) : FnOk P w K mg base CX0 2 f fd ["self", "i", "j", "why"] (spGw C) := by
  refine F.ok sc_Growth_grow (fun vs H Q E h => ?_) (fun cdv A outer s H vs Q E hr h => ?_)
  · obtain ⟨g, rows, rules, ls, i, j, wv, x, as, rfl, _⟩ := h
    rfl
  obtain ⟨g, rows, rules, ls, i, j, wv, x, as, rfl, hg, h30, hw, hst, how, q⟩ := h
  have cl_Growth := T.cl
  obtain ⟨dx, hi⟩ := hg.ins
  have hlen := hg.ok.len
  have hlen2 : ls.length ≤ 40000 := by
    have : 2 * rows.length * (2 * rows.length) ≤ 200 * 200 := Nat.mul_le_mul (by omega) (by omega)
    omega
  obtain ⟨⟨i0, i1⟩, j0, j1⟩ := step_rng hst
  have i1 : (i : Int) < 2 * (rows.length : Int) := i1
  have j1 : (j : Int) < 2 * (rows.length : Int) := j1
  refine ⟨_, (pss_cons (ps_if (pt_val (pe_methH h_Growth_has cl_Growth (hr.mono (by omega)) (pv 0) (pa_cons (pv 1) (pa_cons (pv 2) pa_nil)))) (pss_one ps_retN) pss_nil) (pss_cons (ps_dput (hu_of hr) (pe_fld (pv 0) rfl) (pe_tup (pa_cons (pv 1) (pa_cons (pv 2) pa_nil))) (pe_callB call_len rfl bi.len bt_len (pa_cons (pe_fld (pv 0) rfl) pa_nil)) rfl) (pss_cons (ps_expr (pe_bm PySem.F.plainAttrs_list PySem.F.slot_list_append PySem.F.type_list_append mt_append (pe_fld (pv 0) rfl) (pa_cons (pe_tup (pa_cons (pv 1) (pa_cons (pv 2) (pa_cons (pv 3) pa_nil)))) pa_nil))) (pss_cons (ps_augS (pe_fld (pv 0) rfl) (pv 1) get_list (pe_op op_shl pe_int (pv 2)) ip_or set_list) (pss_one (ps_augS (pe_fld (pv 0) rfl) (pv 2) get_list (pe_op op_shl pe_int (pv 1)) ip_or set_list)))))), ?_⟩
  refine seq_abs fun N hN => ?_
  simp only [tSeq, tFor_eq, tLC_eq, iRng1, iRng2, iList, iTup, iStr, tIfS, tRet, tRetN, tNext, tAsg, gName, tVar, tC, tOp, rI0, rI, tTest, tB, rEq, rNe, tCall, tCons, tNil, tCB, tLst, tTup, tAnd, tOr, tNot, tAndV, tOrV, tNotV, tIf, tDrop, tSl, tPart, tNoPart, tChain, tUn, rU, L2.start, cx_K, bk_K, cx_calm, bk_calm, lenV_str, and_assoc, Option.join, List.length_map, List.length_append, decide_eq_true_eq, Bool.false_eq_true, if_false, if_true, Bool.not_true, Bool.not_false, Bool.not_eq_true', decide_eq_false_iff_not, Bool.true_eq_false, List.length_cons, List.length_nil, List.map_cons, List.map_nil, List.replicate, List.cons_append, List.nil_append, List.append_nil, List.getElem?_cons_zero, List.getElem?_cons_succ, List.set_cons_zero, List.set_cons_succ, Nat.reduceSub, Nat.reduceAdd, Option.some.injEq, V.int.injEq, V.str.injEq, V.bl.injEq, V.ref.injEq, List.cons.injEq, and_true, true_and, exists_eq_left', exists_eq_left, exists_and_left, exists_eq_right, exists_const, tBM, tBM0, rAppend, rPop, rIxL, rIxT, rIxS, rSlL, rSlT, rSlS, rCat, rCatT, tKGet, cx_w, bk_w, tDGet, tDisp, tPairs, tDNewK, cx_P, tMeth]
  refine ⟨_, _, hi, gr_no g (by decide +kernel) (by decide +kernel) (by decide +kernel) (by decide +kernel), ?_⟩
  refine ⟨g, rows, rules, ls, i, j, rfl, hg, fun H1 s1 => ⟨_, rfl, ?_⟩⟩
  cases hb : hasP ls i j with
  | true =>
    rw [if_pos rfl]
    exact q _ ⟨Same.g s1, [], by rw [List.append_nil]; exact ⟨hg.same s1, hb⟩⟩
  | false =>
    rw [if_neg Bool.false_ne_true]
    refine hN _ _ ?_
    clear hN
    replace hg := hg.same s1
    replace hi := s1 _ _ hi
    replace hw := DAt.same s1 hw
    have h4' := hg.plc
    obtain ⟨⟨_, _⟩, ⟨ws, h2, h3⟩, h4, ⟨bs, h5, h6⟩, ⟨cs, h7, h8⟩, ⟨n1, n2, n3⟩, h10⟩ := hg
    have hwl := mapLen h3
    have hpar : g.pa ≠ g.r := ne_of h4 hi (by intro z; cases z)
    have hlar : g.la ≠ g.r := ne_of h2 hi (by intro z; cases z)
    have haar : g.aa ≠ g.r := ne_of h5 hi (by intro z; cases z)
    have hbar : g.ba ≠ g.r := ne_of h7 hi (by intro z; cases z)
    have hpla : g.pa ≠ g.la := ne_of h4 h2 (by intro z; cases z)
    have hpaa : g.pa ≠ g.aa := ne_of h4 h5 (by intro z; cases z)
    have hpba : g.pa ≠ g.ba := ne_of h4 h7 (by intro z; cases z)
    refine seq_abs fun N hN => ?_
    simp only [tSeq, tFor_eq, tLC_eq, iRng1, iRng2, iList, iTup, iStr, tIfS, tRet, tRetN, tNext, tAsg, gName, tVar, tC, tOp, rI0, rI, tTest, tB, rEq, rNe, tCall, tCons, tNil, tCB, tLst, tTup, tAnd, tOr, tNot, tAndV, tOrV, tNotV, tIf, tDrop, tSl, tPart, tNoPart, tChain, tUn, rU, L2.start, cx_K, bk_K, cx_calm, bk_calm, lenV_str, and_assoc, Option.join, List.length_map, List.length_append, decide_eq_true_eq, Bool.false_eq_true, if_false, if_true, Bool.not_true, Bool.not_false, Bool.not_eq_true', decide_eq_false_iff_not, Bool.true_eq_false, List.length_cons, List.length_nil, List.map_cons, List.map_nil, List.replicate, List.cons_append, List.nil_append, List.append_nil, List.getElem?_cons_zero, List.getElem?_cons_succ, List.set_cons_zero, List.set_cons_succ, Nat.reduceSub, Nat.reduceAdd, Option.some.injEq, V.int.injEq, V.str.injEq, V.bl.injEq, V.ref.injEq, List.cons.injEq, and_true, true_and, exists_eq_left', exists_eq_left, exists_and_left, exists_eq_right, exists_const, tBM, tBM0, rAppend, rPop, rIxL, rIxT, rIxS, rSlL, rSlT, rSlS, rCat, rCatT, tKGet, cx_w, bk_w, tDGet, tDisp, tPairs, tDNewK, cx_P, tFld, sDPut]
    have sz : ∀ {n : Nat}, n ≤ 40000 → n < sizeLine := fun h => Nat.lt_of_le_of_lt (m := 100000) (by omega) (by decide)
    refine ⟨C, dx, _, hi, T.cl, T.nL, _, gr_l g, ws.length, .inl ⟨_, SqL.of h2, rfl⟩, C, dx, _, hi, T.cl, T.nP, _, gr_p g, small (by simp), fun p hp => ?_⟩
    have s2 := same_new hp (.tup [.int (i : Int), .int (j : Int)])
    have kp : upd H1 p (.tup [.int (i : Int), .int (j : Int)]) p = some (.tup [.int (i : Int), .int (j : Int)]) := upd_same
    generalize upd H1 p (.tup [.int (i : Int), .int (j : Int)]) = H2 at s2 kp ⊢
    refine ⟨g.pa, rfl, _, .inr ⟨_, key2 i j, p, s2 _ _ h4, rfl, kp, by rw [plT_len]; exact sz hlen2, rfl⟩, hN _ _ ?_⟩
    clear hN
    have vn : valV (plT ls 0) (key2 i j) = none := by
      rcases plT_val (i := i) (j := j) ls 0 with ⟨_, h⟩ | ⟨p', l, g1, g2, g3, _⟩
      · exact h
      · have := hasP_iff.mpr ⟨p', l, g1, g2, g3⟩
        rw [hb] at this
        cases this
    rw [put_new vn]
    have ep : plT ls 0 ++ [(key2 i j, V.int (ws.length : Int))] = plT (ls ++ [⟨i, j, x, as⟩]) 0 := by rw [plT_snoc, Nat.zero_add, hwl]
    rw [ep]
    have g3 : SameG g H1 (upd H2 g.pa (.dT (plT (ls ++ [⟨i, j, x, as⟩]) 0))) := fun b o hb _ n _ _ => by rw [upd_ne n]; exact s2 _ _ hb
    have e1 : ∀ {b : Addr} {o : HO}, H1 b = some o → b ≠ g.pa → upd H2 g.pa (.dT (plT (ls ++ [⟨i, j, x, as⟩]) 0)) b = some o := fun hb n => by rw [upd_ne n]; exact s2 _ _ hb
    replace hi := e1 hi (Ne.symm hpar)
    replace h2 := e1 h2 (Ne.symm hpla)
    replace h5 := e1 h5 (Ne.symm hpaa)
    replace h7 := e1 h7 (Ne.symm hpba)
    clear e1
    replace h4 : upd H2 g.pa (.dT (plT (ls ++ [⟨i, j, x, as⟩]) 0)) g.pa = some (.dT (plT (ls ++ [⟨i, j, x, as⟩]) 0)) := upd_same
    have tu : TupSame H1 (upd H2 g.pa (.dT (plT (ls ++ [⟨i, j, x, as⟩]) 0))) := fun b xs hb => by
      have hb2 := s2 _ _ hb
      rw [upd_ne (ne_of hb h4' (by intro z; cases z))]
      exact hb2
    generalize upd H2 g.pa (.dT (plT (ls ++ [⟨i, j, x, as⟩]) 0)) = H3 at g3 hi h2 h5 h7 h4 tu ⊢
    replace h3 := lns_tups tu h3
    replace hw := why_tups tu hw
    clear kp s2 hp vn ep tu
    refine seq_abs fun N hN => ?_
    simp only [tSeq, tFor_eq, tLC_eq, iRng1, iRng2, iList, iTup, iStr, tIfS, tRet, tRetN, tNext, tAsg, gName, tVar, tC, tOp, rI0, rI, tTest, tB, rEq, rNe, tCall, tCons, tNil, tCB, tLst, tTup, tAnd, tOr, tNot, tAndV, tOrV, tNotV, tIf, tDrop, tSl, tPart, tNoPart, tChain, tUn, rU, L2.start, cx_K, bk_K, cx_calm, bk_calm, lenV_str, and_assoc, Option.join, List.length_map, List.length_append, decide_eq_true_eq, Bool.false_eq_true, if_false, if_true, Bool.not_true, Bool.not_false, Bool.not_eq_true', decide_eq_false_iff_not, Bool.true_eq_false, List.length_cons, List.length_nil, List.map_cons, List.map_nil, List.replicate, List.cons_append, List.nil_append, List.append_nil, List.getElem?_cons_zero, List.getElem?_cons_succ, List.set_cons_zero, List.set_cons_succ, Nat.reduceSub, Nat.reduceAdd, Option.some.injEq, V.int.injEq, V.str.injEq, V.bl.injEq, V.ref.injEq, List.cons.injEq, and_true, true_and, exists_eq_left', exists_eq_left, exists_and_left, exists_eq_right, exists_const, tBM, tBM0, rAppend, rPop, rIxL, rIxT, rIxS, rSlL, rSlT, rSlS, rCat, rCatT, tKGet, cx_w, bk_w, tDGet, tDisp, tPairs, tDNewK, cx_P, tFld]
    refine ⟨C, dx, _, hi, T.cl, T.nL, _, gr_l g, .inl ⟨rfl, _, SqL.of h2⟩, small (by simp), fun pt hpt => ?_⟩
    have s2 := same_new hpt (.tup [.int (i : Int), .int (j : Int), wv])
    have kt : upd H3 pt (.tup [.int (i : Int), .int (j : Int), wv]) pt = some (.tup [.int (i : Int), .int (j : Int), wv]) := upd_same
    generalize upd H3 pt (.tup [.int (i : Int), .int (j : Int), wv]) = H4 at s2 kt ⊢
    refine ⟨g.la, rfl, _, s2 _ _ h2, sz (by omega), hN _ _ ?_⟩
    clear hN
    have e1 : ∀ {b : Addr} {o : HO}, H3 b = some o → b ≠ g.la → upd H4 g.la (.lst (ws ++ [.ref pt])) b = some o := fun hb n => by rw [upd_ne n]; exact s2 _ _ hb
    have g4 : SameG g H3 (upd H4 g.la (.lst (ws ++ [.ref pt]))) := fun b o hb n _ _ _ => e1 hb n
    have tu : TupSame H4 (upd H4 g.la (.lst (ws ++ [.ref pt]))) := (TupSame.refl _).upd_lst (s2 _ _ h2)
    have h3' : LnAts (upd H4 g.la (.lst (ws ++ [.ref pt]))) (ls ++ [⟨i, j, x, as⟩]) (ws ++ [.ref pt]) := by
      refine lns_tups tu ?_
      unfold LnAts
      rw [List.map_append]
      exact DAts.append (DAts.same s2 h3) (DAts.one (atLn kt (DAt.same s2 hw)))
    replace hi := e1 hi (Ne.symm hlar)
    replace h4 := e1 h4 hpla
    replace h5 := e1 h5 (Ne.symm n1)
    replace h7 := e1 h7 (Ne.symm n2)
    have h2' : upd H4 g.la (.lst (ws ++ [.ref pt])) g.la = some (.lst (ws ++ [.ref pt])) := upd_same
    replace g3 := g3.trans g4
    generalize upd H4 g.la (.lst (ws ++ [.ref pt])) = H5 at g3 hi h4 h5 h7 h2' h3' ⊢
    clear e1 g4 tu kt s2 hpt h2 h3 hw
    have li : i < bs.length := by rw [h6.len]; omega
    have lj : j < cs.length := by rw [h8.len]; omega
    have gi := List.getElem?_eq_getElem li
    have gj := List.getElem?_eq_getElem lj
    generalize bs[i] = ci at gi
    generalize cs[j] = cj at gj
    have mset : ∀ (cs : List Nat) (i v : Nat), (cs.map nV).set i (V.int (v : Int)) = (cs.set i v).map nV := fun cs i v => (List.map_set (f := nV) (l := cs) (i := i) (a := v)).symm
    refine seq_abs fun N hN => ?_
    simp only [tSeq, tFor_eq, tLC_eq, iRng1, iRng2, iList, iTup, iStr, tIfS, tRet, tRetN, tNext, tAsg, gName, tVar, tC, tOp, rI0, rI, tTest, tB, rEq, rNe, tCall, tCons, tNil, tCB, tLst, tTup, tAnd, tOr, tNot, tAndV, tOrV, tNotV, tIf, tDrop, tSl, tPart, tNoPart, tChain, tUn, rU, L2.start, cx_K, bk_K, cx_calm, bk_calm, lenV_str, and_assoc, Option.join, List.length_map, List.length_append, decide_eq_true_eq, Bool.false_eq_true, if_false, if_true, Bool.not_true, Bool.not_false, Bool.not_eq_true', decide_eq_false_iff_not, Bool.true_eq_false, List.length_cons, List.length_nil, List.map_cons, List.map_nil, List.replicate, List.cons_append, List.nil_append, List.append_nil, List.getElem?_cons_zero, List.getElem?_cons_succ, List.set_cons_zero, List.set_cons_succ, Nat.reduceSub, Nat.reduceAdd, Option.some.injEq, V.int.injEq, V.str.injEq, V.bl.injEq, V.ref.injEq, List.cons.injEq, and_true, true_and, exists_eq_left', exists_eq_left, exists_and_left, exists_eq_right, exists_const, tBM, tBM0, rAppend, rPop, rIxL, rIxT, rIxS, rSlL, rSlT, rSlS, rCat, rCatT, tKGet, cx_w, bk_w, tDGet, tDisp, tPairs, tDNewK, cx_P, tAugS, tFld, rGetL, ipI, rSetL]
    refine ⟨C, dx, _, hi, T.cl, T.nA, _, gr_a g, g.aa, rfl, _, i, rfl, h5, nV ci, by rw [List.getElem?_map, gi]; rfl, ⟨by omega, by omega, by decide⟩, _, rfl, g.aa, rfl, _, h5, i, ixN_nat (by rw [List.length_map]; exact li), hN _ _ ?_⟩
    clear hN
    rw [shl_one j, or_mask, mset]
    have bc : ∀ a b : Nat, (((a : Nat) : Int) == ((b : Nat) : Int)) = (b == a) := fun a b => by
      rw [Bool.eq_iff_iff, beq_iff_eq, beq_iff_eq]
      omega
    have e1 : ∀ {b : Addr} {o : HO}, H5 b = some o → b ≠ g.aa → upd H5 g.aa (.lst ((bs.set i (ci ||| 2 ^ j)).map nV)) b = some o := fun hb n => by rw [upd_ne n]; exact hb
    have g4 : SameG g H5 (upd H5 g.aa (.lst ((bs.set i (ci ||| 2 ^ j)).map nV))) := fun b o hb _ _ n _ => e1 hb n
    have tu : TupSame H5 (upd H5 g.aa (.lst ((bs.set i (ci ||| 2 ^ j)).map nV))) := (TupSame.refl _).upd_lst h5
    replace h3' := lns_tups tu h3'
    replace hi := e1 hi (Ne.symm haar)
    replace h4 := e1 h4 hpaa
    replace h2' := e1 h2' n1
    replace h7 := e1 h7 (Ne.symm n3)
    have h5' : upd H5 g.aa (.lst ((bs.set i (ci ||| 2 ^ j)).map nV)) g.aa = some (.lst ((bs.set i (ci ||| 2 ^ j)).map nV)) := upd_same
    replace g3 := g3.trans g4
    generalize upd H5 g.aa (.lst ((bs.set i (ci ||| 2 ^ j)).map nV)) = H6 at g3 hi h4 h5' h7 h2' h3' ⊢
    clear e1 g4 tu h5
    simp only [tSeq, tFor_eq, tLC_eq, iRng1, iRng2, iList, iTup, iStr, tIfS, tRet, tRetN, tNext, tAsg, gName, tVar, tC, tOp, rI0, rI, tTest, tB, rEq, rNe, tCall, tCons, tNil, tCB, tLst, tTup, tAnd, tOr, tNot, tAndV, tOrV, tNotV, tIf, tDrop, tSl, tPart, tNoPart, tChain, tUn, rU, L2.start, cx_K, bk_K, cx_calm, bk_calm, lenV_str, and_assoc, Option.join, List.length_map, List.length_append, decide_eq_true_eq, Bool.false_eq_true, if_false, if_true, Bool.not_true, Bool.not_false, Bool.not_eq_true', decide_eq_false_iff_not, Bool.true_eq_false, List.length_cons, List.length_nil, List.map_cons, List.map_nil, List.replicate, List.cons_append, List.nil_append, List.append_nil, List.getElem?_cons_zero, List.getElem?_cons_succ, List.set_cons_zero, List.set_cons_succ, Nat.reduceSub, Nat.reduceAdd, Option.some.injEq, V.int.injEq, V.str.injEq, V.bl.injEq, V.ref.injEq, List.cons.injEq, and_true, true_and, exists_eq_left', exists_eq_left, exists_and_left, exists_eq_right, exists_const, tBM, tBM0, rAppend, rPop, rIxL, rIxT, rIxS, rSlL, rSlT, rSlS, rCat, rCatT, tKGet, cx_w, bk_w, tDGet, tDisp, tPairs, tDNewK, cx_P, tAugS, tFld, rGetL, ipI, rSetL]
    refine ⟨C, dx, _, hi, T.cl, T.nB, _, gr_b g, g.ba, rfl, _, j, rfl, h7, nV cj, by rw [List.getElem?_map, gj]; rfl, ⟨by omega, by omega, by decide⟩, _, rfl, g.ba, rfl, _, h7, j, ixN_nat (by rw [List.length_map]; exact lj), ?_⟩
    rw [shl_one i, or_mask, mset]
    have e1 : ∀ {b : Addr} {o : HO}, H6 b = some o → b ≠ g.ba → upd H6 g.ba (.lst ((cs.set j (cj ||| 2 ^ i)).map nV)) b = some o := fun hb n => by rw [upd_ne n]; exact hb
    have g4 : SameG g H6 (upd H6 g.ba (.lst ((cs.set j (cj ||| 2 ^ i)).map nV))) := fun b o hb _ _ _ n => e1 hb n
    have tu : TupSame H6 (upd H6 g.ba (.lst ((cs.set j (cj ||| 2 ^ i)).map nV))) := (TupSame.refl _).upd_lst h7
    refine q _ ⟨((Same.g s1).trans g3).trans g4, [⟨i, j, x, as⟩], ⟨⟨⟨dx, e1 hi (Ne.symm hbar)⟩, ⟨_, e1 h2' n2, lns_tups tu h3'⟩, e1 h4 hpba, ⟨_, e1 h5' n3, h6.put gi fun a b => ?_⟩, ⟨_, upd_same, h8.put gj fun a b => ?_⟩, ⟨n1, n2, n3⟩, h10.put hb hst how⟩, by show hasP (ls ++ [⟨i, j, x, as⟩]) i j = true; rw [hasP_app, hasP_one]; simp⟩⟩
    · rw [hasP_app, hasP_one]
      show (hasP ls a b || (((i : Nat) : Int) == ((a : Nat) : Int) && ((j : Nat) : Int) == ((b : Nat) : Int))) = _
      rw [bc, bc]
    · rw [hasP_app, hasP_one]
      show (hasP ls b a || (((i : Nat) : Int) == ((b : Nat) : Int) && ((j : Nat) : Int) == ((a : Nat) : Int))) = _
      rw [bc, bc, Bool.and_comm]
end
end C
set_option Elab.async false
set_option linter.all false
set_option maxRecDepth 100000
set_option maxHeartbeats 8000000
namespace C
open PySem L2
seal PE PT PW PA PS PSs PG PGs PI PPs PO PSet PIf
theorem rep_zero (m : Nat) : (List.replicate m [V.int 0]).flatten = (List.replicate m 0).map nV := by
  induction m with
  | zero => rfl
  | succ m ih =>
    rw [List.replicate_succ, List.flatten_cons, ih, List.replicate_succ, List.map_cons]
    rfl
theorem mk_nil (n : Nat) (hp : Nat → Nat → Bool) (h : ∀ a b, hp a b = false) : MkA n hp (List.replicate n 0) := ⟨List.length_replicate .., fun a c hc b => by
  obtain ⟨_, e⟩ := List.getElem?_eq_some_iff.mp hc
  rw [List.getElem_replicate] at e
  subst e
  rw [h]
  simp⟩
def spGI (C : Addr) : Sp := fun vs H Q _ => ∃ (r dx : Addr) (rows : List Rw) (rules : List NRul), vs = [.ref r, .int ((2 * rows.length : Nat) : Int)] ∧ H r = some (.ins C dx []) ∧ rows.length ≤ 100 ∧ ∀ (g : GAd) H', g.r = r → SameX r H H' → H g.la = none → H g.pa = none → H g.aa = none → H g.ba = none → GrAt C H' g rows rules [] → Q .non H'
theorem samex_new {r l : Addr} {H H' : Hp} {o : HO} (e : SameX r H H') (h : H l = none) : SameX r H (upd H' l o) := fun b u hb n => by
  have : b ≠ l := fun z => by rw [z, h] at hb; cases hb
  rw [upd_ne this]
  exact e b u hb n
theorem samex_free {r l : Addr} {H H' : Hp} (e : SameX r H H') (h : H' l = none) (n : l ≠ r) : H l = none := by
  cases hl : H l with
  | none => rfl
  | some o => have := e l o hl n; rw [h] at this; cases this
section
variable {P : Program} {w : World} {K : PySem.W.Frag} {mg : Str → Option Value} {base : Heap} {f : Addr} {fd : FuncData}
theorem ok_ginit {C : Addr} (T : GrC K C) (F : Fun K "__init__" "Growth.__init__" s_Growth_init f fd) : FnOk P w K mg base CX0 1 f fd ["self", "many"] (spGI C) := by
  refine F.ok sc_Growth_init (fun vs H Q E h => ?_) (fun cdv A outer s H vs Q E hr h => ?_)
  · obtain ⟨r, dx, rows, rules, rfl, _⟩ := h
    rfl
  obtain ⟨r, dx, rows, rules, rfl, hr', h30, q⟩ := h
  generalize hn : 2 * rows.length = n at q
  have n60 : n ≤ 200 := by omega
  -- an address that is free is not r
  have step : ∀ {H' : Hp} {b : Addr} {u : HO}, H' r = some u → H' b = none → b ≠ r := fun h1 h2 z => by rw [z, h1] at h2; cases h2
  refine ⟨_, (pss_cons (ps_fld (pv 0) (pe_lst pa_nil) rfl) (pss_cons (ps_fld (pv 0) pe_dnewT rfl) (pss_cons (ps_fld (pv 0) (pe_op op_rep (pe_lst (pa_cons pe_int pa_nil)) (pv 1)) rfl) (pss_one (ps_fld (pv 0) (pe_op op_rep (pe_lst (pa_cons pe_int pa_nil)) (pv 1)) rfl))))), ?_⟩
  refine seq_abs fun N hN => ?_
  simp only [tSeq, tFor_eq, tLC_eq, iRng1, iRng2, iList, iTup, iStr, tIfS, tRet, tRetN, tNext, tAsg, gName, tVar, tC, tOp, rI0, rI, tTest, tB, rEq, rNe, tCall, tCons, tNil, tCB, tLst, tTup, tAnd, tOr, tNot, tAndV, tOrV, tNotV, tIf, tDrop, tSl, tPart, tNoPart, tChain, tUn, rU, L2.start, cx_K, bk_K, cx_calm, bk_calm, lenV_str, and_assoc, Option.join, List.length_map, List.length_append, decide_eq_true_eq, Bool.false_eq_true, if_false, if_true, Bool.not_true, Bool.not_false, Bool.not_eq_true', decide_eq_false_iff_not, Bool.true_eq_false, List.length_cons, List.length_nil, List.map_cons, List.map_nil, List.replicate, List.cons_append, List.nil_append, List.append_nil, List.getElem?_cons_zero, List.getElem?_cons_succ, List.set_cons_zero, List.set_cons_succ, Nat.reduceSub, Nat.reduceAdd, Option.some.injEq, V.int.injEq, V.str.injEq, V.bl.injEq, V.ref.injEq, List.cons.injEq, and_true, true_and, exists_eq_left', exists_eq_left, exists_and_left, exists_eq_right, exists_const, tBM, tBM0, rAppend, rPop, rIxL, rIxT, rIxS, rSlL, rSlT, rSlS, rCat, rCatT, tKGet, cx_w, bk_w, tDGet, tDisp, tPairs, tDNewK, cx_P, sFld]
  refine ⟨small (by simp), fun la hla => ?_⟩
  have nla := step hr' hla
  refine ⟨C, dx, [], by rw [upd_ne (Ne.symm nla)]; exact hr', T.cl, T.nL, by decide, hN _ _ ?_⟩
  clear hN
  have x1 : SameX r H (upd (upd H la (.lst [])) r (.ins C dx (putF "lines" (.ref la) []))) := SameX.upd (samex_new (SameX.refl r H) hla)
  have k1 : upd (upd H la (.lst [])) r (.ins C dx (putF "lines" (.ref la) [])) r = some (.ins C dx (putF "lines" (.ref la) [])) := upd_same
  have l1 : upd (upd H la (.lst [])) r (.ins C dx (putF "lines" (.ref la) [])) la = some (.lst []) := by rw [upd_ne nla]; exact upd_same
  generalize upd (upd H la (.lst [])) r (.ins C dx (putF "lines" (.ref la) [])) = H1 at x1 k1 l1 ⊢
  refine seq_abs fun N hN => ?_
  simp only [tSeq, tFor_eq, tLC_eq, iRng1, iRng2, iList, iTup, iStr, tIfS, tRet, tRetN, tNext, tAsg, gName, tVar, tC, tOp, rI0, rI, tTest, tB, rEq, rNe, tCall, tCons, tNil, tCB, tLst, tTup, tAnd, tOr, tNot, tAndV, tOrV, tNotV, tIf, tDrop, tSl, tPart, tNoPart, tChain, tUn, rU, L2.start, cx_K, bk_K, cx_calm, bk_calm, lenV_str, and_assoc, Option.join, List.length_map, List.length_append, decide_eq_true_eq, Bool.false_eq_true, if_false, if_true, Bool.not_true, Bool.not_false, Bool.not_eq_true', decide_eq_false_iff_not, Bool.true_eq_false, List.length_cons, List.length_nil, List.map_cons, List.map_nil, List.replicate, List.cons_append, List.nil_append, List.append_nil, List.getElem?_cons_zero, List.getElem?_cons_succ, List.set_cons_zero, List.set_cons_succ, Nat.reduceSub, Nat.reduceAdd, Option.some.injEq, V.int.injEq, V.str.injEq, V.bl.injEq, V.ref.injEq, List.cons.injEq, and_true, true_and, exists_eq_left', exists_eq_left, exists_and_left, exists_eq_right, exists_const, tBM, tBM0, rAppend, rPop, rIxL, rIxT, rIxS, rSlL, rSlT, rSlS, rCat, rCatT, tKGet, cx_w, bk_w, tDGet, tDisp, tPairs, tDNewK, cx_P, sFld, tDNewT]
  refine fun pa hpa => ?_
  have npa := step k1 hpa
  have hpa0 := samex_free x1 hpa npa
  refine ⟨C, dx, _, by rw [upd_ne (Ne.symm npa)]; exact k1, T.cl, T.nP, by show 1 < 1000; decide, hN _ _ ?_⟩
  clear hN
  have npl : pa ≠ la := fun z => by rw [z, l1] at hpa; cases hpa
  have x2 : SameX r H (upd (upd H1 pa (.dT [])) r (.ins C dx (putF "places" (.ref pa) (putF "lines" (.ref la) [])))) := SameX.upd (samex_new x1 hpa0)
  have k2 : upd (upd H1 pa (.dT [])) r (.ins C dx (putF "places" (.ref pa) (putF "lines" (.ref la) []))) r = some (.ins C dx (putF "places" (.ref pa) (putF "lines" (.ref la) []))) := upd_same
  have l2 : upd (upd H1 pa (.dT [])) r (.ins C dx (putF "places" (.ref pa) (putF "lines" (.ref la) []))) la = some (.lst []) := by rw [upd_ne nla, upd_ne (Ne.symm npl)]; exact l1
  have p2 : upd (upd H1 pa (.dT [])) r (.ins C dx (putF "places" (.ref pa) (putF "lines" (.ref la) []))) pa = some (.dT []) := by rw [upd_ne npa]; exact upd_same
  generalize upd (upd H1 pa (.dT [])) r (.ins C dx (putF "places" (.ref pa) (putF "lines" (.ref la) []))) = H2 at x2 k2 l2 p2 ⊢
  refine seq_abs fun N hN => ?_
  simp only [tSeq, tFor_eq, tLC_eq, iRng1, iRng2, iList, iTup, iStr, tIfS, tRet, tRetN, tNext, tAsg, gName, tVar, tC, tOp, rI0, rI, tTest, tB, rEq, rNe, tCall, tCons, tNil, tCB, tLst, tTup, tAnd, tOr, tNot, tAndV, tOrV, tNotV, tIf, tDrop, tSl, tPart, tNoPart, tChain, tUn, rU, L2.start, cx_K, bk_K, cx_calm, bk_calm, lenV_str, and_assoc, Option.join, List.length_map, List.length_append, decide_eq_true_eq, Bool.false_eq_true, if_false, if_true, Bool.not_true, Bool.not_false, Bool.not_eq_true', decide_eq_false_iff_not, Bool.true_eq_false, List.length_cons, List.length_nil, List.map_cons, List.map_nil, List.replicate, List.cons_append, List.nil_append, List.append_nil, List.getElem?_cons_zero, List.getElem?_cons_succ, List.set_cons_zero, List.set_cons_succ, Nat.reduceSub, Nat.reduceAdd, Option.some.injEq, V.int.injEq, V.str.injEq, V.bl.injEq, V.ref.injEq, List.cons.injEq, and_true, true_and, exists_eq_left', exists_eq_left, exists_and_left, exists_eq_right, exists_const, tBM, tBM0, rAppend, rPop, rIxL, rIxT, rIxS, rSlL, rSlT, rSlS, rCat, rCatT, tKGet, cx_w, bk_w, tDGet, tDisp, tPairs, tDNewK, cx_P, sFld, rRep]
  refine ⟨small (by simp), fun p0 hp0 => ⟨[V.int 0], upd_same, by omega, by omega, small (by simp; omega), fun aa haa => ?_⟩⟩
  have np0 := step k2 hp0
  have naa0 : aa ≠ p0 := fun z => by rw [z, upd_same] at haa; cases haa
  rw [upd_ne naa0] at haa
  have naa := step k2 haa
  refine ⟨C, dx, _, by rw [upd_ne (Ne.symm naa), upd_ne (Ne.symm np0)]; exact k2, T.cl, T.nA, by show 2 < 1000; decide, hN _ _ ?_⟩
  clear hN
  rw [Int.toNat_natCast, rep_zero]
  have nal : aa ≠ la := fun z => by rw [z, l2] at haa; cases haa
  have nap : aa ≠ pa := fun z => by rw [z, p2] at haa; cases haa
  have n0l : p0 ≠ la := fun z => by rw [z, l2] at hp0; cases hp0
  have n0p : p0 ≠ pa := fun z => by rw [z, p2] at hp0; cases hp0
  have haa0 := samex_free x2 haa naa
  have hp00 := samex_free x2 hp0 np0
  generalize hfs : putF "above" (V.ref aa) (putF "places" (V.ref pa) (putF "lines" (V.ref la) [])) = fs3
  have x3 : SameX r H (upd (upd (upd H2 p0 (.lst [.int 0])) aa (.lst ((List.replicate n 0).map nV))) r (.ins C dx fs3)) := SameX.upd (samex_new (samex_new x2 hp00) haa0)
  have k3 : upd (upd (upd H2 p0 (.lst [.int 0])) aa (.lst ((List.replicate n 0).map nV))) r (.ins C dx fs3) r = some (.ins C dx fs3) := upd_same
  have l3 : upd (upd (upd H2 p0 (.lst [.int 0])) aa (.lst ((List.replicate n 0).map nV))) r (.ins C dx fs3) la = some (.lst []) := by rw [upd_ne nla, upd_ne (Ne.symm nal), upd_ne (Ne.symm n0l)]; exact l2
  have p3 : upd (upd (upd H2 p0 (.lst [.int 0])) aa (.lst ((List.replicate n 0).map nV))) r (.ins C dx fs3) pa = some (.dT []) := by rw [upd_ne npa, upd_ne (Ne.symm nap), upd_ne (Ne.symm n0p)]; exact p2
  have a3 : upd (upd (upd H2 p0 (.lst [.int 0])) aa (.lst ((List.replicate n 0).map nV))) r (.ins C dx fs3) aa = some (.lst ((List.replicate n 0).map nV)) := by rw [upd_ne naa]; exact upd_same
  generalize upd (upd (upd H2 p0 (.lst [.int 0])) aa (.lst ((List.replicate n 0).map nV))) r (.ins C dx fs3) = H3 at x3 k3 l3 p3 a3 ⊢
  simp only [tSeq, tFor_eq, tLC_eq, iRng1, iRng2, iList, iTup, iStr, tIfS, tRet, tRetN, tNext, tAsg, gName, tVar, tC, tOp, rI0, rI, tTest, tB, rEq, rNe, tCall, tCons, tNil, tCB, tLst, tTup, tAnd, tOr, tNot, tAndV, tOrV, tNotV, tIf, tDrop, tSl, tPart, tNoPart, tChain, tUn, rU, L2.start, cx_K, bk_K, cx_calm, bk_calm, lenV_str, and_assoc, Option.join, List.length_map, List.length_append, decide_eq_true_eq, Bool.false_eq_true, if_false, if_true, Bool.not_true, Bool.not_false, Bool.not_eq_true', decide_eq_false_iff_not, Bool.true_eq_false, List.length_cons, List.length_nil, List.map_cons, List.map_nil, List.replicate, List.cons_append, List.nil_append, List.append_nil, List.getElem?_cons_zero, List.getElem?_cons_succ, List.set_cons_zero, List.set_cons_succ, Nat.reduceSub, Nat.reduceAdd, Option.some.injEq, V.int.injEq, V.str.injEq, V.bl.injEq, V.ref.injEq, List.cons.injEq, and_true, true_and, exists_eq_left', exists_eq_left, exists_and_left, exists_eq_right, exists_const, tBM, tBM0, rAppend, rPop, rIxL, rIxT, rIxS, rSlL, rSlT, rSlS, rCat, rCatT, tKGet, cx_w, bk_w, tDGet, tDisp, tPairs, tDNewK, cx_P, sFld, rRep]
  refine ⟨small (by simp), fun q0 hq0 => ⟨[V.int 0], upd_same, by omega, by omega, small (by simp; omega), fun ba hba => ?_⟩⟩
  have nq0 := step k3 hq0
  have nba0 : ba ≠ q0 := fun z => by rw [z, upd_same] at hba; cases hba
  rw [upd_ne nba0] at hba
  have nba := step k3 hba
  refine ⟨C, dx, _, by rw [upd_ne (Ne.symm nba), upd_ne (Ne.symm nq0)]; exact k3, T.cl, T.nB, by rw [← hfs]; show 3 < 1000; decide, ?_⟩
  rw [Int.toNat_natCast, rep_zero]
  have nbl : ba ≠ la := fun z => by rw [z, l3] at hba; cases hba
  have nbp : ba ≠ pa := fun z => by rw [z, p3] at hba; cases hba
  have nb1 : ba ≠ aa := fun z => by rw [z, a3] at hba; cases hba
  have n1l : q0 ≠ la := fun z => by rw [z, l3] at hq0; cases hq0
  have n1p : q0 ≠ pa := fun z => by rw [z, p3] at hq0; cases hq0
  have n1a : q0 ≠ aa := fun z => by rw [z, a3] at hq0; cases hq0
  have hba0 := samex_free x3 hba nba
  have hq00 := samex_free x3 hq0 nq0
  rw [← hfs]
  refine q ⟨r, la, pa, aa, ba⟩ _ rfl (SameX.upd (samex_new (samex_new x3 hq00) hba0)) hla hpa0 haa0 hba0 ⟨⟨dx, upd_same⟩, ⟨[], ?_, rfl⟩, ?_, ⟨_, ?_, mk_nil _ _ fun a b => rfl⟩, ⟨_, ?_, mk_nil _ _ fun a b => rfl⟩, ⟨Ne.symm nal, Ne.symm nbl, Ne.symm nb1⟩, ⟨fun k l h => (by cases h), fun a b x y h => (by cases h), fun l h => (by cases h)⟩⟩
  · show upd _ r _ la = _
    rw [upd_ne nla, upd_ne (Ne.symm nbl), upd_ne (Ne.symm n1l)]; exact l3
  · show upd _ r _ pa = _
    rw [upd_ne npa, upd_ne (Ne.symm nbp), upd_ne (Ne.symm n1p)]; exact p3
  · show upd _ r _ aa = _
    rw [upd_ne naa, upd_ne (Ne.symm nb1), upd_ne (Ne.symm n1a), hn]; exact a3
  · show upd _ r _ ba = _
    rw [upd_ne nba, upd_same, hn]
end
end C
set_option Elab.async false
set_option linter.all false
set_option maxRecDepth 100000
set_option maxHeartbeats 8000000
namespace C
open PySem L2
seal PE PT PW PA PS PSs PG PGs PI PPs PO PSet PIf
abbrev s_begin : Stmt := top 7
theorem sc_begin : FnScope ["growth", "sheet", "n", "k", "row"] ["growth", "sheet"] (defScope s_begin) := ⟨rfl, rfl, rfl, by decide +kernel, rfl, by decide +kernel, by decide +kernel⟩
abbrev s_boths_by_part : Stmt := top 8
theorem sc_boths_by_part : FnScope ["sheet", "boths", "k", "row"] ["sheet"] (defScope s_boths_by_part) := ⟨rfl, rfl, rfl, by decide +kernel, rfl, by decide +kernel, by decide +kernel⟩
abbrev s_rules_by_premise : Stmt := top 9
theorem sc_rules_by_premise : FnScope ["rules", "waiting", "r", "rule", "premise"] ["rules"] (defScope s_rules_by_premise) := ⟨rfl, rfl, rfl, by decide +kernel, rfl, by decide +kernel, by decide +kernel⟩
theorem GrTo.refl {C : Addr} {H : Hp} {g : GAd} {rows : List Rw} {rules : List NRul} {ls : List Ln} (h : GrAt C H g rows rules ls) : GrTo C H g rows rules ls H := ⟨fun _ _ hb _ _ _ _ => hb, [], by rw [List.append_nil]; exact h⟩
theorem GrTo.same {C : Addr} {H H' H'' : Hp} {g : GAd} {rows : List Rw} {rules : List NRul} {ls : List Ln} (h : GrTo C H g rows rules ls H') (e : Same H' H'') : GrTo C H g rows rules ls H'' := by
  obtain ⟨h1, t, h2⟩ := h
  exact ⟨h1.trans (Same.g e), t, h2.same e⟩
theorem GrTo.pre {C : Addr} {H H' H'' : Hp} {g : GAd} {rows : List Rw} {rules : List NRul} {ls : List Ln} (e : Same H H') (h : GrTo C H' g rows rules ls H'') : GrTo C H g rows rules ls H'' := by
  obtain ⟨h1, h2⟩ := h
  exact ⟨(Same.g e).trans h1, h2⟩
theorem GrTo.then {C : Addr} {H H' H'' : Hp} {g : GAd} {rows : List Rw} {rules : List NRul} {ls t : List Ln} (h : SameG g H H') (h' : GrTo C H' g rows rules (ls ++ t) H'') : GrTo C H g rows rules ls H'' := by
  obtain ⟨h1, t', h2⟩ := h'
  exact ⟨h.trans h1, t ++ t', by rw [← List.append_assoc]; exact h2⟩
theorem GrH.to {C : Addr} {H H' : Hp} {g : GAd} {rows : List Rw} {rules : List NRul} {ls : List Ln} {R : List Ln → Prop} (h : GrH C H g rows rules ls R H') : GrTo C H g rows rules ls H' := by
  obtain ⟨h1, t, h2, _⟩ := h
  exact ⟨h1, t, h2⟩
theorem GrH.same {C : Addr} {H H' H'' : Hp} {g : GAd} {rows : List Rw} {rules : List NRul} {ls : List Ln} {R : List Ln → Prop} (h : GrH C H g rows rules ls R H') (e : Same H' H'') : GrH C H g rows rules ls R H'' := by
  obtain ⟨h1, t, h2, h3⟩ := h
  exact ⟨h1.trans (Same.g e), t, h2.same e, h3⟩
theorem GrH.pre {C : Addr} {H H' H'' : Hp} {g : GAd} {rows : List Rw} {rules : List NRul} {ls : List Ln} {R : List Ln → Prop} (e : Same H H') (h : GrH C H' g rows rules ls R H'') : GrH C H g rows rules ls R H'' := by
  obtain ⟨h1, h2⟩ := h
  exact ⟨(Same.g e).trans h1, h2⟩
theorem GrH.refl {C : Addr} {H : Hp} {g : GAd} {rows : List Rw} {rules : List NRul} {ls : List Ln} {R : List Ln → Prop} (h : GrAt C H g rows rules ls) (hR : R ls) : GrH C H g rows rules ls R H := ⟨fun _ _ hb _ _ _ _ => hb, [], by rw [List.append_nil]; exact ⟨h, hR⟩⟩
def Le (ls L : List Ln) : Prop := ∃ t, L = ls ++ t
theorem Le.refl (ls : List Ln) : Le ls ls := ⟨[], (List.append_nil _).symm⟩
theorem Le.trans {a b c : List Ln} (h : Le a b) (h' : Le b c) : Le a c := by
  obtain ⟨t, rfl⟩ := h
  obtain ⟨t', rfl⟩ := h'
  exact ⟨t ++ t', by rw [List.append_assoc]⟩
theorem Le.has {a b : List Ln} (h : Le a b) {i j : Int} (hh : hasP a i j = true) : hasP b i j = true := by
  obtain ⟨t, rfl⟩ := h
  rw [hasP_app, hh, Bool.true_or]
theorem Le.get {a b : List Ln} (h : Le a b) {k : Nat} {l : Ln} (hk : a[k]? = some l) : b[k]? = some l := by
  obtain ⟨t, rfl⟩ := h
  rw [List.getElem?_append_left (List.getElem?_eq_some_iff.mp hk).1]
  exact hk
theorem GrH.then {C : Addr} {H H' H'' : Hp} {g : GAd} {rows : List Rw} {rules : List NRul} {ls t : List Ln} {R R' : List Ln → Prop} (h : SameG g H H') (h' : GrH C H' g rows rules (ls ++ t) R H'') (i : ∀ L, Le (ls ++ t) L → R L → R' L) : GrH C H g rows rules ls R' H'' := by
  obtain ⟨h1, t', h2, h3⟩ := h'
  rw [List.append_assoc] at h2 h3
  exact ⟨h.trans h1, t ++ t', h2, i _ ⟨t', by rw [List.append_assoc]⟩ h3⟩
def OutG (g : GAd) (a : Addr) : Prop := a ≠ g.la ∧ a ≠ g.pa ∧ a ≠ g.aa ∧ a ≠ g.ba
theorem SameG.out {g : GAd} {H H' : Hp} {a : Addr} {o : HO} (e : SameG g H H') (n : OutG g a) (h : H a = some o) : H' a = some o := e a o h n.1 n.2.1 n.2.2.1 n.2.2.2
theorem st_plain {rows : List Rw} {rules : List NRul} {ls : List Ln} {i j : Nat} {x : Str} (hi : i < 2 * rows.length) (hj : j < 2 * rows.length) (hx : x ≠ "rule") (hn : named x = some 0) (h : stepFrom rows i j x [] = true) : stepB rows rules ls ls.length ⟨i, j, x, []⟩ = true := by
  unfold stepB
  rw [if_neg (by
    intro z
    rcases z with z | z
    · exact z ⟨by show (0 : Int) ≤ (i : Int); omega, by show (i : Int) < _; omega⟩
    · exact z ⟨by show (0 : Int) ≤ (j : Int); omega, by show (j : Int) < _; omega⟩), if_neg hx, if_pos ⟨hn, rfl⟩]
  exact h
theorem ow0 : OW [] := ⟨by simp, fun ps h => by cases h⟩
theorem gw_any {C : Addr} {H H' H2 : Hp} {g : GAd} {rows : List Rw} {rules : List NRul} {ls t : List Ln} (hs : SameG g H H') (hg : GrAt C H' g rows rules (ls ++ t)) (h100 : rows.length ≤ 100) (e : Same H' H2) {i j : Nat} {x : Str} {as : List Wt} {wv : V} (hw : DAt H2 (dWhy x as) wv) (hst : stepB rows rules (ls ++ t) (ls ++ t).length ⟨i, j, x, as⟩ = true) (ho : OW as) {Q : VK} {E : XK} {R : List Ln → Prop} (hR : ∀ L, Le (ls ++ t) L → hasP L i j = true → R L) (q : ∀ v H3, GrH C H g rows rules ls R H3 → Q v H3) :
    spGw C [.ref g.r, .int i, .int j, wv] H2 Q E :=
  ⟨g, rows, rules, _, i, j, wv, x, as, rfl, hg.same e, h100, hw, hst, ho, fun H3 g3 => q _ _ (GrH.then (hs.trans (Same.g e)) g3 hR)⟩
theorem gw_plain {C : Addr} {H H' : Hp} {g : GAd} {rows : List Rw} {rules : List NRul} {ls t : List Ln} (hs : SameG g H H') (hg : GrAt C H' g rows rules (ls ++ t)) (h100 : rows.length ≤ 100) {i j : Nat} (hi : i < 2 * rows.length) (hj : j < 2 * rows.length) {x : Str} (hx : x ≠ "rule") (hn : named x = some 0) (hst : stepFrom rows i j x [] = true) {p : Addr} (hp : H' p = none) {Q : VK} {E : XK} {R : List Ln → Prop} (hR : ∀ L, Le (ls ++ t) L → hasP L i j = true → R L) (q : ∀ v H2, GrH C H g rows rules ls R H2 → Q v H2) :
    spGw C [.ref g.r, .int i, .int j, .ref p] (upd H' p (.tup [.str x])) Q E :=
  gw_any hs hg h100 (same_new hp _) (x := x) (as := []) ⟨p, _, rfl, upd_same, _, _, rfl, rfl, rfl⟩ (st_plain hi hj hx hn hst) ow0 hR q
structure Pl (rows : List Rw) (n m : Nat) (L : List Ln) : Prop where
  same : ∀ x : Nat, x < n → hasP L x x = true
  low : ∀ x : Nat, x < n → hasP L 0 x = true
  high : ∀ x : Nat, x < n → hasP L x 1 = true
  part : ∀ (k : Nat) (a b : Int), k < m → rows[k]? = some (.bo a b) → hasP L ((2 * k : Nat) : Int) a = true ∧ hasP L ((2 * k : Nat) : Int) b = true
theorem Pl.le {rows : List Rw} {n m : Nat} {L L' : List Ln} (h : Pl rows n m L) (e : Le L L') : Pl rows n m L' := ⟨fun x hx => e.has (h.same x hx), fun x hx => e.has (h.low x hx), fun x hx => e.has (h.high x hx), fun k a b hk hr => ⟨e.has (h.part k a b hk hr).1, e.has (h.part k a b hk hr).2⟩⟩
def spBe (C : Addr) : Sp := fun vs H Q _ => ∃ (g : GAd) (sa : Addr) (us : List V) (rows : List Rw) (rules : List NRul), vs = [.ref g.r, .ref sa] ∧ GrAt C H g rows rules [] ∧ rows.length ≤ 100 ∧ H sa = some (.lst us) ∧ RwAts H rows us ∧ OutG g sa ∧ RowsIn rows ∧ ∀ H', GrH C H g rows rules [] (Pl rows (2 * rows.length) rows.length) H' → Q .non H'
section
variable {P : Program} {w : World} {K : PySem.W.Frag} {mg : Str → Option Value} {base : Heap} {f : Addr} {fd : FuncData}
theorem ok_begin {C : Addr} (T : GrC K C) (bi : Bi mg) (be : mg "enumerate" = none) (h_Growth_grow : HasM P w K mg base 2 C "grow" ["self", "i", "j", "why"] (spGw C)) (F : Fun K "begin" "begin" s_begin f fd) : FnOk P w K mg base CX0 3 f fd ["growth", "sheet"] (spBe C) := by
  refine F.ok sc_begin (fun vs H Q E h => ?_) (fun cdv A outer s H vs Q E hr h => ?_)
  · obtain ⟨g, sa, us, rows, rules, rfl, _⟩ := h
    rfl
  obtain ⟨g, sa, us, rows, rules, rfl, hg, h100, hsa, hrw, hout, hin, q⟩ := h
  have hul := mapLen hrw
  have cl_Growth := T.cl
  have lk : (grF g).lookup ("grow" : Str) = none := gr_no g (by decide +kernel) (by decide +kernel) (by decide +kernel) (by decide +kernel)
  refine ⟨_, (pss_cons (ps_for PassesOwn.never rfl (pi_range1 rfl bi.range (pa_cons (pe_op op_mul pe_int (pe_callB call_len rfl bi.len bt_len (pa_cons (pv 1) pa_nil))) pa_nil)) (pg_name (i := 2) sc_begin.nd rfl (Or.inl rfl)) (pss_cons (ps_expr (pe_methH h_Growth_grow cl_Growth (hr.mono (by omega)) (pv 0) (pa_cons (pv 2) (pa_cons (pv 2) (pa_cons (pe_tup (pa_cons pe_str pa_nil)) pa_nil))))) (pss_cons (ps_expr (pe_methH h_Growth_grow cl_Growth (hr.mono (by omega)) (pv 0) (pa_cons pe_int (pa_cons (pv 2) (pa_cons (pe_tup (pa_cons pe_str pa_nil)) pa_nil))))) (pss_one (ps_expr (pe_methH h_Growth_grow cl_Growth (hr.mono (by omega)) (pv 0) (pa_cons (pv 2) (pa_cons pe_int (pa_cons (pe_tup (pa_cons pe_str pa_nil)) pa_nil))))))))) (pss_one (ps_for PassesOwn.never rfl (pi_enum rfl be (pa_cons (pv 1) pa_nil)) (pg_tup rfl (pgs_cons (pg_name (i := 3) sc_begin.nd rfl (Or.inl rfl)) (pgs_cons (pg_name (i := 4) sc_begin.nd rfl (Or.inl rfl)) pgs_nil))) (pss_one (ps_if (pt_cmpR op_eq (pe_ix ix_tup (pv 4) pe_int (fun _ _ => rfl)) pe_str (nomark _)) (pss_cons (ps_expr (pe_methH h_Growth_grow cl_Growth (hr.mono (by omega)) (pv 0) (pa_cons (pe_op op_mul pe_int (pv 3)) (pa_cons (pe_ix ix_tup (pv 4) pe_int (fun _ _ => rfl)) (pa_cons (pe_tup (pa_cons pe_str pa_nil)) pa_nil))))) (pss_one (ps_expr (pe_methH h_Growth_grow cl_Growth (hr.mono (by omega)) (pv 0) (pa_cons (pe_op op_mul pe_int (pv 3)) (pa_cons (pe_ix ix_tup (pv 4) pe_int (fun _ _ => rfl)) (pa_cons (pe_tup (pa_cons pe_str pa_nil)) pa_nil))))))) pss_nil))))), ?_⟩
  refine seq_join (fun σ H' => ∃ (o1 o2 o3 : Option V), GrH C H g rows rules [] (Pl rows (2 * rows.length) 0) H' ∧ σ = [some (V.ref g.r), some (V.ref sa), o1, o2, o3]) (fun N hN => ?_) (fun σ H' h => ?_)
  · simp only [tSeq, tFor_eq, tLC_eq, iRng1, iRng2, iList, iTup, iStr, tIfS, tRet, tRetN, tNext, tAsg, gName, tVar, tC, tOp, rI0, rI, tTest, tB, rEq, rNe, tCall, tCons, tNil, tCB, tLst, tTup, tAnd, tOr, tNot, tAndV, tOrV, tNotV, tIf, tDrop, tSl, tPart, tNoPart, tChain, tUn, rU, L2.start, cx_K, bk_K, cx_calm, bk_calm, lenV_str, and_assoc, Option.join, List.length_map, List.length_append, decide_eq_true_eq, Bool.false_eq_true, if_false, if_true, Bool.not_true, Bool.not_false, Bool.not_eq_true', decide_eq_false_iff_not, Bool.true_eq_false, List.length_cons, List.length_nil, List.map_cons, List.map_nil, List.replicate, List.cons_append, List.nil_append, List.append_nil, List.getElem?_cons_zero, List.getElem?_cons_succ, List.set_cons_zero, List.set_cons_succ, Nat.reduceSub, Nat.reduceAdd, Option.some.injEq, V.int.injEq, V.str.injEq, V.bl.injEq, V.ref.injEq, List.cons.injEq, and_true, true_and, exists_eq_left', exists_eq_left, exists_and_left, exists_eq_right, exists_const, tBM, tBM0, rAppend, rPop, rIxL, rIxT, rIxS, rSlL, rSlT, rSlS, rCat, rCatT, tKGet, cx_w, bk_w, tDGet, tDisp, tPairs, tDNewK, cx_P]
    refine ⟨us.length, .inl ⟨_, SqL.of hsa, rfl⟩, .inl ⟨by decide, by decide⟩, by omega, by omega, ?_⟩
    refine fw_range (n := (2 * (us.length : Int)).toNat) (fun i σ H' => ∃ (o1 o2 o3 : Option V), GrH C H g rows rules [] (Pl rows i 0) H' ∧ σ = [some (V.ref g.r), some (V.ref sa), o1, o2, o3]) ⟨_, _, _, GrH.refl hg ⟨fun x hx => by omega, fun x hx => by omega, fun x hx => by omega, fun k a b hk => by omega⟩, rfl⟩ (fun i σ H' hi h => ?_) (fun σ H' h => ?_)
    rotate_left
    · rw [show (2 * (us.length : Int)).toNat = 2 * rows.length by omega] at h
      exact hN _ _ h
    obtain ⟨o1, o2, o3, ⟨gs, t, gt, hP⟩, rfl⟩ := h
    have hi' : i < 2 * rows.length := by omega
    have e0 : (0 : Int) + (i : Int) = ((i : Nat) : Int) := by omega
    show tSeq _ _ _ _ _
    refine seq_abs fun N2 hN2 => ?_
    simp only [tSeq, tFor_eq, tLC_eq, iRng1, iRng2, iList, iTup, iStr, tIfS, tRet, tRetN, tNext, tAsg, gName, tVar, tC, tOp, rI0, rI, tTest, tB, rEq, rNe, tCall, tCons, tNil, tCB, tLst, tTup, tAnd, tOr, tNot, tAndV, tOrV, tNotV, tIf, tDrop, tSl, tPart, tNoPart, tChain, tUn, rU, L2.start, cx_K, bk_K, cx_calm, bk_calm, lenV_str, and_assoc, Option.join, List.length_map, List.length_append, decide_eq_true_eq, Bool.false_eq_true, if_false, if_true, Bool.not_true, Bool.not_false, Bool.not_eq_true', decide_eq_false_iff_not, Bool.true_eq_false, List.length_cons, List.length_nil, List.map_cons, List.map_nil, List.replicate, List.cons_append, List.nil_append, List.append_nil, List.getElem?_cons_zero, List.getElem?_cons_succ, List.set_cons_zero, List.set_cons_succ, Nat.reduceSub, Nat.reduceAdd, Option.some.injEq, V.int.injEq, V.str.injEq, V.bl.injEq, V.ref.injEq, List.cons.injEq, and_true, true_and, exists_eq_left', exists_eq_left, exists_and_left, exists_eq_right, exists_const, tBM, tBM0, rAppend, rPop, rIxL, rIxT, rIxS, rSlL, rSlT, rSlS, rCat, rCatT, tKGet, cx_w, bk_w, tDGet, tDisp, tPairs, tDNewK, cx_P, tMeth]
    rw [e0]
    obtain ⟨dx, hins⟩ := gt.ins
    refine ⟨_, _, hins, lk, small (by simp), fun p hp => gw_plain gs gt h100 hi' hi' (x := "same") (by decide) rfl (by unfold stepFrom; rw [if_pos rfl]; simp) hp (R := fun L => Pl rows i 0 L ∧ hasP L i i = true) (fun L e h => ⟨hP.le e, h⟩) fun _ H2 g2 => hN2 _ _ ?_⟩
    clear hN2 hins gs gt
    obtain ⟨gs, t, gt, hP, hp1⟩ := g2
    obtain ⟨dx, hins⟩ := gt.ins
    refine seq_abs fun N2 hN2 => ?_
    simp only [tSeq, tFor_eq, tLC_eq, iRng1, iRng2, iList, iTup, iStr, tIfS, tRet, tRetN, tNext, tAsg, gName, tVar, tC, tOp, rI0, rI, tTest, tB, rEq, rNe, tCall, tCons, tNil, tCB, tLst, tTup, tAnd, tOr, tNot, tAndV, tOrV, tNotV, tIf, tDrop, tSl, tPart, tNoPart, tChain, tUn, rU, L2.start, cx_K, bk_K, cx_calm, bk_calm, lenV_str, and_assoc, Option.join, List.length_map, List.length_append, decide_eq_true_eq, Bool.false_eq_true, if_false, if_true, Bool.not_true, Bool.not_false, Bool.not_eq_true', decide_eq_false_iff_not, Bool.true_eq_false, List.length_cons, List.length_nil, List.map_cons, List.map_nil, List.replicate, List.cons_append, List.nil_append, List.append_nil, List.getElem?_cons_zero, List.getElem?_cons_succ, List.set_cons_zero, List.set_cons_succ, Nat.reduceSub, Nat.reduceAdd, Option.some.injEq, V.int.injEq, V.str.injEq, V.bl.injEq, V.ref.injEq, List.cons.injEq, and_true, true_and, exists_eq_left', exists_eq_left, exists_and_left, exists_eq_right, exists_const, tBM, tBM0, rAppend, rPop, rIxL, rIxT, rIxS, rSlL, rSlT, rSlS, rCat, rCatT, tKGet, cx_w, bk_w, tDGet, tDisp, tPairs, tDNewK, cx_P, tMeth]
    refine ⟨_, _, hins, lk, small (by simp), fun p hp => gw_plain (i := 0) gs gt h100 (by omega) hi' (x := "edge") (by decide) rfl (by unfold stepFrom; rw [if_neg (by decide), if_pos rfl]; simp) hp (R := fun L => Pl rows i 0 L ∧ hasP L i i = true ∧ hasP L 0 i = true) (fun L e h => ⟨hP.le e, e.has hp1, h⟩) fun _ H2 g2 => hN2 _ _ ?_⟩
    clear hN2 hins gs gt
    obtain ⟨gs, t, gt, hP, hp1, hp2⟩ := g2
    obtain ⟨dx, hins⟩ := gt.ins
    simp only [tSeq, tFor_eq, tLC_eq, iRng1, iRng2, iList, iTup, iStr, tIfS, tRet, tRetN, tNext, tAsg, gName, tVar, tC, tOp, rI0, rI, tTest, tB, rEq, rNe, tCall, tCons, tNil, tCB, tLst, tTup, tAnd, tOr, tNot, tAndV, tOrV, tNotV, tIf, tDrop, tSl, tPart, tNoPart, tChain, tUn, rU, L2.start, cx_K, bk_K, cx_calm, bk_calm, lenV_str, and_assoc, Option.join, List.length_map, List.length_append, decide_eq_true_eq, Bool.false_eq_true, if_false, if_true, Bool.not_true, Bool.not_false, Bool.not_eq_true', decide_eq_false_iff_not, Bool.true_eq_false, List.length_cons, List.length_nil, List.map_cons, List.map_nil, List.replicate, List.cons_append, List.nil_append, List.append_nil, List.getElem?_cons_zero, List.getElem?_cons_succ, List.set_cons_zero, List.set_cons_succ, Nat.reduceSub, Nat.reduceAdd, Option.some.injEq, V.int.injEq, V.str.injEq, V.bl.injEq, V.ref.injEq, List.cons.injEq, and_true, true_and, exists_eq_left', exists_eq_left, exists_and_left, exists_eq_right, exists_const, tBM, tBM0, rAppend, rPop, rIxL, rIxT, rIxS, rSlL, rSlT, rSlS, rCat, rCatT, tKGet, cx_w, bk_w, tDGet, tDisp, tPairs, tDNewK, cx_P, tMeth]
    refine ⟨_, _, hins, lk, small (by simp), fun p hp => gw_plain (j := 1) gs gt h100 hi' (by omega) (x := "edge") (by decide) rfl (by unfold stepFrom; rw [if_neg (by decide), if_pos rfl]; simp) hp (R := Pl rows (i + 1) 0) (fun L e h => ?_) fun _ H2 g2 => ?_⟩
    · have c : ∀ {x : Nat}, x < i + 1 → x < i ∨ x = i := fun h => by omega
      have hP' := hP.le e
      exact ⟨fun x hx => (c hx).elim (hP'.same x) fun z => z ▸ e.has hp1, fun x hx => (c hx).elim (hP'.low x) fun z => z ▸ e.has hp2, fun x hx => (c hx).elim (hP'.high x) fun z => z ▸ h, fun k a b hk => by omega⟩
    exact ⟨g2, _, rfl⟩
  obtain ⟨o1, o2, o3, hgt, rfl⟩ := h
  have hsa' := hgt.to.1.out hout hsa
  simp only [tSeq, tFor_eq, tLC_eq, iRng1, iRng2, iList, iTup, iStr, tIfS, tRet, tRetN, tNext, tAsg, gName, tVar, tC, tOp, rI0, rI, tTest, tB, rEq, rNe, tCall, tCons, tNil, tCB, tLst, tTup, tAnd, tOr, tNot, tAndV, tOrV, tNotV, tIf, tDrop, tSl, tPart, tNoPart, tChain, tUn, rU, L2.start, cx_K, bk_K, cx_calm, bk_calm, lenV_str, and_assoc, Option.join, List.length_map, List.length_append, decide_eq_true_eq, Bool.false_eq_true, if_false, if_true, Bool.not_true, Bool.not_false, Bool.not_eq_true', decide_eq_false_iff_not, Bool.true_eq_false, List.length_cons, List.length_nil, List.map_cons, List.map_nil, List.replicate, List.cons_append, List.nil_append, List.append_nil, List.getElem?_cons_zero, List.getElem?_cons_succ, List.set_cons_zero, List.set_cons_succ, Nat.reduceSub, Nat.reduceAdd, Option.some.injEq, V.int.injEq, V.str.injEq, V.bl.injEq, V.ref.injEq, List.cons.injEq, and_true, true_and, exists_eq_left', exists_eq_left, exists_and_left, exists_eq_right, exists_const, tBM, tBM0, rAppend, rPop, rIxL, rIxT, rIxS, rSlL, rSlT, rSlS, rCat, rCatT, tKGet, cx_w, bk_w, tDGet, tDisp, tPairs, tDNewK, cx_P, iEnum]
  refine ⟨_, hsa', ?_⟩
  refine fw_enum (xs := us) (fun k σ H' => ∃ (o1 o2 o3 : Option V), GrH C H g rows rules [] (Pl rows (2 * rows.length) k) H' ∧ σ = [some (V.ref g.r), some (V.ref sa), o1, o2, o3]) ⟨_, _, _, hgt, rfl⟩ (fun k σ H' h => ?_) (fun k x σ H' p hx h hp => ?_) (fun σ H' h => ?_)
  · obtain ⟨_, _, _, h, _⟩ := h
    exact h.to.1.out hout hsa
  · obtain ⟨o1, o2, o3, hgt, rfl⟩ := h
    have hk : k < rows.length := by rw [← hul]; exact (List.getElem?_eq_some_iff.mp hx).1
    obtain ⟨r, hr1, hr2⟩ := mapGetV hrw hx
    have tu := hg.tups hgt.to.1
    obtain ⟨xa, x', vs, rfl, hxa, hcase⟩ := RwAt.out hr2
    have hxa0 := hxa
    replace hxa := tu _ _ hxa
    replace hgt := hgt.same (same_new hp (.tup [.int k, .ref xa]))
    have hxa' := same_new hp (.tup [.int k, .ref xa]) _ _ hxa
    have kp : upd H' p (.tup [.int k, .ref xa]) p = some (.tup [.int k, .ref xa]) := upd_same
    generalize upd H' p (.tup [.int k, .ref xa]) = H2 at hgt hxa' kp ⊢
    simp only [tSeq, tFor_eq, tLC_eq, iRng1, iRng2, iList, iTup, iStr, tIfS, tRet, tRetN, tNext, tAsg, gName, tVar, tC, tOp, rI0, rI, tTest, tB, rEq, rNe, tCall, tCons, tNil, tCB, tLst, tTup, tAnd, tOr, tNot, tAndV, tOrV, tNotV, tIf, tDrop, tSl, tPart, tNoPart, tChain, tUn, rU, L2.start, cx_K, bk_K, cx_calm, bk_calm, lenV_str, and_assoc, Option.join, List.length_map, List.length_append, decide_eq_true_eq, Bool.false_eq_true, if_false, if_true, Bool.not_true, Bool.not_false, Bool.not_eq_true', decide_eq_false_iff_not, Bool.true_eq_false, List.length_cons, List.length_nil, List.map_cons, List.map_nil, List.replicate, List.cons_append, List.nil_append, List.append_nil, List.getElem?_cons_zero, List.getElem?_cons_succ, List.set_cons_zero, List.set_cons_succ, Nat.reduceSub, Nat.reduceAdd, Option.some.injEq, V.int.injEq, V.str.injEq, V.bl.injEq, V.ref.injEq, List.cons.injEq, and_true, true_and, exists_eq_left', exists_eq_left, exists_and_left, exists_eq_right, exists_const, tBM, tBM0, rAppend, rPop, rIxL, rIxT, rIxS, rSlL, rSlT, rSlS, rCat, rCatT, tKGet, cx_w, bk_w, tDGet, tDisp, tPairs, tDNewK, cx_P, gTup, gCons, gNil, tMeth]
    refine ⟨[.int k, .ref xa], SqT.of kp, rfl, .int k, [.ref xa], rfl, .ref xa, [], rfl, rfl, xa, rfl, _, SqT.of hxa', _, at0, rfl, ?_⟩
    have nob : ∀ {L : List Ln}, (∀ a b, r ≠ .bo a b) → Pl rows (2 * rows.length) k L → Pl rows (2 * rows.length) (k + 1) L := fun hno h => ⟨h.same, h.low, h.high, fun m a b hm hr' => by
      rcases Nat.lt_or_eq_of_le (Nat.le_of_lt_succ hm) with z | z
      · exact h.part m a b z hr'
      · subst z; rw [hr1] at hr'; cases hr'; exact absurd rfl (hno a b)⟩
    have weak : ∀ {R R' : List Ln → Prop} {H'}, (∀ L, R L → R' L) → GrH C H g rows rules [] R H' → GrH C H g rows rules [] R' H' := fun w h => by
      obtain ⟨h1, t, h2, h3⟩ := h
      exact ⟨h1, t, h2, w _ h3⟩
    cases r with
    | no =>
      obtain ⟨rfl, rfl⟩ := hcase
      rw [if_neg (by intro z; exact absurd (V.str.inj z) (by decide +kernel))]
      exact ⟨weak (fun L => nob (fun a b z => by cases z)) hgt, _, rfl⟩
    | nm y =>
      obtain ⟨rfl, rfl⟩ := hcase
      rw [if_neg (by intro z; exact absurd (V.str.inj z) (by decide +kernel))]
      exact ⟨weak (fun L => nob (fun a b z => by cases z)) hgt, _, rfl⟩
    | bo i j =>
      obtain ⟨rfl, rfl⟩ := hcase
      rw [if_pos rfl]
      obtain ⟨⟨b1, b2⟩, b3, b4⟩ := hin k i j hr1
      obtain ⟨a, rfl⟩ : ∃ a : Nat, i = (a : Int) := ⟨i.toNat, by omega⟩
      obtain ⟨b, rfl⟩ : ∃ b : Nat, j = (b : Int) := ⟨j.toNat, by omega⟩
      have e2 : (2 : Int) * (k : Int) = ((2 * k : Nat) : Int) := by omega
      have hpt : parts rows ((2 * k : Nat) : Int) = [(a : Int), (b : Int)] := parts_of_row (r := .bo a b) (by omega) (by rw [show (((2 * k : Nat) : Int) / 2).toNat = k by omega]; exact hr1)
      have hst : ∀ c : Nat, (c = a ∨ c = b) → stepFrom rows ((2 * k : Nat) : Int) c "part" [] = true := fun c hc => by
        unfold stepFrom
        rw [if_neg (by decide), if_neg (by decide), if_pos rfl, hpt]
        rcases hc with rfl | rfl <;> simp
      have at2 : ∀ {a b c : V}, atI [a, b, c] 2 = some c := atI_nat (j := 2) rfl
      obtain ⟨gs, t, gt, hP⟩ := hgt
      obtain ⟨dx, hins⟩ := gt.ins
      refine ⟨_, _, hins, lk, _, rfl, .inl ⟨by decide, by decide⟩, xa, rfl, _, SqT.of hxa', _, at1, small (by simp), fun p1 hp1 => ?_⟩
      rw [e2]
      refine gw_plain (i := 2 * k) (j := a) gs gt h100 (by omega) (by omega) (x := "part") (by decide) rfl (hst a (.inl rfl)) hp1 (R := fun L => Pl rows (2 * rows.length) k L ∧ hasP L ((2 * k : Nat) : Int) a = true) (fun L e h => ⟨hP.le e, h⟩) fun _ H3 g3 => ?_
      have hxa3 := hg.tups g3.1 _ _ hxa0
      obtain ⟨gs, t, gt, hP, hpa⟩ := g3
      obtain ⟨dx, hins⟩ := gt.ins
      refine ⟨_, _, hins, lk, _, rfl, .inl ⟨by decide, by decide⟩, xa, rfl, _, SqT.of hxa3, _, at2, small (by simp), fun p2 hp2 => ?_⟩
      rw [e2]
      refine gw_plain (i := 2 * k) (j := b) gs gt h100 (by omega) (by omega) (x := "part") (by decide) rfl (hst b (.inr rfl)) hp2 (R := Pl rows (2 * rows.length) (k + 1)) (fun L e h => ?_) fun _ H4 g4 => ⟨g4, _, rfl⟩
      have hP' := hP.le e
      refine ⟨hP'.same, hP'.low, hP'.high, fun m a' b' hm hr' => ?_⟩
      rcases Nat.lt_or_eq_of_le (Nat.le_of_lt_succ hm) with z | z
      · exact hP'.part m a' b' z hr'
      · subst z; rw [hr1] at hr'; cases hr'; exact ⟨e.has hpa, h⟩
  · obtain ⟨_, _, _, h, rfl⟩ := h
    rw [hul] at h
    exact q _ h
end
end C
set_option Elab.async false
set_option linter.all false
set_option maxRecDepth 100000
set_option maxHeartbeats 8000000
namespace C
open PySem L2
seal PE PT PW PA PS PSs PG PGs PI PPs PO PSet PIf
def Tri (rows : List Rw) (H : Hp) (v : V) : Prop := ∃ (t : Addr) (k : Nat) (a b : Int), v = .ref t ∧ H t = some (.tup [.int (2 * (k : Int)), .int a, .int b]) ∧ rows[k]? = some (.bo a b)
theorem Tri.tups {rows : List Rw} {H H' : Hp} (e : TupSame H H') {v : V} (h : Tri rows H v) : Tri rows H' v := by
  obtain ⟨t, k, a, b, h1, h2, h3⟩ := h
  exact ⟨t, k, a, b, h1, e _ _ h2, h3⟩
def BoP (rows : List Rw) (H : Hp) (qs : List Addr) (n : Nat) : Prop := ∀ q ∈ qs, ∃ us, H q = some (.lst us) ∧ us.length ≤ n ∧ ∀ v ∈ us, Tri rows H v
theorem BoP.same {rows : List Rw} {H H' : Hp} {qs : List Addr} {n : Nat} (e : Same H H') (h : BoP rows H qs n) : BoP rows H' qs n := fun q hq => by
  obtain ⟨us, h1, h2, h3⟩ := h q hq
  exact ⟨us, e _ _ h1, h2, fun v hv => (h3 v hv).tups e.tups⟩
theorem BoP.put {rows : List Rw} {H : Hp} {qs : List Addr} {n : Nat} {q : Addr} {us : List V} {v : V} (h : BoP rows H qs n) (hq : H q = some (.lst us)) (hl : us.length ≤ n) (hus : ∀ v ∈ us, Tri rows H v) (hv : Tri rows H v) : BoP rows (upd H q (.lst (us ++ [v]))) qs (n + 1) := fun q' hq' => by
  have tu : TupSame H (upd H q (.lst (us ++ [v]))) := (TupSame.refl _).upd_lst hq
  by_cases e : q' = q
  · subst e
    refine ⟨us ++ [v], upd_same, by simp; omega, fun x hx => ?_⟩
    rcases List.mem_append.mp hx with hx | hx
    · exact (hus x hx).tups tu
    · rw [List.mem_singleton.mp hx]; exact hv.tups tu
  · obtain ⟨us', h1, h2, h3⟩ := h q' hq'
    exact ⟨us', by rw [upd_ne e]; exact h1, by omega, fun x hx => (h3 x hx).tups tu⟩
def InB (H : Hp) (q : Addr) (m : Nat) (a b : Int) : Prop := ∃ (us : List V) (t : Addr), H q = some (.lst us) ∧ V.ref t ∈ us ∧ H t = some (.tup [.int (2 * (m : Int)), .int a, .int b])
theorem InB.same {H H' : Hp} {q : Addr} {m : Nat} {a b : Int} (e : Same H H') (h : InB H q m a b) : InB H' q m a b := by
  obtain ⟨us, t, h1, h2, h3⟩ := h
  exact ⟨us, t, e _ _ h1, h2, e _ _ h3⟩
theorem InB.upd {H : Hp} {q : Addr} {m : Nat} {a b : Int} (h : InB H q m a b) {q1 : Addr} {us1 : List V} {v : V} (hq : H q1 = some (.lst us1)) : InB (upd H q1 (.lst (us1 ++ [v]))) q m a b := by
  obtain ⟨us, t, h1, h2, h3⟩ := h
  have h3' := (TupSame.refl H).upd_lst (o := .lst (us1 ++ [v])) hq _ _ h3
  by_cases e : q = q1
  · subst e
    rw [hq] at h1
    cases h1
    exact ⟨_, t, upd_same, List.mem_append_left _ h2, h3'⟩
  · exact ⟨us, t, (upd_ne e).trans h1, h2, h3'⟩
def BoC (rows : List Rw) (H : Hp) (qs : List Addr) (k : Nat) : Prop := ∀ (m : Nat) (a b : Int), m < k → rows[m]? = some (.bo a b) → ∀ (x : Nat) (q : Addr), ((x : Int) = a ∨ (x : Int) = b) → qs[x]? = some q → InB H q m a b
theorem BoC.same {rows : List Rw} {H H' : Hp} {qs : List Addr} {k : Nat} (e : Same H H') (h : BoC rows H qs k) : BoC rows H' qs k := fun m a b hm hr x q hx hq => (h m a b hm hr x q hx hq).same e
theorem BoC.upd {rows : List Rw} {H : Hp} {qs : List Addr} {k : Nat} (h : BoC rows H qs k) {q1 : Addr} {us1 : List V} {v : V} (hq1 : H q1 = some (.lst us1)) : BoC rows (upd H q1 (.lst (us1 ++ [v]))) qs k := fun m a b hm hr x q hx hq => (h m a b hm hr x q hx hq).upd hq1
theorem BoC.succ {rows : List Rw} {H : Hp} {qs : List Addr} {k : Nat} (h : BoC rows H qs k) (hk : ∀ (a b : Int), rows[k]? = some (.bo a b) → ∀ (x : Nat) (q : Addr), ((x : Int) = a ∨ (x : Int) = b) → qs[x]? = some q → InB H q k a b) : BoC rows H qs (k + 1) := fun m a b hm hr x q hx hq => by
  rcases Nat.lt_or_eq_of_le (Nat.le_of_lt_succ hm) with z | z
  · exact h m a b z hr x q hx hq
  · subst z
    exact hk a b hr x q hx hq
def spBo : Sp := fun vs H Q _ => ∃ (sa : Addr) (us : List V) (rows : List Rw), vs = [.ref sa] ∧ H sa = some (.lst us) ∧ RwAts H rows us ∧ rows.length ≤ 100 ∧ RowsIn rows ∧ ∀ (p : Addr) (qs : List Addr) (n : Nat) (H' : Hp), Same H H' → H p = none → (∀ q ∈ qs, H q = none) → H' p = some (.lst (qs.map V.ref)) → qs.length = 2 * rows.length → BoP rows H' qs n → BoC rows H' qs rows.length → Q (.ref p) H'
def WaP (m : Nat) (H0 H : Hp) (kvs : List (List Key × V)) (n : Nat) : Prop := ∀ kv ∈ kvs, ∃ (q : Addr) (ns : List Nat), kv.2 = .ref q ∧ H q = some (.lst (ns.map nV)) ∧ H0 q = none ∧ ns.length ≤ n ∧ ∀ x ∈ ns, x < m
theorem WaP.same {m : Nat} {H0 H H' : Hp} {kvs : List (List Key × V)} {n : Nat} (e : Same H H') (h : WaP m H0 H kvs n) : WaP m H0 H' kvs n := fun kv hkv => by
  obtain ⟨q, ns, h1, h2, h3⟩ := h kv hkv
  exact ⟨q, ns, h1, e _ _ h2, h3⟩
theorem WaP.upd {m : Nat} {H0 H : Hp} {kvs : List (List Key × V)} {n : Nat} {q : Addr} {ns : List Nat} {r : Nat} (h : WaP m H0 H kvs n) (hl : ns.length ≤ n) (hns : ∀ x ∈ ns, x < m) (hr : r < m) (hq : H0 q = none) : WaP m H0 (upd H q (.lst (ns.map nV ++ [nV r]))) kvs (n + 1) := fun kv hkv => by
  obtain ⟨q', ns', h1, h2, h3, h4, h5⟩ := h kv hkv
  by_cases e : q' = q
  · subst e
    refine ⟨q', ns ++ [r], h1, by rw [upd_same, List.map_append]; rfl, hq, by simp; omega, fun x hx => ?_⟩
    rcases List.mem_append.mp hx with hx | hx
    · exact hns x hx
    · rw [List.mem_singleton.mp hx]; exact hr
  · exact ⟨q', ns', h1, (upd_ne e).trans h2, h3, by omega, h5⟩
theorem valV_mem {κ : Type} [DecidableEq κ] {kvs : List (κ × V)} {k : κ} {v : V} (h : valV kvs k = some v) : ∃ kv ∈ kvs, kv.2 = v := by
  unfold valV at h
  obtain ⟨x, hx, e⟩ := Option.map_eq_some_iff.mp h
  exact ⟨x, List.mem_of_find?_eq_some hx, e⟩
theorem valV_old {κ : Type} [DecidableEq κ] {kvs t : List (κ × V)} {k : κ} {v : V} (h : valV kvs k = some v) : valV (kvs ++ t) k = some v := by
  unfold valV at h ⊢
  obtain ⟨x, hx, e⟩ := Option.map_eq_some_iff.mp h
  rw [List.find?_append, hx]
  exact congrArg some e
theorem valV_new {κ : Type} [DecidableEq κ] {kvs : List (κ × V)} {k : κ} {v : V} (h : valV kvs k = none) : valV (kvs ++ [(k, v)]) k = some v := by
  unfold valV at h ⊢
  rw [Option.map_eq_none_iff] at h
  rw [List.find?_append, h]
  simp
theorem nV_inj : ∀ {a b : List Nat}, a.map nV = b.map nV → a = b
  | [], [], _ => rfl
  | [], _ :: _, h => by cases h
  | _ :: _, [], h => by cases h
  | x :: a, y :: b, h => by
    injection h with h1 h2
    have h3 := V.int.inj h1
    have h4 : x = y := by omega
    rw [h4, nV_inj h2]
def WaI (H : Hp) (kvs : List (List Key × V)) (pr : Pr) (r : Nat) : Prop := ∃ (q : Addr) (ns : List Nat), valV kvs (key2 pr.1 pr.2) = some (.ref q) ∧ H q = some (.lst (ns.map nV)) ∧ r ∈ ns
theorem WaI.same {H H' : Hp} {kvs : List (List Key × V)} {pr : Pr} {r : Nat} (e : Same H H') (h : WaI H kvs pr r) : WaI H' kvs pr r := by
  obtain ⟨q, ns, h1, h2, h3⟩ := h
  exact ⟨q, ns, h1, e _ _ h2, h3⟩
theorem WaI.app {H : Hp} {kvs t : List (List Key × V)} {pr : Pr} {r : Nat} (h : WaI H kvs pr r) : WaI H (kvs ++ t) pr r := by
  obtain ⟨q, ns, h1, h2, h3⟩ := h
  exact ⟨q, ns, valV_old h1, h2, h3⟩
theorem WaI.upd {H : Hp} {kvs : List (List Key × V)} {pr : Pr} {r : Nat} (h : WaI H kvs pr r) {q1 : Addr} {ns1 : List Nat} {x : Nat} (hq : H q1 = some (.lst (ns1.map nV))) : WaI (upd H q1 (.lst (ns1.map nV ++ [nV x]))) kvs pr r := by
  obtain ⟨q, ns, h1, h2, h3⟩ := h
  by_cases e : q = q1
  · subst e
    rw [hq] at h2
    have e2 : ns1 = ns := by
      have := HO.lst.inj (Option.some.inj h2)
      exact nV_inj this
    subst e2
    exact ⟨q, ns1 ++ [x], h1, by rw [upd_same, List.map_append]; rfl, List.mem_append_left _ h3⟩
  · exact ⟨q, ns, h1, (upd_ne e).trans h2, h3⟩
theorem WaI.dic {H : Hp} {kvs : List (List Key × V)} {pr : Pr} {r : Nat} (h : WaI H kvs pr r) {p : Addr} {kvs0 : List (List Key × V)} {o : HO} (hp : H p = some (.dT kvs0)) : WaI (L2.upd H p o) kvs pr r := by
  obtain ⟨q, ns, h1, h2, h3⟩ := h
  exact ⟨q, ns, h1, (upd_ne (fun z => by rw [z, hp] at h2; cases h2)).trans h2, h3⟩
def WaC (rules : List NRul) (H : Hp) (kvs : List (List Key × V)) (k m : Nat) : Prop := ∀ (r : Nat) (q : NRul) (x : Nat) (pr : Pr), rules[r]? = some q → q.1[x]? = some pr → (r < k ∨ r = k ∧ x < m) → WaI H kvs pr r
def spWa : Sp := fun vs H Q _ => ∃ (ra : Addr) (us : List V) (rules : List NRul), vs = [.ref ra] ∧ H ra = some (.lst us) ∧ DAts H (rules.map dNR) us ∧ rules.length ≤ 100 ∧ (∀ r ∈ rules, r.1.length ≤ 100) ∧ ∀ (p : Addr) (kvs : List (List Key × V)) (n : Nat) (H' : Hp), Same H H' → H p = none → H' p = some (.dT kvs) → WaP rules.length H H' kvs n → WaC rules H' kvs rules.length 0 → Q (.ref p) H'
section
variable {P : Program} {w : World} {K : PySem.W.Frag} {mg : Str → Option Value} {base : Heap} {f : Addr} {fd : FuncData}
theorem ok_boths (bi : Bi mg) (be : mg "enumerate" = none) (F : Fun K "boths_by_part" "boths_by_part" s_boths_by_part f fd) : FnOk P w K mg base CX0 1 f fd ["sheet"] spBo := by
  refine F.ok sc_boths_by_part (fun vs H Q E h => ?_) (fun cdv A outer s H vs Q E hr h => ?_)
  · obtain ⟨sa, us, rows, rfl, _⟩ := h
    rfl
  obtain ⟨sa, us, rows, rfl, hsa, hrw, h100, hin, q⟩ := h
  have hul := mapLen hrw
  refine ⟨_, (pss_cons (ps_comp (i := 1) ["n"] [] [] sc_boths_by_part.nd rfl (pi_range1 rfl bi.range (pa_cons (pe_op op_mul pe_int (pe_callB call_len rfl bi.len bt_len (pa_cons (pv 0) pa_nil))) pa_nil)) (fun _ _ _ _ nd => pg_name (i := 0) nd rfl (Or.inl rfl)) (fun _ _ _ _ => pif_nil) (fun _ _ _ _ => (pe_lst pa_nil))) (pss_cons (ps_for PassesOwn.never rfl (pi_enum rfl be (pa_cons (pv 0) pa_nil)) (pg_tup rfl (pgs_cons (pg_name (i := 2) sc_boths_by_part.nd rfl (Or.inl rfl)) (pgs_cons (pg_name (i := 3) sc_boths_by_part.nd rfl (Or.inl rfl)) pgs_nil))) (pss_one (ps_if (pt_cmpR op_eq (pe_ix ix_tup (pv 3) pe_int (fun _ _ => rfl)) pe_str (nomark _)) (pss_cons (ps_expr (pe_bm PySem.F.plainAttrs_list PySem.F.slot_list_append PySem.F.type_list_append mt_append (pe_ix ix_list (pv 1) (pe_ix ix_tup (pv 3) pe_int (fun _ _ => rfl)) (fun _ _ => rfl)) (pa_cons (pe_tup (pa_cons (pe_op op_mul pe_int (pv 2)) (pa_cons (pe_ix ix_tup (pv 3) pe_int (fun _ _ => rfl)) (pa_cons (pe_ix ix_tup (pv 3) pe_int (fun _ _ => rfl)) pa_nil)))) pa_nil))) (pss_one (ps_expr (pe_bm PySem.F.plainAttrs_list PySem.F.slot_list_append PySem.F.type_list_append mt_append (pe_ix ix_list (pv 1) (pe_ix ix_tup (pv 3) pe_int (fun _ _ => rfl)) (fun _ _ => rfl)) (pa_cons (pe_tup (pa_cons (pe_op op_mul pe_int (pv 2)) (pa_cons (pe_ix ix_tup (pv 3) pe_int (fun _ _ => rfl)) (pa_cons (pe_ix ix_tup (pv 3) pe_int (fun _ _ => rfl)) pa_nil)))) pa_nil))))) pss_nil))) (pss_one (ps_ret (pv 1))))), ?_⟩
  refine seq_abs fun N hN => ?_
  simp only [tSeq, tFor_eq, tLC_eq, iRng1, iRng2, iList, iTup, iStr, tIfS, tRet, tRetN, tNext, tAsg, gName, tVar, tC, tOp, rI0, rI, tTest, tB, rEq, rNe, tCall, tCons, tNil, tCB, tLst, tTup, tAnd, tOr, tNot, tAndV, tOrV, tNotV, tIf, tDrop, tSl, tPart, tNoPart, tChain, tUn, rU, L2.start, cx_K, bk_K, cx_calm, bk_calm, lenV_str, and_assoc, Option.join, List.length_map, List.length_append, decide_eq_true_eq, Bool.false_eq_true, if_false, if_true, Bool.not_true, Bool.not_false, Bool.not_eq_true', decide_eq_false_iff_not, Bool.true_eq_false, List.length_cons, List.length_nil, List.map_cons, List.map_nil, List.replicate, List.cons_append, List.nil_append, List.append_nil, List.getElem?_cons_zero, List.getElem?_cons_succ, List.set_cons_zero, List.set_cons_succ, Nat.reduceSub, Nat.reduceAdd, Option.some.injEq, V.int.injEq, V.str.injEq, V.bl.injEq, V.ref.injEq, List.cons.injEq, and_true, true_and, exists_eq_left', exists_eq_left, exists_and_left, exists_eq_right, exists_const, tBM, tBM0, rAppend, rPop, rIxL, rIxT, rIxS, rSlL, rSlT, rSlS, rCat, rCatT, tKGet, cx_w, bk_w, tDGet, tDisp, tPairs, tDNewK, cx_P]
  refine ⟨us.length, .inl ⟨_, SqL.of hsa, rfl⟩, .inl ⟨by decide, by decide⟩, by omega, by omega, ?_⟩
  refine lc_range (lo := 0) (n := (2 * (us.length : Int)).toNat) (fun i ys σ H' => Same H H' ∧ (∃ qs : List Addr, ys = qs.map V.ref ∧ qs.length = i ∧ (∀ q ∈ qs, H q = none) ∧ BoP rows H' qs 0) ∧ ∃ o, σ = [o]) ⟨Same.refl _, ⟨[], rfl, rfl, (fun q z => by cases z), fun q z => by cases z⟩, _, rfl⟩ (small (by omega)) (fun i ys σ H' e => ?_) (fun i ys σ H' C hi e hC => ?_) (fun ys σ H' e p hp => hN _ _ ?_)
  · obtain ⟨_, ⟨qs, rfl, hl, _⟩, _⟩ := e
    rw [List.length_map]
    omega
  · obtain ⟨es, ⟨qs, rfl, hl, hfr, hbo⟩, o, rfl⟩ := e
    simp only [tSeq, tFor_eq, tLC_eq, iRng1, iRng2, iList, iTup, iStr, tIfS, tRet, tRetN, tNext, tAsg, gName, tVar, tC, tOp, rI0, rI, tTest, tB, rEq, rNe, tCall, tCons, tNil, tCB, tLst, tTup, tAnd, tOr, tNot, tAndV, tOrV, tNotV, tIf, tDrop, tSl, tPart, tNoPart, tChain, tUn, rU, L2.start, cx_K, bk_K, cx_calm, bk_calm, lenV_str, and_assoc, Option.join, List.length_map, List.length_append, decide_eq_true_eq, Bool.false_eq_true, if_false, if_true, Bool.not_true, Bool.not_false, Bool.not_eq_true', decide_eq_false_iff_not, Bool.true_eq_false, List.length_cons, List.length_nil, List.map_cons, List.map_nil, List.replicate, List.cons_append, List.nil_append, List.append_nil, List.getElem?_cons_zero, List.getElem?_cons_succ, List.set_cons_zero, List.set_cons_succ, Nat.reduceSub, Nat.reduceAdd, Option.some.injEq, V.int.injEq, V.str.injEq, V.bl.injEq, V.ref.injEq, List.cons.injEq, and_true, true_and, exists_eq_left', exists_eq_left, exists_and_left, exists_eq_right, exists_const, tBM, tBM0, rAppend, rPop, rIxL, rIxT, rIxS, rSlL, rSlT, rSlS, rCat, rCatT, tKGet, cx_w, bk_w, tDGet, tDisp, tPairs, tDNewK, cx_P]
    refine ⟨small (by simp), fun q0 hq0 => hC _ _ _ ⟨es.trans (same_new hq0 _), ⟨qs ++ [q0], by rw [List.map_append]; rfl, by simp [hl], fun q hq => ?_, fun q hq => ?_⟩, _, rfl⟩⟩
    · rcases List.mem_append.mp hq with hq | hq
      · exact hfr q hq
      · rw [List.mem_singleton.mp hq]; exact es.free hq0
    · rcases List.mem_append.mp hq with hq | hq
      · exact BoP.same (same_new hq0 _) hbo q hq
      · rw [List.mem_singleton.mp hq]
        exact ⟨[], upd_same, Nat.le_refl _, fun v z => by cases z⟩
  obtain ⟨es, ⟨qs, rfl, hl, hfr, hbo⟩, o, rfl⟩ := e
  clear hN
  have s1 := same_new hp (.lst (qs.map V.ref))
  have k1 : upd H' p (.lst (qs.map V.ref)) p = some (.lst (qs.map V.ref)) := upd_same
  have hp0 := es.free hp
  have hpq : p ∉ qs := fun z => by
    obtain ⟨_, h1, _⟩ := hbo p z
    rw [hp] at h1
    cases h1
  replace hbo := hbo.same s1
  replace es := es.trans s1
  generalize upd H' p (.lst (qs.map V.ref)) = H1 at k1 hbo es ⊢
  have hql : qs.length = 2 * rows.length := by omega
  clear s1 hp hl
  refine seq_join (fun σ H' => ∃ (o1 o2 : Option V) (n : Nat), Same H H' ∧ H' p = some (.lst (qs.map V.ref)) ∧ BoP rows H' qs n ∧ BoC rows H' qs rows.length ∧ σ = [some (V.ref sa), some (V.ref p), o1, o2]) (fun N hN => ?_) (fun σ H' h => ?_)
  · simp only [tSeq, tFor_eq, tLC_eq, iRng1, iRng2, iList, iTup, iStr, tIfS, tRet, tRetN, tNext, tAsg, gName, tVar, tC, tOp, rI0, rI, tTest, tB, rEq, rNe, tCall, tCons, tNil, tCB, tLst, tTup, tAnd, tOr, tNot, tAndV, tOrV, tNotV, tIf, tDrop, tSl, tPart, tNoPart, tChain, tUn, rU, L2.start, cx_K, bk_K, cx_calm, bk_calm, lenV_str, and_assoc, Option.join, List.length_map, List.length_append, decide_eq_true_eq, Bool.false_eq_true, if_false, if_true, Bool.not_true, Bool.not_false, Bool.not_eq_true', decide_eq_false_iff_not, Bool.true_eq_false, List.length_cons, List.length_nil, List.map_cons, List.map_nil, List.replicate, List.cons_append, List.nil_append, List.append_nil, List.getElem?_cons_zero, List.getElem?_cons_succ, List.set_cons_zero, List.set_cons_succ, Nat.reduceSub, Nat.reduceAdd, Option.some.injEq, V.int.injEq, V.str.injEq, V.bl.injEq, V.ref.injEq, List.cons.injEq, and_true, true_and, exists_eq_left', exists_eq_left, exists_and_left, exists_eq_right, exists_const, tBM, tBM0, rAppend, rPop, rIxL, rIxT, rIxS, rSlL, rSlT, rSlS, rCat, rCatT, tKGet, cx_w, bk_w, tDGet, tDisp, tPairs, tDNewK, cx_P, iEnum]
    refine ⟨_, es _ _ hsa, ?_⟩
    refine fw_enum (xs := us) (fun k σ H' => ∃ (o1 o2 : Option V), Same H H' ∧ H' p = some (.lst (qs.map V.ref)) ∧ BoP rows H' qs (2 * k) ∧ BoC rows H' qs k ∧ σ = [some (V.ref sa), some (V.ref p), o1, o2]) ⟨_, _, es, k1, hbo, (fun m a b hm => by omega), rfl⟩ (fun k σ H' h => ?_) (fun k x σ H' pe hx h hpe => ?_) (fun σ H' h => ?_)
    · obtain ⟨_, _, h, _⟩ := h
      exact h _ _ hsa
    · obtain ⟨o1, o2, s2, k2, hb2, hc2, rfl⟩ := h
      have hk : k < rows.length := by rw [← hul]; exact (List.getElem?_eq_some_iff.mp hx).1
      obtain ⟨r, hr1, hr2⟩ := mapGetV hrw hx
      obtain ⟨xa, x', vs, rfl, hxa, hcase⟩ := RwAt.out hr2
      have s3 := same_new hpe (.tup [.int k, .ref xa])
      have kp : upd H' pe (.tup [.int k, .ref xa]) pe = some (.tup [.int k, .ref xa]) := upd_same
      generalize upd H' pe (.tup [.int k, .ref xa]) = H2 at s3 kp ⊢
      replace s2 := s2.trans s3
      replace k2 := s3 _ _ k2
      replace hb2 := hb2.same s3
      replace hc2 := hc2.same s3
      replace hxa := s2 _ _ hxa
      clear s3 hpe
      have more : ∀ {a b : Nat}, a ≤ b → BoP rows H2 qs a → BoP rows H2 qs b := fun hab h q hq => by
        obtain ⟨us, h1, h2, h3⟩ := h q hq
        exact ⟨us, h1, by omega, h3⟩
      simp only [tSeq, tFor_eq, tLC_eq, iRng1, iRng2, iList, iTup, iStr, tIfS, tRet, tRetN, tNext, tAsg, gName, tVar, tC, tOp, rI0, rI, tTest, tB, rEq, rNe, tCall, tCons, tNil, tCB, tLst, tTup, tAnd, tOr, tNot, tAndV, tOrV, tNotV, tIf, tDrop, tSl, tPart, tNoPart, tChain, tUn, rU, L2.start, cx_K, bk_K, cx_calm, bk_calm, lenV_str, and_assoc, Option.join, List.length_map, List.length_append, decide_eq_true_eq, Bool.false_eq_true, if_false, if_true, Bool.not_true, Bool.not_false, Bool.not_eq_true', decide_eq_false_iff_not, Bool.true_eq_false, List.length_cons, List.length_nil, List.map_cons, List.map_nil, List.replicate, List.cons_append, List.nil_append, List.append_nil, List.getElem?_cons_zero, List.getElem?_cons_succ, List.set_cons_zero, List.set_cons_succ, Nat.reduceSub, Nat.reduceAdd, Option.some.injEq, V.int.injEq, V.str.injEq, V.bl.injEq, V.ref.injEq, List.cons.injEq, and_true, true_and, exists_eq_left', exists_eq_left, exists_and_left, exists_eq_right, exists_const, tBM, tBM0, rAppend, rPop, rIxL, rIxT, rIxS, rSlL, rSlT, rSlS, rCat, rCatT, tKGet, cx_w, bk_w, tDGet, tDisp, tPairs, tDNewK, cx_P, gTup, gCons, gNil]
      refine ⟨[.int k, .ref xa], SqT.of kp, rfl, .int k, [.ref xa], rfl, .ref xa, [], rfl, rfl, xa, rfl, _, SqT.of hxa, _, at0, rfl, ?_⟩
      cases r with
      | no =>
        obtain ⟨rfl, rfl⟩ := hcase
        rw [if_neg (by intro z; exact absurd (V.str.inj z) (by decide +kernel))]
        exact ⟨s2, k2, more (by omega) hb2, hc2.succ (fun a b z => by rw [hr1] at z; cases z), _, rfl⟩
      | nm y =>
        obtain ⟨rfl, rfl⟩ := hcase
        rw [if_neg (by intro z; exact absurd (V.str.inj z) (by decide +kernel))]
        exact ⟨s2, k2, more (by omega) hb2, hc2.succ (fun a b z => by rw [hr1] at z; cases z), _, rfl⟩
      | bo i j =>
        obtain ⟨rfl, rfl⟩ := hcase
        rw [if_pos rfl]
        obtain ⟨⟨b1, b2⟩, b3, b4⟩ := hin k i j hr1
        have hgx : ∀ (x : Int), 0 ≤ x → x < 2 * (rows.length : Int) → ∃ q, q ∈ qs ∧ atI (qs.map V.ref) x = some (V.ref q) ∧ qs[x.toNat]? = some q := fun x hx0 hx1 => by
          obtain ⟨m, rfl⟩ := Int.eq_ofNat_of_zero_le hx0
          have hm : m < qs.length := by omega
          refine ⟨qs[m], List.getElem_mem hm, ?_⟩
          exact ⟨atI_nat (by rw [List.getElem?_map, List.getElem?_eq_getElem hm]; rfl), by rw [Int.toNat_natCast]; exact List.getElem?_eq_getElem hm⟩
        obtain ⟨q1, hq1, ha1, hx1⟩ := hgx i b1 (by omega)
        obtain ⟨q2, hq2, ha2, hx2⟩ := hgx j b3 (by omega)
        obtain ⟨us1, hu1, hl1, ht1⟩ := hb2 q1 hq1
        refine ⟨_, rfl, _, SqT.of hxa, _, at1, _, _, rfl, SqL.of k2, _, ha1, .inl ⟨rfl, _, SqL.of hu1⟩, _, rfl, .inl ⟨by decide, by decide⟩, _, rfl, _, SqT.of hxa, _, at1, _, rfl, _, SqT.of hxa, _, rfl, small (by decide), fun t1 ht => ?_⟩
        have s3 := same_new ht (.tup [.int (2 * (k : Int)), .int i, .int j])
        have tr : Tri rows (upd H2 t1 (.tup [.int (2 * (k : Int)), .int i, .int j])) (.ref t1) := ⟨t1, k, i, j, rfl, upd_same, hr1⟩
        have kt1 : upd H2 t1 (.tup [.int (2 * (k : Int)), .int i, .int j]) t1 = some (.tup [.int (2 * (k : Int)), .int i, .int j]) := upd_same
        generalize upd H2 t1 (.tup [.int (2 * (k : Int)), .int i, .int j]) = H3 at s3 tr kt1 ⊢
        replace k2 := s3 _ _ k2
        replace hxa := s3 _ _ hxa
        replace hu1 := s3 _ _ hu1
        replace ht1 : ∀ v ∈ us1, Tri rows H3 v := fun v hv => (ht1 v hv).tups s3.tups
        replace hb2 := (hb2.same s3).put hu1 hl1 ht1 tr
        replace hc2 := (hc2.same s3).upd (v := .ref t1) hu1
        have in1 : InB (upd H3 q1 (.lst (us1 ++ [V.ref t1]))) q1 k i j := ⟨_, t1, upd_same, by simp, (TupSame.refl H3).upd_lst hu1 _ _ kt1⟩
        refine ⟨q1, rfl, us1, hu1, small1000 (by omega), ?_⟩
        replace s2 := (s2.trans s3).upd (o := .lst (us1 ++ [V.ref t1])) (hfr q1 hq1)
        have n1 : xa ≠ q1 := fun z => by rw [z, hu1] at hxa; cases hxa
        have n2 : p ≠ q1 := fun z => hpq (z ▸ hq1)
        replace hxa : upd H3 q1 (.lst (us1 ++ [V.ref t1])) xa = _ := (upd_ne n1).trans hxa
        replace k2 : upd H3 q1 (.lst (us1 ++ [V.ref t1])) p = _ := (upd_ne n2).trans k2
        clear kt1 hu1 hl1 ht1 tr s3 ht more
        generalize upd H3 q1 (.lst (us1 ++ [V.ref t1])) = H4 at s2 hxa k2 hb2 hc2 in1 ⊢
        obtain ⟨us2, hu2, hl2, ht2⟩ := hb2 q2 hq2
        refine ⟨_, rfl, _, SqT.of hxa, _, rfl, _, _, rfl, SqL.of k2, _, ha2, .inl ⟨rfl, _, SqL.of hu2⟩, _, rfl, .inl ⟨by decide, by decide⟩, _, rfl, _, SqT.of hxa, _, at1, _, rfl, _, SqT.of hxa, _, rfl, small (by decide), fun t1 ht => ?_⟩
        have s3 := same_new ht (.tup [.int (2 * (k : Int)), .int i, .int j])
        have tr : Tri rows (upd H4 t1 (.tup [.int (2 * (k : Int)), .int i, .int j])) (.ref t1) := ⟨t1, k, i, j, rfl, upd_same, hr1⟩
        have kt1 : upd H4 t1 (.tup [.int (2 * (k : Int)), .int i, .int j]) t1 = some (.tup [.int (2 * (k : Int)), .int i, .int j]) := upd_same
        generalize upd H4 t1 (.tup [.int (2 * (k : Int)), .int i, .int j]) = H5 at s3 tr kt1 ⊢
        replace k2 := s3 _ _ k2
        replace hu2 := s3 _ _ hu2
        replace ht2 : ∀ v ∈ us2, Tri rows H5 v := fun v hv => (ht2 v hv).tups s3.tups
        replace hb2 := (hb2.same s3).put hu2 hl2 ht2 tr
        replace hc2 := (hc2.same s3).upd (v := .ref t1) hu2
        replace in1 := (in1.same s3).upd (v := .ref t1) hu2
        have in2 : InB (upd H5 q2 (.lst (us2 ++ [V.ref t1]))) q2 k i j := ⟨_, t1, upd_same, by simp, (TupSame.refl H5).upd_lst hu2 _ _ kt1⟩
        have n2 : p ≠ q2 := fun z => hpq (z ▸ hq2)
        refine ⟨q2, rfl, us2, hu2, small1000 (by omega), (s2.trans s3).upd (hfr q2 hq2), (upd_ne n2).trans k2, hb2, hc2.succ (fun a b z x q' hx hq' => ?_), _, rfl⟩
        rw [hr1] at z
        cases z
        rcases hx with hx | hx
        · rw [← hx, Int.toNat_natCast, hq'] at hx1
          cases hx1
          exact in1
        · rw [← hx, Int.toNat_natCast, hq'] at hx2
          cases hx2
          exact in2
    · obtain ⟨o1, o2, s2, k2, hb2, hc2, rfl⟩ := h
      rw [hul] at hc2
      exact hN _ _ ⟨_, _, _, s2, k2, hb2, hc2, rfl⟩
  obtain ⟨o1, o2, n, s2, k2, hb2, hc2, rfl⟩ := h
  simp only [tSeq, tFor_eq, tLC_eq, iRng1, iRng2, iList, iTup, iStr, tIfS, tRet, tRetN, tNext, tAsg, gName, tVar, tC, tOp, rI0, rI, tTest, tB, rEq, rNe, tCall, tCons, tNil, tCB, tLst, tTup, tAnd, tOr, tNot, tAndV, tOrV, tNotV, tIf, tDrop, tSl, tPart, tNoPart, tChain, tUn, rU, L2.start, cx_K, bk_K, cx_calm, bk_calm, lenV_str, and_assoc, Option.join, List.length_map, List.length_append, decide_eq_true_eq, Bool.false_eq_true, if_false, if_true, Bool.not_true, Bool.not_false, Bool.not_eq_true', decide_eq_false_iff_not, Bool.true_eq_false, List.length_cons, List.length_nil, List.map_cons, List.map_nil, List.replicate, List.cons_append, List.nil_append, List.append_nil, List.getElem?_cons_zero, List.getElem?_cons_succ, List.set_cons_zero, List.set_cons_succ, Nat.reduceSub, Nat.reduceAdd, Option.some.injEq, V.int.injEq, V.str.injEq, V.bl.injEq, V.ref.injEq, List.cons.injEq, and_true, true_and, exists_eq_left', exists_eq_left, exists_and_left, exists_eq_right, exists_const, tBM, tBM0, rAppend, rPop, rIxL, rIxT, rIxS, rSlL, rSlT, rSlS, rCat, rCatT, tKGet, cx_w, bk_w, tDGet, tDisp, tPairs, tDNewK, cx_P]
  exact q p qs n _ s2 hp0 hfr k2 hql hb2 hc2
theorem ok_rules_by_premise (bi : Bi mg) (be : mg "enumerate" = none) (F : Fun K "rules_by_premise" "rules_by_premise" s_rules_by_premise f fd) : FnOk P w K mg base CX0 1 f fd ["rules"] spWa := by
  refine F.ok sc_rules_by_premise (fun vs H Q E h => ?_) (fun cdv A outer s H vs Q E hr h => ?_)
  · obtain ⟨ra, us, rules, rfl, _⟩ := h
    rfl
  obtain ⟨ra, us, rules, rfl, hra, hru, h100, hpr, q⟩ := h
  have hul := mapLen hru
  refine ⟨_, (pss_cons (ps_set (i := 1) sc_rules_by_premise.nd rfl (Or.inl rfl) pe_dnewT) (pss_cons (ps_for PassesOwn.never rfl (pi_enum rfl be (pa_cons (pv 0) pa_nil)) (pg_tup rfl (pgs_cons (pg_name (i := 2) sc_rules_by_premise.nd rfl (Or.inl rfl)) (pgs_cons (pg_name (i := 3) sc_rules_by_premise.nd rfl (Or.inl rfl)) pgs_nil))) (pss_one (ps_for PassesOwn.never rfl (pi_list (pe_ix ix_tup (pv 3) pe_int (fun _ _ => rfl))) (pg_name (i := 4) sc_rules_by_premise.nd rfl (Or.inl rfl)) (pss_one (ps_expr (pe_bm PySem.F.plainAttrs_list PySem.F.slot_list_append PySem.F.type_list_append mt_append (pe_sdef (hu_of hr) (pv 1) (pv 4) (pe_lst pa_nil) ⟨rfl, rfl, rfl, rfl⟩) (pa_cons (pv 2) pa_nil))))))) (pss_one (ps_ret (pv 1))))), ?_⟩
  refine seq_abs fun N hN => ?_
  simp only [tSeq, tFor_eq, tLC_eq, iRng1, iRng2, iList, iTup, iStr, tIfS, tRet, tRetN, tNext, tAsg, gName, tVar, tC, tOp, rI0, rI, tTest, tB, rEq, rNe, tCall, tCons, tNil, tCB, tLst, tTup, tAnd, tOr, tNot, tAndV, tOrV, tNotV, tIf, tDrop, tSl, tPart, tNoPart, tChain, tUn, rU, L2.start, cx_K, bk_K, cx_calm, bk_calm, lenV_str, and_assoc, Option.join, List.length_map, List.length_append, decide_eq_true_eq, Bool.false_eq_true, if_false, if_true, Bool.not_true, Bool.not_false, Bool.not_eq_true', decide_eq_false_iff_not, Bool.true_eq_false, List.length_cons, List.length_nil, List.map_cons, List.map_nil, List.replicate, List.cons_append, List.nil_append, List.append_nil, List.getElem?_cons_zero, List.getElem?_cons_succ, List.set_cons_zero, List.set_cons_succ, Nat.reduceSub, Nat.reduceAdd, Option.some.injEq, V.int.injEq, V.str.injEq, V.bl.injEq, V.ref.injEq, List.cons.injEq, and_true, true_and, exists_eq_left', exists_eq_left, exists_and_left, exists_eq_right, exists_const, tBM, tBM0, rAppend, rPop, rIxL, rIxT, rIxS, rSlL, rSlT, rSlS, rCat, rCatT, tKGet, cx_w, bk_w, tDGet, tDisp, tPairs, tDNewK, cx_P, tDNewT]
  refine fun p hp => hN _ _ ?_
  clear hN
  have s1 := same_new hp (.dT [])
  have k1 : upd H p (.dT []) p = some (.dT []) := upd_same
  generalize upd H p (.dT []) = H1 at s1 k1 ⊢
  have sz : ∀ {n : Nat}, n ≤ 40000 → n < sizeLine := fun h => Nat.lt_of_le_of_lt (m := 100000) (by omega) (by decide)
  refine seq_join (fun σ H' => ∃ (o1 o2 o3 : Option V) (kvs : List (List Key × V)) (n : Nat), Same H H' ∧ H' p = some (.dT kvs) ∧ WaP rules.length H H' kvs n ∧ WaC rules H' kvs rules.length 0 ∧ σ = [some (V.ref ra), some (V.ref p), o1, o2, o3]) (fun N hN => ?_) (fun σ H' h => ?_)
  · simp only [tSeq, tFor_eq, tLC_eq, iRng1, iRng2, iList, iTup, iStr, tIfS, tRet, tRetN, tNext, tAsg, gName, tVar, tC, tOp, rI0, rI, tTest, tB, rEq, rNe, tCall, tCons, tNil, tCB, tLst, tTup, tAnd, tOr, tNot, tAndV, tOrV, tNotV, tIf, tDrop, tSl, tPart, tNoPart, tChain, tUn, rU, L2.start, cx_K, bk_K, cx_calm, bk_calm, lenV_str, and_assoc, Option.join, List.length_map, List.length_append, decide_eq_true_eq, Bool.false_eq_true, if_false, if_true, Bool.not_true, Bool.not_false, Bool.not_eq_true', decide_eq_false_iff_not, Bool.true_eq_false, List.length_cons, List.length_nil, List.map_cons, List.map_nil, List.replicate, List.cons_append, List.nil_append, List.append_nil, List.getElem?_cons_zero, List.getElem?_cons_succ, List.set_cons_zero, List.set_cons_succ, Nat.reduceSub, Nat.reduceAdd, Option.some.injEq, V.int.injEq, V.str.injEq, V.bl.injEq, V.ref.injEq, List.cons.injEq, and_true, true_and, exists_eq_left', exists_eq_left, exists_and_left, exists_eq_right, exists_const, tBM, tBM0, rAppend, rPop, rIxL, rIxT, rIxS, rSlL, rSlT, rSlS, rCat, rCatT, tKGet, cx_w, bk_w, tDGet, tDisp, tPairs, tDNewK, cx_P, iEnum]
    refine ⟨_, s1 _ _ hra, ?_⟩
    refine fw_enum (xs := us) (fun k σ H' => ∃ (o1 o2 o3 : Option V) (kvs : List (List Key × V)), Same H H' ∧ H' p = some (.dT kvs) ∧ kvs.length ≤ 100 * k ∧ WaP rules.length H H' kvs (100 * k) ∧ WaC rules H' kvs k 0 ∧ σ = [some (V.ref ra), some (V.ref p), o1, o2, o3]) ⟨_, _, _, _, s1, k1, Nat.le_refl _, (fun kv z => by cases z), (fun r q x pr _ _ hz => by omega), rfl⟩ (fun k σ H' h => ?_) (fun k x σ H' pe hx h hpe => ?_) (fun σ H' h => ?_)
    · obtain ⟨_, _, _, _, h, _⟩ := h
      exact h _ _ hra
    · obtain ⟨o1, o2, o3, kvs, s2, k2, hkl, hw2, hc2, rfl⟩ := h
      have hk : k < rules.length := by rw [← hul]; exact (List.getElem?_eq_some_iff.mp hx).1
      obtain ⟨r, hr1, hr2⟩ := mapGetV hru hx
      have hrl := hpr r (List.mem_of_getElem? hr1)
      obtain ⟨xa, xl, xb, ps, rfl, hxa, hxl, hps, hxb⟩ := nrAt hr2
      have hpl := mapLen hps
      have s3 := same_new hpe (.tup [.int k, .ref xa])
      have kp : upd H' pe (.tup [.int k, .ref xa]) pe = some (.tup [.int k, .ref xa]) := upd_same
      generalize upd H' pe (.tup [.int k, .ref xa]) = H2 at s3 kp ⊢
      replace s2 := s2.trans s3
      replace k2 := s3 _ _ k2
      replace hw2 := hw2.same s3
      replace hc2 : WaC rules H2 kvs k 0 := fun r q x pr h1 h2 h3 => (hc2 r q x pr h1 h2 h3).same s3
      replace hxa := s2 _ _ hxa
      clear s3 hpe
      simp only [tSeq, tFor_eq, tLC_eq, iRng1, iRng2, iList, iTup, iStr, tIfS, tRet, tRetN, tNext, tAsg, gName, tVar, tC, tOp, rI0, rI, tTest, tB, rEq, rNe, tCall, tCons, tNil, tCB, tLst, tTup, tAnd, tOr, tNot, tAndV, tOrV, tNotV, tIf, tDrop, tSl, tPart, tNoPart, tChain, tUn, rU, L2.start, cx_K, bk_K, cx_calm, bk_calm, lenV_str, and_assoc, Option.join, List.length_map, List.length_append, decide_eq_true_eq, Bool.false_eq_true, if_false, if_true, Bool.not_true, Bool.not_false, Bool.not_eq_true', decide_eq_false_iff_not, Bool.true_eq_false, List.length_cons, List.length_nil, List.map_cons, List.map_nil, List.replicate, List.cons_append, List.nil_append, List.append_nil, List.getElem?_cons_zero, List.getElem?_cons_succ, List.set_cons_zero, List.set_cons_succ, Nat.reduceSub, Nat.reduceAdd, Option.some.injEq, V.int.injEq, V.str.injEq, V.bl.injEq, V.ref.injEq, List.cons.injEq, and_true, true_and, exists_eq_left', exists_eq_left, exists_and_left, exists_eq_right, exists_const, tBM, tBM0, rAppend, rPop, rIxL, rIxT, rIxS, rSlL, rSlT, rSlS, rCat, rCatT, tKGet, cx_w, bk_w, tDGet, tDisp, tPairs, tDNewK, cx_P, gTup, gCons, gNil]
      refine ⟨[.int k, .ref xa], SqT.of kp, rfl, .int k, [.ref xa], rfl, .ref xa, [], rfl, rfl, ?_⟩
      have hxl2 := s2 _ _ hxl
      refine ⟨_, rfl, _, SqT.of hxa, _, at0, _, rfl, ⟨_, SqL.of hxl2⟩, ?_⟩
      refine fw_list (xs := ps) (fun m σ H' => ∃ (o : Option V) (kvs : List (List Key × V)), Same H H' ∧ H' p = some (.dT kvs) ∧ kvs.length ≤ 100 * k + m ∧ WaP rules.length H H' kvs (100 * k + m) ∧ WaC rules H' kvs k m ∧ σ = [some (V.ref ra), some (V.ref p), some (V.int k), some (V.ref xa), o]) ⟨_, _, s2, k2, hkl, hw2, hc2, rfl⟩ (fun m σ H' _ h => ?_) (fun m x σ H' hm h => ?_) (fun σ H' h => ?_)
      · obtain ⟨_, _, h, _⟩ := h
        exact SqL.of (h _ _ hxl)
      · obtain ⟨o, kvs, s4, k4, hl4, hw4, hc4, rfl⟩ := h
        have hmp : m < ps.length := (List.getElem?_eq_some_iff.mp hm).1
        obtain ⟨pr, hpm, hpx⟩ := mapGetV hps hm
        obtain ⟨xp, _, rfl, hxp, _, _, rfl, hv1, _, _, rfl, hv2, hv3⟩ := hpx
        cases hv1
        cases hv2
        cases hv3
        replace hxp := s4 _ _ hxp
        simp only [tSeq, tFor_eq, tLC_eq, iRng1, iRng2, iList, iTup, iStr, tIfS, tRet, tRetN, tNext, tAsg, gName, tVar, tC, tOp, rI0, rI, tTest, tB, rEq, rNe, tCall, tCons, tNil, tCB, tLst, tTup, tAnd, tOr, tNot, tAndV, tOrV, tNotV, tIf, tDrop, tSl, tPart, tNoPart, tChain, tUn, rU, L2.start, cx_K, bk_K, cx_calm, bk_calm, lenV_str, and_assoc, Option.join, List.length_map, List.length_append, decide_eq_true_eq, Bool.false_eq_true, if_false, if_true, Bool.not_true, Bool.not_false, Bool.not_eq_true', decide_eq_false_iff_not, Bool.true_eq_false, List.length_cons, List.length_nil, List.map_cons, List.map_nil, List.replicate, List.cons_append, List.nil_append, List.append_nil, List.getElem?_cons_zero, List.getElem?_cons_succ, List.set_cons_zero, List.set_cons_succ, Nat.reduceSub, Nat.reduceAdd, Option.some.injEq, V.int.injEq, V.str.injEq, V.bl.injEq, V.ref.injEq, List.cons.injEq, and_true, true_and, exists_eq_left', exists_eq_left, exists_and_left, exists_eq_right, exists_const, tBM, tBM0, rAppend, rPop, rIxL, rIxT, rIxS, rSlL, rSlT, rSlS, rCat, rCatT, tKGet, cx_w, bk_w, tDGet, tDisp, tPairs, tDNewK, cx_P, tSDef, tBM]
        refine ⟨.inr ⟨_, .inl k4⟩, Nat.zero_le _, fun p1 hp1 => ?_⟩
        have n1 : p ≠ p1 := fun z => by rw [z, hp1] at k4; cases k4
        have n2 : xp ≠ p1 := fun z => by rw [z, hp1] at hxp; cases hxp
        have s5 := same_new hp1 (.lst [])
        refine ⟨kvs, s5 _ _ k4, [.inl pr.1, .inl pr.2], s5 _ _ hxp, sz (by omega), fun v hv => ?_, fun hv => ?_⟩
        · obtain ⟨kv, hkv, rfl⟩ := valV_mem hv
          obtain ⟨q', ns', h1, h2, h3, h4, h5⟩ := hw4 kv hkv
          have n3 : p ≠ q' := fun z => by rw [z, h2] at k4; cases k4
          rw [h1]
          refine ⟨.inl ⟨rfl, _, SqL.of (s5 _ _ h2)⟩, q', rfl, _, s5 _ _ h2, sz (by rw [List.length_map]; omega), (s4.trans s5).upd h3, _, kvs, (upd_ne n3).trans (s5 _ _ k4), by omega, WaP.upd (hw4.same s5) h4 h5 hk h3, ?_, rfl⟩
          intro r' q0 x pr' g1 g2 g3
          by_cases g4 : r' < k ∨ r' = k ∧ x < m
          · exact ((hc4 r' q0 x pr' g1 g2 g4).same s5).upd (s5 _ _ h2)
          · obtain ⟨rfl, rfl⟩ : r' = k ∧ x = m := by omega
            rw [hr1] at g1
            cases g1
            rw [hpm] at g2
            cases g2
            exact ⟨q', ns' ++ [r'], by rw [← h1]; exact hv, by rw [upd_same, List.map_append]; rfl, by simp⟩
        · have e1 : upd (upd H' p1 (.lst [])) p (.dT (putK kvs [.inl pr.1, .inl pr.2] (V.ref p1))) p1 = some (.lst []) := (upd_ne n1.symm).trans upd_same
          refine ⟨.inl ⟨rfl, _, SqL.of e1⟩, [], e1, sz (by simp), ((s4.trans s5).upd hp).upd (s4.free hp1), _, _, (upd_ne n1).trans upd_same, ?_, ?_, ?_, rfl⟩
          · rw [put_new hv, List.length_append, List.length_singleton]; omega
          · refine WaP.upd (ns := []) (n := 100 * k + m) (fun kv hkv => ?_) (Nat.zero_le _) (fun x z => by cases z) hk (s4.free hp1)
            rw [put_new hv] at hkv
            rcases List.mem_append.mp hkv with hkv | hkv
            · obtain ⟨q', ns', h1, h2, h3, h4, h5⟩ := hw4 kv hkv
              have n3 : q' ≠ p := fun z => by rw [← z, h2] at k4; cases k4
              exact ⟨q', ns', h1, (upd_ne n3).trans (s5 _ _ h2), h3, h4, h5⟩
            · rw [List.mem_singleton.mp hkv]
              exact ⟨p1, [], rfl, e1, s4.free hp1, Nat.zero_le _, fun x z => by cases z⟩
          · intro r' q0 x pr' g1 g2 g3
            by_cases g4 : r' < k ∨ r' = k ∧ x < m
            · have w := (((hc4 r' q0 x pr' g1 g2 g4).same s5).dic (s5 _ _ k4) (o := .dT (putK kvs [.inl pr.1, .inl pr.2] (V.ref p1)))).upd (ns1 := []) (x := k) e1
              rw [put_new hv] at w ⊢
              exact w.app
            · obtain ⟨rfl, rfl⟩ : r' = k ∧ x = m := by omega
              rw [hr1] at g1
              cases g1
              rw [hpm] at g2
              cases g2
              exact ⟨p1, [r'], by rw [put_new hv]; exact valV_new hv, by rw [upd_same]; rfl, by simp⟩
      · obtain ⟨o, kvs, s4, k4, hl4, hw4, hc4, rfl⟩ := h
        refine ⟨s4, _, _, _, _, k4, by omega, fun kv hkv => ?_, fun r' q0 x pr' g1 g2 g3 => hc4 r' q0 x pr' g1 g2 ?_, rfl⟩
        rotate_left
        · rcases Nat.lt_or_eq_of_le (show r' ≤ k by omega) with z | z
          · exact .inl z
          · refine .inr ⟨z, ?_⟩
            rw [z, hr1] at g1
            cases g1
            rw [hpl]
            exact (List.getElem?_eq_some_iff.mp g2).1
        obtain ⟨q', ns', h1, h2, h3, h4, h5⟩ := hw4 kv hkv
        exact ⟨q', ns', h1, h2, h3, by omega, h5⟩
    · obtain ⟨o1, o2, o3, kvs, s2, k2, _, hw2, hc2, rfl⟩ := h
      rw [hul] at hc2
      exact hN _ _ ⟨_, _, _, _, _, s2, k2, hw2, hc2, rfl⟩
  obtain ⟨o1, o2, o3, kvs, n, s2, k2, hw2, hc2, rfl⟩ := h
  simp only [tSeq, tFor_eq, tLC_eq, iRng1, iRng2, iList, iTup, iStr, tIfS, tRet, tRetN, tNext, tAsg, gName, tVar, tC, tOp, rI0, rI, tTest, tB, rEq, rNe, tCall, tCons, tNil, tCB, tLst, tTup, tAnd, tOr, tNot, tAndV, tOrV, tNotV, tIf, tDrop, tSl, tPart, tNoPart, tChain, tUn, rU, L2.start, cx_K, bk_K, cx_calm, bk_calm, lenV_str, and_assoc, Option.join, List.length_map, List.length_append, decide_eq_true_eq, Bool.false_eq_true, if_false, if_true, Bool.not_true, Bool.not_false, Bool.not_eq_true', decide_eq_false_iff_not, Bool.true_eq_false, List.length_cons, List.length_nil, List.map_cons, List.map_nil, List.replicate, List.cons_append, List.nil_append, List.append_nil, List.getElem?_cons_zero, List.getElem?_cons_succ, List.set_cons_zero, List.set_cons_succ, Nat.reduceSub, Nat.reduceAdd, Option.some.injEq, V.int.injEq, V.str.injEq, V.bl.injEq, V.ref.injEq, List.cons.injEq, and_true, true_and, exists_eq_left', exists_eq_left, exists_and_left, exists_eq_right, exists_const, tBM, tBM0, rAppend, rPop, rIxL, rIxT, rIxS, rSlL, rSlT, rSlS, rCat, rCatT, tKGet, cx_w, bk_w, tDGet, tDisp, tPairs, tDNewK, cx_P]
  exact q p kvs n _ s2 hp k2 hw2 hc2
end
end C
set_option Elab.async false
set_option linter.all false
set_option maxRecDepth 100000
set_option maxHeartbeats 8000000
namespace C
open PySem L2
seal PE PT PW PA PS PSs PG PGs PI PPs PO PSet PIf
abbrev s_grow_by_turn : Stmt := top 10
theorem sc_grow_by_turn : FnScope ["growth", "i", "j"] ["growth", "i", "j"] (defScope s_grow_by_turn) := ⟨rfl, rfl, rfl, by decide +kernel, rfl, by decide +kernel, by decide +kernel⟩
abbrev s_grow_by_chain : Stmt := top 11
theorem sc_grow_by_chain : FnScope ["growth", "i", "j", "line", "m", "h"] ["growth", "i", "j"] (defScope s_grow_by_chain) := ⟨rfl, rfl, rfl, by decide +kernel, rfl, by decide +kernel, by decide +kernel⟩
abbrev s_grow_by_both : Stmt := top 12
theorem sc_grow_by_both : FnScope ["growth", "i", "boths", "n", "a", "b"] ["growth", "i", "boths"] (defScope s_grow_by_both) := ⟨rfl, rfl, rfl, by decide +kernel, rfl, by decide +kernel, by decide +kernel⟩
abbrev s_grow_by_clash : Stmt := top 13
theorem sc_grow_by_clash : FnScope ["growth", "i", "j", "n"] ["growth", "i", "j"] (defScope s_grow_by_clash) := ⟨rfl, rfl, rfl, by decide +kernel, rfl, by decide +kernel, by decide +kernel⟩
theorem said_at {ls : List Ln} {p : Nat} {l : Ln} (h : ls[p]? = some l) : said ls ls.length (.n (p : Int)) = some (l.i, l.j) := by
  have hp := (List.getElem?_eq_some_iff.mp h).1
  show (if 0 ≤ (p : Int) ∧ (p : Int) < (ls.length : Int) then (ls[(p : Int).toNat]?).map fun l => (l.i, l.j) else none) = _
  rw [if_pos ⟨by omega, by omega⟩, Int.toNat_natCast, h]
  rfl
theorem st_gen {rows : List Rw} {rules : List NRul} {ls : List Ln} {i j : Nat} {x : Str} {as : List Wt} {prs : List Pr} (hi : i < 2 * rows.length) (hj : j < 2 * rows.length) (hx : x ≠ "rule") (hn : named x = some (as.length : Int)) (hs : as.map (said ls ls.length) = prs.map some) (h : stepFrom rows i j x prs = true) : stepB rows rules ls ls.length ⟨i, j, x, as⟩ = true := by
  have a1 : (as.all fun a => (said ls ls.length a).isSome) = true := by
    have : (as.map (said ls ls.length)).all (fun o => o.isSome) = true := by rw [hs]; simp
    rw [List.all_map] at this
    exact this
  have a2 : as.filterMap (said ls ls.length) = prs := by
    have : (as.map (said ls ls.length)).filterMap id = prs := by rw [hs]; simp [List.filterMap_map]
    rw [List.filterMap_map] at this
    exact this
  unfold stepB
  rw [if_neg (by
    intro z
    rcases z with z | z
    · exact z ⟨by show (0 : Int) ≤ (i : Int); omega, by show (i : Int) < _; omega⟩
    · exact z ⟨by show (0 : Int) ≤ (j : Int); omega, by show (j : Int) < _; omega⟩), if_neg hx, if_pos ⟨hn, a1⟩, a2]
  exact h
theorem GOk.rng {rows : List Rw} {rules : List NRul} {ls : List Ln} (h : GOk rows rules ls) {i j : Nat} (hh : hasP ls i j = true) : i < 2 * rows.length ∧ j < 2 * rows.length := by
  obtain ⟨p, l, hl, h1, h2⟩ := hasP_iff.mp hh
  have := step_rng (h.snd p l hl)
  omega
def tnN (n : Nat) : Nat := n + 1 - 2 * (n % 2)
theorem tnN_eq (n : Nat) : tn1 (n : Int) = ((tnN n : Nat) : Int) := by
  unfold tn1 tnN
  omega
theorem tnN_two (n : Nat) : tnN (tnN n) = n := by
  unfold tnN
  omega
theorem tnN_lt {n m : Nat} (h : n < 2 * m) : tnN n < 2 * m := by
  unfold tnN
  omega
theorem hasP_more {ls t : List Ln} {i j : Int} (h : hasP ls i j = true) : hasP (ls ++ t) i j = true := by
  rw [hasP_app, h, Bool.true_or]
theorem ow_n {as : List Wt} (h : as.length ≤ 3) (hn : ∀ ps, Wt.ps ps ∈ as → False) : OW as := ⟨h, fun ps z => (hn ps z).elim⟩
theorem st_turn {rows : List Rw} {rules : List NRul} {ls : List Ln} {i j p : Nat} {l : Ln} (hi : i < 2 * rows.length) (hj : j < 2 * rows.length) (hl : ls[p]? = some l) (h1 : l.i = i) (h2 : l.j = j) : stepB rows rules ls ls.length ⟨(tnN j : Nat), (tnN i : Nat), "turn", [.n p]⟩ = true := by
  refine st_gen (prs := [((i : Int), (j : Int))]) (tnN_lt hj) (tnN_lt hi) (by decide) rfl ?_ ?_
  · show [said ls ls.length (.n (p : Int))] = _
    rw [said_at hl, h1, h2]
    rfl
  · unfold stepFrom
    rw [if_neg (by decide), if_neg (by decide), if_neg (by decide), if_neg (by decide), if_pos rfl, tnN_eq, tnN_eq, tnN_two, tnN_two]
    exact beq_self_eq_true _
theorem st_clash {rows : List Rw} {rules : List NRul} {ls : List Ln} {i j n p : Nat} {l : Ln} (hi : i < 2 * rows.length) (hn : n < 2 * rows.length) (hj : (j : Int) = tn1 i) (hl : ls[p]? = some l) (h1 : l.i = i) (h2 : l.j = j) : stepB rows rules ls ls.length ⟨i, n, "clash", [.n p]⟩ = true := by
  refine st_gen (prs := [((i : Int), (j : Int))]) hi hn (by decide) rfl ?_ ?_
  · show [said ls ls.length (.n (p : Int))] = _
    rw [said_at hl, h1, h2]
    rfl
  · unfold stepFrom
    rw [if_neg (by decide), if_neg (by decide), if_neg (by decide), if_neg (by decide), if_neg (by decide), if_neg (by decide), hj]
    exact beq_self_eq_true _
theorem st_chain {rows : List Rw} {rules : List NRul} {ls : List Ln} {i j m p p' : Nat} {l l' : Ln} (hi : i < 2 * rows.length) (hm : m < 2 * rows.length) (hl : ls[p]? = some l) (h1 : l.i = i) (h2 : l.j = j) (hl' : ls[p']? = some l') (h1' : l'.i = j) (h2' : l'.j = m) : stepB rows rules ls ls.length ⟨i, m, "chain", [.n p, .n p']⟩ = true := by
  refine st_gen (prs := [((i : Int), (j : Int)), ((j : Int), (m : Int))]) hi hm (by decide) rfl ?_ ?_
  · show [said ls ls.length (.n (p : Int)), said ls ls.length (.n (p' : Int))] = _
    rw [said_at hl, h1, h2, said_at hl', h1', h2']
    rfl
  · unfold stepFrom
    rw [if_neg (by decide), if_neg (by decide), if_neg (by decide), if_neg (by decide), if_neg (by decide), if_pos rfl]
    simp
theorem st_both {rows : List Rw} {rules : List NRul} {ls : List Ln} {i n p p' : Nat} {a b : Int} {l l' : Ln} (hi : i < 2 * rows.length) (hn : n < 2 * rows.length) (hpt : parts rows (n : Int) = [a, b]) (hl : ls[p]? = some l) (h1 : l.i = i) (h2 : l.j = a) (hl' : ls[p']? = some l') (h1' : l'.i = i) (h2' : l'.j = b) : stepB rows rules ls ls.length ⟨i, n, "both", [.n p, .n p']⟩ = true := by
  refine st_gen (prs := [((i : Int), a), ((i : Int), b)]) hi hn (by decide) rfl ?_ ?_
  · show [said ls ls.length (.n (p : Int)), said ls ls.length (.n (p' : Int))] = _
    rw [said_at hl, h1, h2, said_at hl', h1', h2']
    rfl
  · unfold stepFrom
    rw [if_neg (by decide), if_neg (by decide), if_neg (by decide), if_pos rfl, hpt]
    exact beq_self_eq_true _
theorem ow_one {p : Nat} : OW [.n p] := ow_n (by simp) (fun ps z => by simp at z)
theorem ow_two {p q : Nat} : OW [.n p, .n q] := ow_n (by simp) (fun ps z => by simp at z)
theorem why_one {H : Hp} {p : Addr} {x : Str} {n : Nat} : DAt (upd H p (.tup [.str x, .int n])) (dWhy x [.n n]) (.ref p) := ⟨p, _, rfl, upd_same, _, _, rfl, rfl, _, _, rfl, rfl, rfl⟩
theorem why_two {H : Hp} {p : Addr} {x : Str} {n m : Nat} : DAt (upd H p (.tup [.str x, .int n, .int m])) (dWhy x [.n n, .n m]) (.ref p) := ⟨p, _, rfl, upd_same, _, _, rfl, rfl, _, _, rfl, rfl, _, _, rfl, rfl, rfl⟩
theorem sub_mask : ∀ (n a b : Nat), a ≤ n → ∃ d, a = (a &&& b) + d ∧ ∀ x, d.testBit x = (a.testBit x && !b.testBit x)
  | 0, a, b, h => by
    have e : a = 0 := by omega
    subst e
    exact ⟨0, by simp, fun x => by simp⟩
  | n + 1, a, b, h => by
    obtain ⟨d, h1, h2⟩ := sub_mask n (a / 2) (b / 2) (by omega)
    have e1 : (a &&& b) / 2 = a / 2 &&& b / 2 := Nat.eq_of_testBit_eq fun i => by
      rw [Nat.testBit_div_two, Nat.testBit_and, Nat.testBit_and, Nat.testBit_div_two, Nat.testBit_div_two]
    have e2 : decide ((a &&& b) % 2 = 1) = (decide (a % 2 = 1) && decide (b % 2 = 1)) := by
      rw [← Nat.testBit_zero, ← Nat.testBit_zero, ← Nat.testBit_zero, Nat.testBit_and]
    rw [← e1] at h1
    refine ⟨2 * d + (if a % 2 = 1 ∧ ¬ b % 2 = 1 then 1 else 0), ?_, fun x => ?_⟩
    · have e3 : (a &&& b) % 2 = 1 ↔ (a % 2 = 1 ∧ b % 2 = 1) := by
        rw [Bool.eq_iff_iff, decide_eq_true_eq, Bool.and_eq_true, decide_eq_true_eq, decide_eq_true_eq] at e2
        exact e2
      clear e1 e2 h2
      generalize a &&& b = c at h1 e3 ⊢
      split <;> omega
    · cases x with
      | zero =>
        rw [Nat.testBit_zero, Nat.testBit_zero, Nat.testBit_zero]
        by_cases ha : a % 2 = 1 <;> by_cases hb : b % 2 = 1 <;> simp [ha, hb] <;> omega
      | succ x =>
        have ed : (2 * d + (if a % 2 = 1 ∧ ¬ b % 2 = 1 then 1 else 0)) / 2 = d := by split <;> omega
        rw [← Nat.testBit_div_two, ed, h2, Nat.testBit_div_two, Nat.testBit_div_two]
theorem mask_bits {a b : Nat} (h : ∀ x, a.testBit x = true → x < 300) : ∃ (m : Nat) (xs : List Nat), Builtin.bitAnd (a : Int) (Builtin.bitNot (b : Int)) = (m : Int) ∧ Bits m xs ∧ (∀ x ∈ xs, x < 300 ∧ a.testBit x = true) ∧ ∀ x, a.testBit x = true → x ∈ xs ∨ b.testBit x = true := by
  obtain ⟨d, h1, h2⟩ := sub_mask a a b (Nat.le_refl _)
  have hd : ∀ x, d.testBit x = true → a.testBit x = true := fun x hx => by
    rw [h2, Bool.and_eq_true] at hx
    exact hx.1
  refine ⟨d, (List.range 300).filter fun x => d.testBit x, ?_, ⟨List.Pairwise.filter _ List.pairwise_lt_range, fun i => ?_⟩, fun x hx => ?_, fun x hx => ?_⟩
  · unfold Builtin.bitAnd
    rw [not_not, decide_eq_true (show (0 : Int) ≤ (a : Int) by omega), decide_eq_false (show ¬ (0 : Int) ≤ Builtin.bitNot (b : Int) by unfold Builtin.bitNot; omega)]
    show (a : Int) - (((a : Int).toNat &&& (b : Int).toNat : Nat) : Int) = _
    rw [Int.toNat_natCast, Int.toNat_natCast]
    omega
  · rw [Bool.eq_iff_iff, decide_eq_true_eq, List.mem_filter, List.mem_range]
    exact ⟨fun z => ⟨h _ (hd _ z), z⟩, fun z => z.2⟩
  · obtain ⟨h3, h4⟩ := List.mem_filter.mp hx
    exact ⟨List.mem_range.mp h3, hd _ h4⟩
  · cases hb : b.testBit x with
    | true => exact .inr rfl
    | false =>
      left
      rw [List.mem_filter, List.mem_range]
      exact ⟨h x hx, by rw [h2, hx, hb]; rfl⟩
theorem GrAt.out {C : Addr} {H : Hp} {g : GAd} {rows : List Rw} {rules : List NRul} {ls : List Ln} (h : GrAt C H g rows rules ls) {p : Addr} (hp : H p = none) : OutG g p := by
  obtain ⟨ws, h2, _⟩ := h.lin
  obtain ⟨as, h5, _⟩ := h.abv
  obtain ⟨bs, h7, _⟩ := h.blw
  have go : ∀ {a : Addr} {o : HO}, H a = some o → p ≠ a := fun ha z => by rw [z, ha] at hp; cases hp
  exact ⟨go h2, go h.plc, go h5, go h7⟩
def RTurn (_rows : List Rw) (_ls L : List Ln) (i j : Nat) : Prop := hasP L ((tnN j : Nat) : Int) ((tnN i : Nat) : Int) = true
def RChain (_rows : List Rw) (ls L : List Ln) (i j : Nat) : Prop := (∀ m : Nat, hasP ls j m = true → hasP L i m = true) ∧ ∀ h : Nat, hasP ls h i = true → hasP L h j = true
def RClash (rows : List Rw) (_ls L : List Ln) (i j : Nat) : Prop := (j : Int) = tn1 i → ∀ n : Nat, n < 2 * rows.length → hasP L i n = true
def RBoth (H : Hp) (us : List V) (ls L : List Ln) (i : Nat) : Prop := ∀ (t : Addr) (m : Nat) (a b : Int), V.ref t ∈ us → H t = some (.tup [.int (2 * (m : Int)), .int a, .int b]) → hasP ls i a = true → hasP ls i b = true → hasP L i ((2 * m : Nat) : Int) = true
def spGIJ (R : List Rw → List Ln → List Ln → Nat → Nat → Prop) (C : Addr) : Sp := fun vs H Q _ => ∃ (g : GAd) (rows : List Rw) (rules : List NRul) (ls : List Ln) (i j : Nat), vs = [.ref g.r, .int i, .int j] ∧ GrAt C H g rows rules ls ∧ rows.length ≤ 100 ∧ hasP ls i j = true ∧ ∀ H', GrH C H g rows rules ls (fun L => R rows ls L i j) H' → Q .non H'
def spGB (C : Addr) : Sp := fun vs H Q _ => ∃ (g : GAd) (rows : List Rw) (rules : List NRul) (ls : List Ln) (i : Nat) (q : Addr) (us : List V), vs = [.ref g.r, .int i, .ref q] ∧ GrAt C H g rows rules ls ∧ rows.length ≤ 100 ∧ i < 2 * rows.length ∧ H q = some (.lst us) ∧ OutG g q ∧ (∀ v ∈ us, Tri rows H v) ∧ RowsIn rows ∧ ∀ H', GrH C H g rows rules ls (fun L => RBoth H us ls L i) H' → Q .non H'
section
variable {P : Program} {w : World} {K : PySem.W.Frag} {mg : Str → Option Value} {base : Heap} {f : Addr} {fd : FuncData}
theorem ok_turn {C : Addr} (T : GrC K C) (h_Growth_line_of : HasM P w K mg base 1 C "line_of" ["self", "i", "j"] (spLo C)) (h_Growth_grow : HasM P w K mg base 2 C "grow" ["self", "i", "j", "why"] (spGw C)) (F : Fun K "grow_by_turn" "grow_by_turn" s_grow_by_turn f fd) : FnOk P w K mg base CX0 3 f fd ["growth", "i", "j"] (spGIJ RTurn C) := by
  refine F.ok sc_grow_by_turn (fun vs H Q E h => ?_) (fun cdv A outer s H vs Q E hr h => ?_)
  · obtain ⟨g, rows, rules, ls, i, j, rfl, _⟩ := h
    rfl
  obtain ⟨g, rows, rules, ls, i, j, rfl, hg, h100, hh, q⟩ := h
  have cl_Growth := T.cl
  have lk : (grF g).lookup ("grow" : Str) = none := gr_no g (by decide +kernel) (by decide +kernel) (by decide +kernel) (by decide +kernel)
  have lk2 : (grF g).lookup ("line_of" : Str) = none := gr_no g (by decide +kernel) (by decide +kernel) (by decide +kernel) (by decide +kernel)
  obtain ⟨dx, hins⟩ := hg.ins
  refine ⟨_, (pss_one (ps_expr (pe_methH h_Growth_grow cl_Growth (hr.mono (by omega)) (pv 0) (pa_cons (pe_op op_xor (pv 2) pe_int) (pa_cons (pe_op op_xor (pv 1) pe_int) (pa_cons (pe_tup (pa_cons pe_str (pa_cons (pe_methH h_Growth_line_of cl_Growth (hr.mono (by omega)) (pv 0) (pa_cons (pv 1) (pa_cons (pv 2) pa_nil))) pa_nil))) pa_nil)))))), ?_⟩
  simp only [tSeq, tFor_eq, tLC_eq, iRng1, iRng2, iList, iTup, iStr, tIfS, tRet, tRetN, tNext, tAsg, gName, tVar, tC, tOp, rI0, rI, tTest, tB, rEq, rNe, tCall, tCons, tNil, tCB, tLst, tTup, tAnd, tOr, tNot, tAndV, tOrV, tNotV, tIf, tDrop, tSl, tPart, tNoPart, tChain, tUn, rU, L2.start, cx_K, bk_K, cx_calm, bk_calm, lenV_str, and_assoc, Option.join, List.length_map, List.length_append, decide_eq_true_eq, Bool.false_eq_true, if_false, if_true, Bool.not_true, Bool.not_false, Bool.not_eq_true', decide_eq_false_iff_not, Bool.true_eq_false, List.length_cons, List.length_nil, List.map_cons, List.map_nil, List.replicate, List.cons_append, List.nil_append, List.append_nil, List.getElem?_cons_zero, List.getElem?_cons_succ, List.set_cons_zero, List.set_cons_succ, Nat.reduceSub, Nat.reduceAdd, Option.some.injEq, V.int.injEq, V.str.injEq, V.bl.injEq, V.ref.injEq, List.cons.injEq, and_true, true_and, exists_eq_left', exists_eq_left, exists_and_left, exists_eq_right, exists_const, tBM, tBM0, rAppend, rPop, rIxL, rIxT, rIxS, rSlL, rSlT, rSlS, rCat, rCatT, tKGet, cx_w, bk_w, tDGet, tDisp, tPairs, tDNewK, cx_P, tMeth]
  obtain ⟨hi, hj⟩ := hg.ok.rng hh
  refine ⟨_, _, hins, lk, _, _, hins, lk2, g, rows, rules, ls, i, j, rfl, hg, hh, fun p l H1 s1 hl h1 h2 => ⟨small (by decide), fun p1 hp1 => ?_⟩⟩
  rw [xor1, xor1, tnN_eq, tnN_eq]
  exact gw_any (t := []) (Same.g s1) (by rw [List.append_nil]; exact hg.same s1) h100 (same_new hp1 _) why_one (by rw [List.append_nil]; exact st_turn hi hj hl h1 h2) ow_one (fun L e h => h) fun _ H3 g3 => q _ g3
theorem ok_chain {C : Addr} (T : GrC K C) (bi : Bi mg) (h_bits_of : Has P w K mg base 1 "bits_of" ["mask"] spBits) (h_Growth_line_of : HasM P w K mg base 1 C "line_of" ["self", "i", "j"] (spLo C)) (h_Growth_grow : HasM P w K mg base 2 C "grow" ["self", "i", "j", "why"] (spGw C)) (F : Fun K "grow_by_chain" "grow_by_chain" s_grow_by_chain f fd) : FnOk P w K mg base CX0 3 f fd ["growth", "i", "j"] (spGIJ RChain C) := by
  refine F.ok sc_grow_by_chain (fun vs H Q E h => ?_) (fun cdv A outer s H vs Q E hr h => ?_)
  · obtain ⟨g, rows, rules, ls, i, j, rfl, _⟩ := h
    rfl
  obtain ⟨g, rows, rules, ls, i, j, rfl, hg, h100, hh, q⟩ := h
  have cl_Growth := T.cl
  have lk : (grF g).lookup ("grow" : Str) = none := gr_no g (by decide +kernel) (by decide +kernel) (by decide +kernel) (by decide +kernel)
  have lk2 : (grF g).lookup ("line_of" : Str) = none := gr_no g (by decide +kernel) (by decide +kernel) (by decide +kernel) (by decide +kernel)
  obtain ⟨dx, hins⟩ := hg.ins
  refine ⟨_, (pss_cons (ps_set (i := 3) sc_grow_by_chain.nd rfl (Or.inl rfl) (pe_methH h_Growth_line_of cl_Growth (hr.mono (by omega)) (pv 0) (pa_cons (pv 1) (pa_cons (pv 2) pa_nil)))) (pss_cons (ps_for PassesOwn.never rfl (pi_list (pe_callH h_bits_of (hr.mono (by omega)) rfl (pa_cons (pe_op op_and (pe_ix ix_list (pe_fld (pv 0) rfl) (pv 2) (fun _ _ => rfl)) (pe_un un_inv (pe_ix ix_list (pe_fld (pv 0) rfl) (pv 1) (fun _ _ => rfl)))) pa_nil))) (pg_name (i := 4) sc_grow_by_chain.nd rfl (Or.inl rfl)) (pss_one (ps_expr (pe_methH h_Growth_grow cl_Growth (hr.mono (by omega)) (pv 0) (pa_cons (pv 1) (pa_cons (pv 4) (pa_cons (pe_tup (pa_cons pe_str (pa_cons (pv 3) (pa_cons (pe_methH h_Growth_line_of cl_Growth (hr.mono (by omega)) (pv 0) (pa_cons (pv 2) (pa_cons (pv 4) pa_nil))) pa_nil)))) pa_nil))))))) (pss_one (ps_for PassesOwn.never rfl (pi_list (pe_callH h_bits_of (hr.mono (by omega)) rfl (pa_cons (pe_op op_and (pe_ix ix_list (pe_fld (pv 0) rfl) (pv 1) (fun _ _ => rfl)) (pe_un un_inv (pe_ix ix_list (pe_fld (pv 0) rfl) (pv 2) (fun _ _ => rfl)))) pa_nil))) (pg_name (i := 5) sc_grow_by_chain.nd rfl (Or.inl rfl)) (pss_one (ps_expr (pe_methH h_Growth_grow cl_Growth (hr.mono (by omega)) (pv 0) (pa_cons (pv 5) (pa_cons (pv 2) (pa_cons (pe_tup (pa_cons pe_str (pa_cons (pe_methH h_Growth_line_of cl_Growth (hr.mono (by omega)) (pv 0) (pa_cons (pv 5) (pa_cons (pv 1) pa_nil))) (pa_cons (pv 3) pa_nil)))) pa_nil)))))))))), ?_⟩
  refine seq_abs fun N hN => ?_
  simp only [tSeq, tFor_eq, tLC_eq, iRng1, iRng2, iList, iTup, iStr, tIfS, tRet, tRetN, tNext, tAsg, gName, tVar, tC, tOp, rI0, rI, tTest, tB, rEq, rNe, tCall, tCons, tNil, tCB, tLst, tTup, tAnd, tOr, tNot, tAndV, tOrV, tNotV, tIf, tDrop, tSl, tPart, tNoPart, tChain, tUn, rU, L2.start, cx_K, bk_K, cx_calm, bk_calm, lenV_str, and_assoc, Option.join, List.length_map, List.length_append, decide_eq_true_eq, Bool.false_eq_true, if_false, if_true, Bool.not_true, Bool.not_false, Bool.not_eq_true', decide_eq_false_iff_not, Bool.true_eq_false, List.length_cons, List.length_nil, List.map_cons, List.map_nil, List.replicate, List.cons_append, List.nil_append, List.append_nil, List.getElem?_cons_zero, List.getElem?_cons_succ, List.set_cons_zero, List.set_cons_succ, Nat.reduceSub, Nat.reduceAdd, Option.some.injEq, V.int.injEq, V.str.injEq, V.bl.injEq, V.ref.injEq, List.cons.injEq, and_true, true_and, exists_eq_left', exists_eq_left, exists_and_left, exists_eq_right, exists_const, tBM, tBM0, rAppend, rPop, rIxL, rIxT, rIxS, rSlL, rSlT, rSlS, rCat, rCatT, tKGet, cx_w, bk_w, tDGet, tDisp, tPairs, tDNewK, cx_P, tMeth]
  obtain ⟨hi, hj⟩ := hg.ok.rng hh
  refine ⟨_, _, hins, lk2, g, rows, rules, ls, i, j, rfl, hg, hh, fun p l H1 s1 hl h1 h2 => hN _ _ ?_⟩
  clear hN
  refine seq_join (fun σ H' => ∃ (o1 o2 : Option V), GrH C H g rows rules ls (fun L => ∀ m : Nat, hasP ls j m = true → hasP L i m = true) H' ∧ σ = [some (V.ref g.r), some (V.int i), some (V.int j), some (V.int p), o1, o2]) (fun N hN => ?_) (fun σ H' h => ?_)
  · simp only [tSeq, tFor_eq, tLC_eq, iRng1, iRng2, iList, iTup, iStr, tIfS, tRet, tRetN, tNext, tAsg, gName, tVar, tC, tOp, rI0, rI, tTest, tB, rEq, rNe, tCall, tCons, tNil, tCB, tLst, tTup, tAnd, tOr, tNot, tAndV, tOrV, tNotV, tIf, tDrop, tSl, tPart, tNoPart, tChain, tUn, rU, L2.start, cx_K, bk_K, cx_calm, bk_calm, lenV_str, and_assoc, Option.join, List.length_map, List.length_append, decide_eq_true_eq, Bool.false_eq_true, if_false, if_true, Bool.not_true, Bool.not_false, Bool.not_eq_true', decide_eq_false_iff_not, Bool.true_eq_false, List.length_cons, List.length_nil, List.map_cons, List.map_nil, List.replicate, List.cons_append, List.nil_append, List.append_nil, List.getElem?_cons_zero, List.getElem?_cons_succ, List.set_cons_zero, List.set_cons_succ, Nat.reduceSub, Nat.reduceAdd, Option.some.injEq, V.int.injEq, V.str.injEq, V.bl.injEq, V.ref.injEq, List.cons.injEq, and_true, true_and, exists_eq_left', exists_eq_left, exists_and_left, exists_eq_right, exists_const, tBM, tBM0, rAppend, rPop, rIxL, rIxT, rIxS, rSlL, rSlT, rSlS, rCat, rCatT, tKGet, cx_w, bk_w, tDGet, tDisp, tPairs, tDNewK, cx_P, tMeth, tFld]
    have hg1 := hg.same s1
    obtain ⟨dx, hins⟩ := hg1.ins
    obtain ⟨as, hab, hmk⟩ := hg1.abv
    have hil : i < as.length := by rw [hmk.len]; exact hi
    have hjl : j < as.length := by rw [hmk.len]; exact hj
    have hbit := hmk.bit j as[j] (List.getElem?_eq_getElem hjl)
    have hbx : ∀ x, as[j].testBit x = true → x < 2 * rows.length := fun x hx => (hg.ok.rng (i := j) (by rw [← hbit x]; exact hx)).2
    obtain ⟨m, xs, em, hbm, hxs, hxa⟩ := mask_bits (b := as[i]) fun x hx => Nat.lt_of_lt_of_le (hbx x hx) (by omega)
    have hat : ∀ {k : Nat} (hk : k < as.length), atI (as.map nV) (k : Int) = some (V.int ((as[k] : Nat) : Int)) := fun {k} hk => atI_nat (by rw [List.getElem?_map, List.getElem?_eq_getElem hk]; rfl)
    refine ⟨_, _, _, hins, T.cl, T.nA, _, gr_a g, _, rfl, _, SqL.of hab, _, hat hjl, _, _, _, hins, T.cl, T.nA, _, gr_a g, _, rfl, _, SqL.of hab, _, hat hil, _, rfl, _, rfl, ?_⟩
    rw [em]
    refine ⟨m, xs, rfl, hbm, fun x hx => (hxs x hx).1, fun pb H2 s2 hpb0 hpb => ?_⟩
    have ho : OutG g pb := hg1.out hpb0
    replace s1 := s1.trans s2
    have hg2 := hg.same s1
    refine ⟨_, rfl, ⟨_, SqL.of hpb⟩, ?_⟩
    refine fw_list (xs := xs.map nV) (fun k σ H' => ∃ (o1 o2 : Option V), GrH C H2 g rows rules ls (fun L => ∀ x ∈ xs.take k, hasP L i x = true) H' ∧ σ = [some (V.ref g.r), some (V.int i), some (V.int j), some (V.int p), o1, o2]) ⟨_, _, GrH.refl hg2 (fun x z => by cases z), rfl⟩ (fun k σ H' _ h => ?_) (fun k x σ H' hx h => ?_) (fun σ H' h => ?_)
    · obtain ⟨_, _, h, _⟩ := h
      exact SqL.of (h.to.1.out ho hpb)
    · obtain ⟨o1, o2, ⟨gs, t, gt, hP⟩, rfl⟩ := h
      rw [List.getElem?_map] at hx
      obtain ⟨x', hx', rfl⟩ := Option.map_eq_some_iff.mp hx
      obtain ⟨_, hx2⟩ := hxs x' (List.mem_of_getElem? hx')
      have hjx : hasP ls j x' = true := by rw [← hbit x']; exact hx2
      have hx3 := hbx x' hx2
      obtain ⟨dx, hins⟩ := gt.ins
      simp only [tSeq, tFor_eq, tLC_eq, iRng1, iRng2, iList, iTup, iStr, tIfS, tRet, tRetN, tNext, tAsg, gName, tVar, tC, tOp, rI0, rI, tTest, tB, rEq, rNe, tCall, tCons, tNil, tCB, tLst, tTup, tAnd, tOr, tNot, tAndV, tOrV, tNotV, tIf, tDrop, tSl, tPart, tNoPart, tChain, tUn, rU, L2.start, cx_K, bk_K, cx_calm, bk_calm, lenV_str, and_assoc, Option.join, List.length_map, List.length_append, decide_eq_true_eq, Bool.false_eq_true, if_false, if_true, Bool.not_true, Bool.not_false, Bool.not_eq_true', decide_eq_false_iff_not, Bool.true_eq_false, List.length_cons, List.length_nil, List.map_cons, List.map_nil, List.replicate, List.cons_append, List.nil_append, List.append_nil, List.getElem?_cons_zero, List.getElem?_cons_succ, List.set_cons_zero, List.set_cons_succ, Nat.reduceSub, Nat.reduceAdd, Option.some.injEq, V.int.injEq, V.str.injEq, V.bl.injEq, V.ref.injEq, List.cons.injEq, and_true, true_and, exists_eq_left', exists_eq_left, exists_and_left, exists_eq_right, exists_const, tBM, tBM0, rAppend, rPop, rIxL, rIxT, rIxS, rSlL, rSlT, rSlS, rCat, rCatT, tKGet, cx_w, bk_w, tDGet, tDisp, tPairs, tDNewK, cx_P, tMeth]
      refine ⟨_, _, hins, lk, _, _, hins, lk2, g, rows, rules, _, j, x', rfl, gt, hasP_more hjx, fun p' l' H4 s4 hl' h1' h2' => ⟨small (by decide), fun p1 hp1 => ?_⟩⟩
      refine gw_any (gs.trans (Same.g s4)) (gt.same s4) h100 (same_new hp1 _) why_two (st_chain hi hx3 (by rw [List.getElem?_append_left (List.getElem?_eq_some_iff.mp hl).1]; exact hl) h1 h2 hl' h1' h2') ow_two (fun L e h x hx9 => ?_) fun _ H3 g3 => ⟨g3, _, rfl⟩
      obtain ⟨hkl, hke⟩ := List.getElem?_eq_some_iff.mp hx'
      rw [List.take_succ_eq_append_getElem hkl, hke] at hx9
      rcases List.mem_append.mp hx9 with hx9 | hx9
      · exact e.has (hP x hx9)
      · rw [List.mem_singleton.mp hx9]; exact h
    · obtain ⟨o1, o2, h, rfl⟩ := h
      obtain ⟨h1', t, h2', h3'⟩ := h
      rw [List.length_map, List.take_of_length_le (Nat.le_refl _)] at h3'
      refine hN _ _ ⟨_, _, GrH.pre s1 ⟨h1', t, h2', fun m hm => ?_⟩, rfl⟩
      rw [← hbit m] at hm
      rcases hxa m hm with z | z
      · exact h3' m z
      · rw [hmk.bit i as[i] (List.getElem?_eq_getElem hil)] at z
        exact hasP_more z
  obtain ⟨o1, o2, ⟨gs, t, gt, hP1⟩, rfl⟩ := h
  have hl0 : (ls ++ t)[p]? = some l := by rw [List.getElem?_append_left (List.getElem?_eq_some_iff.mp hl).1]; exact hl
  have hh0 : hasP (ls ++ t) i j = true := hasP_more hh
  simp only [tSeq, tFor_eq, tLC_eq, iRng1, iRng2, iList, iTup, iStr, tIfS, tRet, tRetN, tNext, tAsg, gName, tVar, tC, tOp, rI0, rI, tTest, tB, rEq, rNe, tCall, tCons, tNil, tCB, tLst, tTup, tAnd, tOr, tNot, tAndV, tOrV, tNotV, tIf, tDrop, tSl, tPart, tNoPart, tChain, tUn, rU, L2.start, cx_K, bk_K, cx_calm, bk_calm, lenV_str, and_assoc, Option.join, List.length_map, List.length_append, decide_eq_true_eq, Bool.false_eq_true, if_false, if_true, Bool.not_true, Bool.not_false, Bool.not_eq_true', decide_eq_false_iff_not, Bool.true_eq_false, List.length_cons, List.length_nil, List.map_cons, List.map_nil, List.replicate, List.cons_append, List.nil_append, List.append_nil, List.getElem?_cons_zero, List.getElem?_cons_succ, List.set_cons_zero, List.set_cons_succ, Nat.reduceSub, Nat.reduceAdd, Option.some.injEq, V.int.injEq, V.str.injEq, V.bl.injEq, V.ref.injEq, List.cons.injEq, and_true, true_and, exists_eq_left', exists_eq_left, exists_and_left, exists_eq_right, exists_const, tBM, tBM0, rAppend, rPop, rIxL, rIxT, rIxS, rSlL, rSlT, rSlS, rCat, rCatT, tKGet, cx_w, bk_w, tDGet, tDisp, tPairs, tDNewK, cx_P, tMeth, tFld]
  obtain ⟨dx, hins⟩ := gt.ins
  obtain ⟨as, hab, hmk⟩ := gt.blw
  have hil : i < as.length := by rw [hmk.len]; exact hi
  have hjl : j < as.length := by rw [hmk.len]; exact hj
  have hbit := hmk.bit i as[i] (List.getElem?_eq_getElem hil)
  have hbx : ∀ x, as[i].testBit x = true → x < 2 * rows.length := fun x hx => (gt.ok.rng (j := i) (by rw [← hbit x]; exact hx)).1
  obtain ⟨m, xs, em, hbm, hxs, hxa⟩ := mask_bits (b := as[j]) fun x hx => Nat.lt_of_lt_of_le (hbx x hx) (by omega)
  have hat : ∀ {k : Nat} (hk : k < as.length), atI (as.map nV) (k : Int) = some (V.int ((as[k] : Nat) : Int)) := fun {k} hk => atI_nat (by rw [List.getElem?_map, List.getElem?_eq_getElem hk]; rfl)
  refine ⟨_, _, _, hins, T.cl, T.nB, _, gr_b g, _, rfl, _, SqL.of hab, _, hat hil, _, _, _, hins, T.cl, T.nB, _, gr_b g, _, rfl, _, SqL.of hab, _, hat hjl, _, rfl, _, rfl, ?_⟩
  rw [em]
  refine ⟨m, xs, rfl, hbm, fun x hx => (hxs x hx).1, fun pb H2 s2 hpb0 hpb => ?_⟩
  have ho : OutG g pb := gt.out hpb0
  have hg2 := gt.same s2
  replace gs := gs.trans (Same.g s2)
  refine ⟨_, rfl, ⟨_, SqL.of hpb⟩, ?_⟩
  refine fw_list (xs := xs.map nV) (fun k σ H' => ∃ (o1 o2 : Option V), GrH C H2 g rows rules (ls ++ t) (fun L => ∀ x ∈ xs.take k, hasP L x j = true) H' ∧ σ = [some (V.ref g.r), some (V.int i), some (V.int j), some (V.int p), o1, o2]) ⟨_, _, GrH.refl hg2 (fun x z => by cases z), rfl⟩ (fun k σ H' _ h => ?_) (fun k x σ H' hx h => ?_) (fun σ H' h => ?_)
  · obtain ⟨_, _, h, _⟩ := h
    exact SqL.of (h.to.1.out ho hpb)
  · obtain ⟨o1, o2, ⟨gs', t', gt', hP⟩, rfl⟩ := h
    rw [List.getElem?_map] at hx
    obtain ⟨x', hx', rfl⟩ := Option.map_eq_some_iff.mp hx
    obtain ⟨_, hx2⟩ := hxs x' (List.mem_of_getElem? hx')
    have hjx : hasP (ls ++ t) x' i = true := by rw [← hbit x']; exact hx2
    have hx3 := hbx x' hx2
    obtain ⟨dx, hins⟩ := gt'.ins
    simp only [tSeq, tFor_eq, tLC_eq, iRng1, iRng2, iList, iTup, iStr, tIfS, tRet, tRetN, tNext, tAsg, gName, tVar, tC, tOp, rI0, rI, tTest, tB, rEq, rNe, tCall, tCons, tNil, tCB, tLst, tTup, tAnd, tOr, tNot, tAndV, tOrV, tNotV, tIf, tDrop, tSl, tPart, tNoPart, tChain, tUn, rU, L2.start, cx_K, bk_K, cx_calm, bk_calm, lenV_str, and_assoc, Option.join, List.length_map, List.length_append, decide_eq_true_eq, Bool.false_eq_true, if_false, if_true, Bool.not_true, Bool.not_false, Bool.not_eq_true', decide_eq_false_iff_not, Bool.true_eq_false, List.length_cons, List.length_nil, List.map_cons, List.map_nil, List.replicate, List.cons_append, List.nil_append, List.append_nil, List.getElem?_cons_zero, List.getElem?_cons_succ, List.set_cons_zero, List.set_cons_succ, Nat.reduceSub, Nat.reduceAdd, Option.some.injEq, V.int.injEq, V.str.injEq, V.bl.injEq, V.ref.injEq, List.cons.injEq, and_true, true_and, exists_eq_left', exists_eq_left, exists_and_left, exists_eq_right, exists_const, tBM, tBM0, rAppend, rPop, rIxL, rIxT, rIxS, rSlL, rSlT, rSlS, rCat, rCatT, tKGet, cx_w, bk_w, tDGet, tDisp, tPairs, tDNewK, cx_P, tMeth]
    refine ⟨_, _, hins, lk, _, _, hins, lk2, g, rows, rules, _, x', i, rfl, gt', hasP_more hjx, fun p' l' H4 s4 hl' h1' h2' => ⟨small (by decide), fun p1 hp1 => ?_⟩⟩
    refine gw_any (gs'.trans (Same.g s4)) (gt'.same s4) h100 (same_new hp1 _) why_two (st_chain hx3 hj hl' h1' h2' (by rw [List.getElem?_append_left (List.getElem?_eq_some_iff.mp hl0).1]; exact hl0) h1 h2) ow_two (fun L e h x hx9 => ?_) fun _ H3 g3 => ⟨g3, _, rfl⟩
    obtain ⟨hkl, hke⟩ := List.getElem?_eq_some_iff.mp hx'
    rw [List.take_succ_eq_append_getElem hkl, hke] at hx9
    rcases List.mem_append.mp hx9 with hx9 | hx9
    · exact e.has (hP x hx9)
    · rw [List.mem_singleton.mp hx9]; exact h
  · obtain ⟨o1, o2, h, rfl⟩ := h
    refine q _ (GrH.then gs h fun L e hL => ⟨fun m hm => e.has (hP1 m hm), fun h0 hh0 => ?_⟩)
    rw [List.length_map, List.take_of_length_le (Nat.le_refl _)] at hL
    have hm : as[i].testBit h0 = true := by rw [hbit h0]; exact hasP_more hh0
    rcases hxa h0 hm with z | z
    · exact hL h0 z
    · rw [hmk.bit j as[j] (List.getElem?_eq_getElem hjl)] at z
      exact e.has z
theorem ok_both {C : Addr} (T : GrC K C) (h_Growth_line_of : HasM P w K mg base 1 C "line_of" ["self", "i", "j"] (spLo C)) (h_Growth_has : HasM P w K mg base 1 C "has" ["self", "i", "j"] (spHs C)) (h_Growth_grow : HasM P w K mg base 2 C "grow" ["self", "i", "j", "why"] (spGw C)) (F : Fun K "grow_by_both" "grow_by_both" s_grow_by_both f fd) : FnOk P w K mg base CX0 3 f fd ["growth", "i", "boths"] (spGB C) := by
  refine F.ok sc_grow_by_both (fun vs H Q E h => ?_) (fun cdv A outer s H vs Q E hr h => ?_)
  · obtain ⟨g, rows, rules, ls, i, qa, us, rfl, _⟩ := h
    rfl
  obtain ⟨g, rows, rules, ls, i, qa, us, rfl, hg, h100, hi, hqa, hout, htr, hin, q⟩ := h
  have cl_Growth := T.cl
  have lk : (grF g).lookup ("grow" : Str) = none := gr_no g (by decide +kernel) (by decide +kernel) (by decide +kernel) (by decide +kernel)
  have lk2 : (grF g).lookup ("line_of" : Str) = none := gr_no g (by decide +kernel) (by decide +kernel) (by decide +kernel) (by decide +kernel)
  have lk3 : (grF g).lookup ("has" : Str) = none := gr_no g (by decide +kernel) (by decide +kernel) (by decide +kernel) (by decide +kernel)
  refine ⟨_, (pss_one (ps_for PassesOwn.never rfl (pi_list (pv 2)) (pg_tup rfl (pgs_cons (pg_name (i := 3) sc_grow_by_both.nd rfl (Or.inl rfl)) (pgs_cons (pg_name (i := 4) sc_grow_by_both.nd rfl (Or.inl rfl)) (pgs_cons (pg_name (i := 5) sc_grow_by_both.nd rfl (Or.inl rfl)) pgs_nil)))) (pss_one (ps_if (PW.pt (pw_and (pt_val (pe_methH h_Growth_has cl_Growth (hr.mono (by omega)) (pv 0) (pa_cons (pv 1) (pa_cons (pv 4) pa_nil)))) (pw_and1 (pt_val (pe_methH h_Growth_has cl_Growth (hr.mono (by omega)) (pv 0) (pa_cons (pv 1) (pa_cons (pv 5) pa_nil))))))) (pss_one (ps_expr (pe_methH h_Growth_grow cl_Growth (hr.mono (by omega)) (pv 0) (pa_cons (pv 1) (pa_cons (pv 3) (pa_cons (pe_tup (pa_cons pe_str (pa_cons (pe_methH h_Growth_line_of cl_Growth (hr.mono (by omega)) (pv 0) (pa_cons (pv 1) (pa_cons (pv 4) pa_nil))) (pa_cons (pe_methH h_Growth_line_of cl_Growth (hr.mono (by omega)) (pv 0) (pa_cons (pv 1) (pa_cons (pv 5) pa_nil))) pa_nil)))) pa_nil)))))) pss_nil)))), ?_⟩
  simp only [tSeq, tFor_eq, tLC_eq, iRng1, iRng2, iList, iTup, iStr, tIfS, tRet, tRetN, tNext, tAsg, gName, tVar, tC, tOp, rI0, rI, tTest, tB, rEq, rNe, tCall, tCons, tNil, tCB, tLst, tTup, tAnd, tOr, tNot, tAndV, tOrV, tNotV, tIf, tDrop, tSl, tPart, tNoPart, tChain, tUn, rU, L2.start, cx_K, bk_K, cx_calm, bk_calm, lenV_str, and_assoc, Option.join, List.length_map, List.length_append, decide_eq_true_eq, Bool.false_eq_true, if_false, if_true, Bool.not_true, Bool.not_false, Bool.not_eq_true', decide_eq_false_iff_not, Bool.true_eq_false, List.length_cons, List.length_nil, List.map_cons, List.map_nil, List.replicate, List.cons_append, List.nil_append, List.append_nil, List.getElem?_cons_zero, List.getElem?_cons_succ, List.set_cons_zero, List.set_cons_succ, Nat.reduceSub, Nat.reduceAdd, Option.some.injEq, V.int.injEq, V.str.injEq, V.bl.injEq, V.ref.injEq, List.cons.injEq, and_true, true_and, exists_eq_left', exists_eq_left, exists_and_left, exists_eq_right, exists_const, tBM, tBM0, rAppend, rPop, rIxL, rIxT, rIxS, rSlL, rSlT, rSlS, rCat, rCatT, tKGet, cx_w, bk_w, tDGet, tDisp, tPairs, tDNewK, cx_P, tMeth]
  refine ⟨⟨_, SqL.of hqa⟩, ?_⟩
  refine fw_list (xs := us) (fun k σ H' => ∃ (o1 o2 o3 : Option V), GrH C H g rows rules ls (fun L => RBoth H (us.take k) ls L i) H' ∧ σ = [some (V.ref g.r), some (V.int i), some (V.ref qa), o1, o2, o3]) ⟨_, _, _, GrH.refl hg (fun t m a b z => by cases z), rfl⟩ (fun k σ H' _ h => ?_) (fun k x σ H' hx h => ?_) (fun σ H' h => ?_)
  · obtain ⟨_, _, _, h, _⟩ := h
    exact SqL.of (h.to.1.out hout hqa)
  · obtain ⟨o1, o2, o3, hgt, rfl⟩ := h
    obtain ⟨xa, k', a, b, rfl, hxa, hrk⟩ := htr x (List.mem_of_getElem? hx)
    obtain ⟨⟨b1, b2⟩, b3, b4⟩ := hin k' a b hrk
    have hxa' := hg.tups hgt.to.1 _ _ hxa
    simp only [tSeq, tFor_eq, tLC_eq, iRng1, iRng2, iList, iTup, iStr, tIfS, tRet, tRetN, tNext, tAsg, gName, tVar, tC, tOp, rI0, rI, tTest, tB, rEq, rNe, tCall, tCons, tNil, tCB, tLst, tTup, tAnd, tOr, tNot, tAndV, tOrV, tNotV, tIf, tDrop, tSl, tPart, tNoPart, tChain, tUn, rU, L2.start, cx_K, bk_K, cx_calm, bk_calm, lenV_str, and_assoc, Option.join, List.length_map, List.length_append, decide_eq_true_eq, Bool.false_eq_true, if_false, if_true, Bool.not_true, Bool.not_false, Bool.not_eq_true', decide_eq_false_iff_not, Bool.true_eq_false, List.length_cons, List.length_nil, List.map_cons, List.map_nil, List.replicate, List.cons_append, List.nil_append, List.append_nil, List.getElem?_cons_zero, List.getElem?_cons_succ, List.set_cons_zero, List.set_cons_succ, Nat.reduceSub, Nat.reduceAdd, Option.some.injEq, V.int.injEq, V.str.injEq, V.bl.injEq, V.ref.injEq, List.cons.injEq, and_true, true_and, exists_eq_left', exists_eq_left, exists_and_left, exists_eq_right, exists_const, tBM, tBM0, rAppend, rPop, rIxL, rIxT, rIxS, rSlL, rSlT, rSlS, rCat, rCatT, tKGet, cx_w, bk_w, tDGet, tDisp, tPairs, tDNewK, cx_P, gTup, gCons, gNil, tMeth]
    obtain ⟨gs, t, gt, hP⟩ := hgt
    have nxt : ∀ {L : List Ln}, Le (ls ++ t) L → (hasP ls i a = true → hasP ls i b = true → hasP L i ((2 * k' : Nat) : Int) = true) → RBoth H (us.take (k + 1)) ls L i := fun {L} e hL t0 m a0 b0 hm ht0 ha0 hb0 => by
      obtain ⟨hkl, hke⟩ := List.getElem?_eq_some_iff.mp hx
      rw [List.take_succ_eq_append_getElem hkl, hke] at hm
      rcases List.mem_append.mp hm with hm | hm
      · exact e.has (hP t0 m a0 b0 hm ht0 ha0 hb0)
      · have e1 := V.ref.inj (List.mem_singleton.mp hm)
        subst e1
        rw [hxa] at ht0
        have e2 := HO.tup.inj (Option.some.inj ht0)
        injection e2 with e3 e4
        injection e4 with e5 e6
        injection e6 with e7 _
        have e3 := V.int.inj e3
        have e5 := V.int.inj e5
        have e7 := V.int.inj e7
        subst e5 e7
        rw [show m = k' by omega]
        exact hL ha0 hb0
    obtain ⟨dx, hins⟩ := gt.ins
    refine ⟨_, SqT.of hxa', rfl, _, _, rfl, _, _, rfl, _, _, rfl, rfl, _, _, hins, lk3, g, rows, rules, _, i, a, rfl, gt, fun H1 s1 => ⟨_, rfl, ?_⟩⟩
    have ge1 : hasP (ls ++ t) i a = false → GrH C H g rows rules ls (fun L => RBoth H (us.take (k + 1)) ls L i) H1 := fun z => ⟨gs.trans (Same.g s1), t, gt.same s1, nxt (Le.refl _) (fun ha _ => by rw [hasP_more ha] at z; cases z)⟩
    by_cases c1 : hasP (ls ++ t) i a = true
    · rw [if_pos c1]
      replace gs := gs.trans (Same.g s1)
      replace gt := gt.same s1
      obtain ⟨dx, hins⟩ := gt.ins
      refine ⟨_, _, hins, lk3, g, rows, rules, _, i, b, rfl, gt, fun H2 s2 => ⟨_, rfl, ?_⟩⟩
      replace gs := gs.trans (Same.g s2)
      replace gt := gt.same s2
      by_cases c2 : hasP (ls ++ t) i b = true
      · rw [if_pos c2]
        obtain ⟨dx, hins⟩ := gt.ins
        have hk1 : k' < rows.length := (List.getElem?_eq_some_iff.mp hrk).1
        have e2 : (2 : Int) * (k' : Int) = ((2 * k' : Nat) : Int) := by omega
        have hpt : parts rows ((2 * k' : Nat) : Int) = [a, b] := parts_of_row (r := .bo a b) (by omega) (by rw [show (((2 * k' : Nat) : Int) / 2).toNat = k' by omega]; exact hrk)
        refine ⟨_, _, hins, lk, _, _, hins, lk2, g, rows, rules, _, i, a, rfl, gt, c1, fun p l H3 s3 hl h1 h2 => ?_⟩
        replace gs := gs.trans (Same.g s3)
        replace gt := gt.same s3
        obtain ⟨dx, hins⟩ := gt.ins
        refine ⟨_, _, hins, lk2, g, rows, rules, _, i, b, rfl, gt, c2, fun p' l' H4 s4 hl' h1' h2' => ⟨small (by decide), fun p1 hp1 => ?_⟩⟩
        rw [e2]
        exact gw_any (gs.trans (Same.g s4)) (gt.same s4) h100 (same_new hp1 _) why_two (st_both hi (by omega) hpt hl h1 h2 hl' h1' h2') ow_two (fun L e h => nxt e fun _ _ => h) fun _ H3 g3 => ⟨g3, _, rfl⟩
      · rw [if_neg c2]
        exact ⟨⟨gs, t, gt, nxt (Le.refl _) (fun _ hb => absurd (hasP_more hb) c2)⟩, _, rfl⟩
    · rw [if_neg c1]
      exact ⟨ge1 (Bool.eq_false_iff.mpr c1), _, rfl⟩
  · obtain ⟨_, _, _, h, rfl⟩ := h
    rw [List.take_of_length_le (Nat.le_refl _)] at h
    exact q _ h
theorem ok_clash {C : Addr} (T : GrC K C) (bi : Bi mg) (h_Growth_line_of : HasM P w K mg base 1 C "line_of" ["self", "i", "j"] (spLo C)) (h_Growth_grow : HasM P w K mg base 2 C "grow" ["self", "i", "j", "why"] (spGw C)) (F : Fun K "grow_by_clash" "grow_by_clash" s_grow_by_clash f fd) : FnOk P w K mg base CX0 3 f fd ["growth", "i", "j"] (spGIJ RClash C) := by
  refine F.ok sc_grow_by_clash (fun vs H Q E h => ?_) (fun cdv A outer s H vs Q E hr h => ?_)
  · obtain ⟨g, rows, rules, ls, i, j, rfl, _⟩ := h
    rfl
  obtain ⟨g, rows, rules, ls, i, j, rfl, hg, h100, hh, q⟩ := h
  have cl_Growth := T.cl
  have lk : (grF g).lookup ("grow" : Str) = none := gr_no g (by decide +kernel) (by decide +kernel) (by decide +kernel) (by decide +kernel)
  have lk2 : (grF g).lookup ("line_of" : Str) = none := gr_no g (by decide +kernel) (by decide +kernel) (by decide +kernel) (by decide +kernel)
  obtain ⟨dx, hins⟩ := hg.ins
  refine ⟨_, (pss_one (ps_if (pt_cmpR op_eq (pv 2) (pe_op op_xor (pv 1) pe_int) (nomark _)) (pss_one (ps_for PassesOwn.never rfl (pi_range1 rfl bi.range (pa_cons (pe_callB call_len rfl bi.len bt_len (pa_cons (pe_fld (pv 0) rfl) pa_nil)) pa_nil)) (pg_name (i := 3) sc_grow_by_clash.nd rfl (Or.inl rfl)) (pss_one (ps_expr (pe_methH h_Growth_grow cl_Growth (hr.mono (by omega)) (pv 0) (pa_cons (pv 1) (pa_cons (pv 3) (pa_cons (pe_tup (pa_cons pe_str (pa_cons (pe_methH h_Growth_line_of cl_Growth (hr.mono (by omega)) (pv 0) (pa_cons (pv 1) (pa_cons (pv 2) pa_nil))) pa_nil))) pa_nil)))))))) pss_nil)), ?_⟩
  simp only [tSeq, tFor_eq, tLC_eq, iRng1, iRng2, iList, iTup, iStr, tIfS, tRet, tRetN, tNext, tAsg, gName, tVar, tC, tOp, rI0, rI, tTest, tB, rEq, rNe, tCall, tCons, tNil, tCB, tLst, tTup, tAnd, tOr, tNot, tAndV, tOrV, tNotV, tIf, tDrop, tSl, tPart, tNoPart, tChain, tUn, rU, L2.start, cx_K, bk_K, cx_calm, bk_calm, lenV_str, and_assoc, Option.join, List.length_map, List.length_append, decide_eq_true_eq, Bool.false_eq_true, if_false, if_true, Bool.not_true, Bool.not_false, Bool.not_eq_true', decide_eq_false_iff_not, Bool.true_eq_false, List.length_cons, List.length_nil, List.map_cons, List.map_nil, List.replicate, List.cons_append, List.nil_append, List.append_nil, List.getElem?_cons_zero, List.getElem?_cons_succ, List.set_cons_zero, List.set_cons_succ, Nat.reduceSub, Nat.reduceAdd, Option.some.injEq, V.int.injEq, V.str.injEq, V.bl.injEq, V.ref.injEq, List.cons.injEq, and_true, true_and, exists_eq_left', exists_eq_left, exists_and_left, exists_eq_right, exists_const, tBM, tBM0, rAppend, rPop, rIxL, rIxT, rIxS, rSlL, rSlT, rSlS, rCat, rCatT, tKGet, cx_w, bk_w, tDGet, tDisp, tPairs, tDNewK, cx_P, tMeth, tFld]
  refine ⟨rfl, ?_⟩
  obtain ⟨hi, hj⟩ := hg.ok.rng hh
  by_cases e : (j : Int) = Builtin.bitXor (i : Int) 1
  · rw [if_pos e]
    rw [xor1] at e
    obtain ⟨as, hab, hmk⟩ := hg.abv
    refine ⟨_, _, _, hins, T.cl, T.nA, _, gr_a g, as.length, .inl ⟨_, SqL.of hab, by simp⟩, by omega, by have := hmk.len; omega, ?_⟩
    refine fw_range (n := (as.length : Int).toNat) (fun k σ H' => ∃ (o1 : Option V), GrH C H g rows rules ls (fun L => ∀ n : Nat, n < k → hasP L i n = true) H' ∧ σ = [some (V.ref g.r), some (V.int i), some (V.int j), o1]) ⟨_, GrH.refl hg (fun n z => by omega), rfl⟩ (fun k σ H' hk h => ?_) (fun σ H' h => ?_)
    · obtain ⟨o1, ⟨gs, t, gt, hP⟩, rfl⟩ := h
      have hk' : k < 2 * rows.length := by have := hmk.len; omega
      have e0 : (0 : Int) + (k : Int) = ((k : Nat) : Int) := by omega
      obtain ⟨dx, hins⟩ := gt.ins
      simp only [tSeq, tFor_eq, tLC_eq, iRng1, iRng2, iList, iTup, iStr, tIfS, tRet, tRetN, tNext, tAsg, gName, tVar, tC, tOp, rI0, rI, tTest, tB, rEq, rNe, tCall, tCons, tNil, tCB, tLst, tTup, tAnd, tOr, tNot, tAndV, tOrV, tNotV, tIf, tDrop, tSl, tPart, tNoPart, tChain, tUn, rU, L2.start, cx_K, bk_K, cx_calm, bk_calm, lenV_str, and_assoc, Option.join, List.length_map, List.length_append, decide_eq_true_eq, Bool.false_eq_true, if_false, if_true, Bool.not_true, Bool.not_false, Bool.not_eq_true', decide_eq_false_iff_not, Bool.true_eq_false, List.length_cons, List.length_nil, List.map_cons, List.map_nil, List.replicate, List.cons_append, List.nil_append, List.append_nil, List.getElem?_cons_zero, List.getElem?_cons_succ, List.set_cons_zero, List.set_cons_succ, Nat.reduceSub, Nat.reduceAdd, Option.some.injEq, V.int.injEq, V.str.injEq, V.bl.injEq, V.ref.injEq, List.cons.injEq, and_true, true_and, exists_eq_left', exists_eq_left, exists_and_left, exists_eq_right, exists_const, tBM, tBM0, rAppend, rPop, rIxL, rIxT, rIxS, rSlL, rSlT, rSlS, rCat, rCatT, tKGet, cx_w, bk_w, tDGet, tDisp, tPairs, tDNewK, cx_P, tMeth]
      rw [e0]
      refine ⟨_, _, hins, lk, _, _, hins, lk2, g, rows, rules, _, i, j, rfl, gt, hasP_more hh, fun p l H1 s1 hl h1 h2 => ⟨small (by decide), fun p1 hp1 => ?_⟩⟩
      refine gw_any (gs.trans (Same.g s1)) (gt.same s1) h100 (same_new hp1 _) why_one (st_clash hi hk' e hl h1 h2) ow_one (fun L e h n hn => ?_) fun _ H3 g3 => ⟨g3, _, rfl⟩
      rcases Nat.lt_or_eq_of_le (Nat.le_of_lt_succ hn) with z | z
      · exact e.has (hP n z)
      · rw [z]; exact h
    · obtain ⟨_, ⟨h1, t, h2, h3⟩, rfl⟩ := h
      exact q _ ⟨h1, t, h2, fun _ n hn => h3 n (by have := hmk.len; omega)⟩
  · rw [if_neg e]
    exact q _ (GrH.refl hg fun z => absurd (by rw [xor1]; exact z) e)
end
end C
set_option Elab.async false
set_option linter.all false
set_option maxRecDepth 100000
set_option maxHeartbeats 8000000
namespace C
open PySem L2
seal PE PT PW PA PS PSs PG PGs PI PPs PO PSet PIf
abbrev s_grow_by_rule : Stmt := top 14
theorem sc_grow_by_rule : FnScope ["growth", "rules", "r", "premises", "pair", "lines"] ["growth", "rules", "r"] (defScope s_grow_by_rule) := ⟨rfl, rfl, rfl, by decide +kernel, rfl, by decide +kernel, by decide +kernel⟩
theorem st_rule {rows : List Rw} {rules : List NRul} {ls : List Ln} {i j r : Nat} {q : NRul} {ps : List Int} (hi : i < 2 * rows.length) (hj : j < 2 * rows.length) (hr : rules[r]? = some q) (hq : q.2 = ((i : Int), (j : Int))) (hp : (ps.map fun p => said ls ls.length (.n p)) = q.1.map some) : stepB rows rules ls ls.length ⟨i, j, "rule", [.n r, .ps ps]⟩ = true := by
  have hrl := (List.getElem?_eq_some_iff.mp hr).1
  unfold stepB
  rw [if_neg (by
    intro z
    rcases z with z | z
    · exact z ⟨by show (0 : Int) ≤ (i : Int); omega, by show (i : Int) < _; omega⟩
    · exact z ⟨by show (0 : Int) ≤ (j : Int); omega, by show (j : Int) < _; omega⟩), if_pos rfl, rul_eq rfl, if_pos ⟨by omega, by omega⟩, Int.toNat_natCast, hr]
  show (((i : Int), (j : Int)) == q.2 && _ == _) = true
  rw [hq, hp, Bool.and_eq_true]
  exact ⟨beq_self_eq_true _, beq_self_eq_true _⟩
def InR (rows : List Rw) (q : NRul) : Prop := (0 ≤ q.2.1 ∧ q.2.1 < 2 * (rows.length : Int)) ∧ (0 ≤ q.2.2 ∧ q.2.2 < 2 * (rows.length : Int))
def RRule (rows : List Rw) (rules : List NRul) (ls L : List Ln) (r : Nat) : Prop := ∀ q : NRul, rules[r]? = some q → InR rows q → (∀ p ∈ q.1, hasP ls p.1 p.2 = true) → hasP L q.2.1 q.2.2 = true
def spGR (C : Addr) : Sp := fun vs H Q _ => ∃ (g : GAd) (rows : List Rw) (rules : List NRul) (ls : List Ln) (ra : Addr) (us : List V) (r : Nat), vs = [.ref g.r, .ref ra, .int r] ∧ GrAt C H g rows rules ls ∧ rows.length ≤ 100 ∧ H ra = some (.lst us) ∧ DAts H (rules.map dNR) us ∧ r < rules.length ∧ (∀ r ∈ rules, r.1.length ≤ 100) ∧ ∀ H', GrH C H g rows rules ls (fun L => RRule rows rules ls L r) H' → Q .non H'
section
variable {P : Program} {w : World} {K : PySem.W.Frag} {mg : Str → Option Value} {base : Heap} {f : Addr} {fd : FuncData}
theorem ok_rule {C : Addr} (T : GrC K C) (bi : Bi mg) (h_is_below : Has P w K mg base 2 "is_below" ["n", "bound"] spBel) (h_Growth_line_of : HasM P w K mg base 1 C "line_of" ["self", "i", "j"] (spLo C)) (h_Growth_has : HasM P w K mg base 1 C "has" ["self", "i", "j"] (spHs C)) (h_Growth_grow : HasM P w K mg base 2 C "grow" ["self", "i", "j", "why"] (spGw C)) (F : Fun K "grow_by_rule" "grow_by_rule" s_grow_by_rule f fd) : FnOk P w K mg base CX0 3 f fd ["growth", "rules", "r"] (spGR C) := by
  refine F.ok sc_grow_by_rule (fun vs H Q E h => ?_) (fun cdv A outer s H vs Q E hr h => ?_)
  · obtain ⟨g, rows, rules, ls, ra, us, r, rfl, _⟩ := h
    rfl
  obtain ⟨g, rows, rules, ls, ra, us, r, rfl, hg, h100, hra, hru, hrl, hpr, q⟩ := h
  have hul := mapLen hru
  have cl_Growth := T.cl
  have lk : (grF g).lookup ("grow" : Str) = none := gr_no g (by decide +kernel) (by decide +kernel) (by decide +kernel) (by decide +kernel)
  have lk2 : (grF g).lookup ("line_of" : Str) = none := gr_no g (by decide +kernel) (by decide +kernel) (by decide +kernel) (by decide +kernel)
  have lk3 : (grF g).lookup ("has" : Str) = none := gr_no g (by decide +kernel) (by decide +kernel) (by decide +kernel) (by decide +kernel)
  obtain ⟨dx, hins⟩ := hg.ins
  have hr1 : rules[r]? = some rules[r] := List.getElem?_eq_getElem hrl
  have hq1 := hpr _ (List.getElem_mem hrl)
  generalize rules[r] = nr at hr1 hq1
  obtain ⟨rv, hrv, hrd⟩ := DAts.get (d := dNR nr) hru (by rw [List.getElem?_map, hr1]; rfl)
  obtain ⟨xa, xl, xb, ps, rfl, hxa, hxl, hps, hxb⟩ := nrAt hrd
  have hpl := mapLen hps
  refine ⟨_, (pss_cons (ps_set (i := 3) sc_grow_by_rule.nd rfl (Or.inl rfl) (pe_ix ix_tup (pe_ix ix_list (pv 1) (pv 2) (fun _ _ => rfl)) pe_int (fun _ _ => rfl))) (pss_cons (ps_set (i := 4) sc_grow_by_rule.nd rfl (Or.inl rfl) (pe_ix ix_tup (pe_ix ix_list (pv 1) (pv 2) (fun _ _ => rfl)) pe_int (fun _ _ => rfl))) (pss_cons (ps_if (pt_not (pt_val (pe_callB call_all rfl bi.all bt_all (pa_cons (pe_comp ["n"] ["growth"] [0] (pi_tup (pv 4)) (fun _ _ _ _ nd => pg_name (i := 0) nd rfl (Or.inl rfl)) (fun _ _ _ _ => pif_nil) (fun _ _ _ _ => (pe_callH h_is_below (hr.mono (by omega)) rfl (pa_cons (pv 0) (pa_cons (pe_callB (call_lenK K) rfl bi.len bt_len (pa_cons (pe_fldK K (pv 1) rfl) pa_nil)) pa_nil))))) pa_nil)))) (pss_one ps_retN) pss_nil) (pss_one (ps_if (pt_val (pe_callB call_all rfl bi.all bt_all (pa_cons (pe_comp ["i", "j"] ["growth"] [0] (pi_list (pv 3)) (fun _ _ _ _ nd => pg_tupK (K := K) (n := 2) rfl (pgs_cons (pg_name (i := 0) nd rfl (Or.inl rfl)) (pgs_cons (pg_name (i := 1) nd rfl (Or.inl rfl)) pgs_nil))) (fun _ _ _ _ => pif_nil) (fun _ _ _ _ => (pe_methH h_Growth_has cl_Growth (hr.mono (by omega)) (pv 2) (pa_cons (pv 0) (pa_cons (pv 1) pa_nil))))) pa_nil))) (pss_cons (ps_set (i := 5) sc_grow_by_rule.nd rfl (Or.inl rfl) (pe_callTy call_tuple_of rfl bi.tuple bt_tuple (pa_cons (pe_comp ["i", "j"] ["growth"] [0] (pi_list (pv 3)) (fun _ _ _ _ nd => pg_tupK (K := K) (n := 2) rfl (pgs_cons (pg_name (i := 0) nd rfl (Or.inl rfl)) (pgs_cons (pg_name (i := 1) nd rfl (Or.inl rfl)) pgs_nil))) (fun _ _ _ _ => pif_nil) (fun _ _ _ _ => (pe_methH h_Growth_line_of cl_Growth (hr.mono (by omega)) (pv 2) (pa_cons (pv 0) (pa_cons (pv 1) pa_nil))))) pa_nil))) (pss_one (ps_expr (pe_methH h_Growth_grow cl_Growth (hr.mono (by omega)) (pv 0) (pa_cons (pe_ix ix_tup (pv 4) pe_int (fun _ _ => rfl)) (pa_cons (pe_ix ix_tup (pv 4) pe_int (fun _ _ => rfl)) (pa_cons (pe_tup (pa_cons pe_str (pa_cons (pv 2) (pa_cons (pv 5) pa_nil)))) pa_nil))))))) pss_nil))))), ?_⟩
  refine seq_abs fun N hN => ?_
  simp only [tSeq, tFor_eq, tLC_eq, iRng1, iRng2, iList, iTup, iStr, tIfS, tRet, tRetN, tNext, tAsg, gName, tVar, tC, tOp, rI0, rI, tTest, tB, rEq, rNe, tCall, tCons, tNil, tCB, tLst, tTup, tAnd, tOr, tNot, tAndV, tOrV, tNotV, tIf, tDrop, tSl, tPart, tNoPart, tChain, tUn, rU, L2.start, cx_K, bk_K, cx_calm, bk_calm, lenV_str, and_assoc, Option.join, List.length_map, List.length_append, decide_eq_true_eq, Bool.false_eq_true, if_false, if_true, Bool.not_true, Bool.not_false, Bool.not_eq_true', decide_eq_false_iff_not, Bool.true_eq_false, List.length_cons, List.length_nil, List.map_cons, List.map_nil, List.replicate, List.cons_append, List.nil_append, List.append_nil, List.getElem?_cons_zero, List.getElem?_cons_succ, List.set_cons_zero, List.set_cons_succ, Nat.reduceSub, Nat.reduceAdd, Option.some.injEq, V.int.injEq, V.str.injEq, V.bl.injEq, V.ref.injEq, List.cons.injEq, and_true, true_and, exists_eq_left', exists_eq_left, exists_and_left, exists_eq_right, exists_const, tBM, tBM0, rAppend, rPop, rIxL, rIxT, rIxS, rSlL, rSlT, rSlS, rCat, rCatT, tKGet, cx_w, bk_w, tDGet, tDisp, tPairs, tDNewK, cx_P]
  refine ⟨_, SqL.of hra, _, atI_nat hrv, xa, rfl, _, SqT.of hxa, _, at0, hN _ _ ?_⟩
  clear hN
  refine seq_abs fun N hN => ?_
  simp only [tSeq, tFor_eq, tLC_eq, iRng1, iRng2, iList, iTup, iStr, tIfS, tRet, tRetN, tNext, tAsg, gName, tVar, tC, tOp, rI0, rI, tTest, tB, rEq, rNe, tCall, tCons, tNil, tCB, tLst, tTup, tAnd, tOr, tNot, tAndV, tOrV, tNotV, tIf, tDrop, tSl, tPart, tNoPart, tChain, tUn, rU, L2.start, cx_K, bk_K, cx_calm, bk_calm, lenV_str, and_assoc, Option.join, List.length_map, List.length_append, decide_eq_true_eq, Bool.false_eq_true, if_false, if_true, Bool.not_true, Bool.not_false, Bool.not_eq_true', decide_eq_false_iff_not, Bool.true_eq_false, List.length_cons, List.length_nil, List.map_cons, List.map_nil, List.replicate, List.cons_append, List.nil_append, List.append_nil, List.getElem?_cons_zero, List.getElem?_cons_succ, List.set_cons_zero, List.set_cons_succ, Nat.reduceSub, Nat.reduceAdd, Option.some.injEq, V.int.injEq, V.str.injEq, V.bl.injEq, V.ref.injEq, List.cons.injEq, and_true, true_and, exists_eq_left', exists_eq_left, exists_and_left, exists_eq_right, exists_const, tBM, tBM0, rAppend, rPop, rIxL, rIxT, rIxS, rSlL, rSlT, rSlS, rCat, rCatT, tKGet, cx_w, bk_w, tDGet, tDisp, tPairs, tDNewK, cx_P]
  refine ⟨_, SqL.of hra, _, atI_nat hrv, xa, rfl, _, SqT.of hxa, _, at1, hN _ _ ?_⟩
  clear hN
  obtain ⟨as, hab, hmk⟩ := hg.abv
  have hlen := hmk.len
  refine seq_abs fun N hN => ?_
  simp only [tSeq, tFor_eq, tLC_eq, iRng1, iRng2, iList, iTup, iStr, tIfS, tRet, tRetN, tNext, tAsg, gName, tVar, tC, tOp, rI0, rI, tTest, tB, rEq, rNe, tCall, tCons, tNil, tCB, tLst, tTup, tAnd, tOr, tNot, tAndV, tOrV, tNotV, tIf, tDrop, tSl, tPart, tNoPart, tChain, tUn, rU, L2.start, cx_K, bk_K, cx_calm, bk_calm, lenV_str, and_assoc, Option.join, List.length_map, List.length_append, decide_eq_true_eq, Bool.false_eq_true, if_false, if_true, Bool.not_true, Bool.not_false, Bool.not_eq_true', decide_eq_false_iff_not, Bool.true_eq_false, List.length_cons, List.length_nil, List.map_cons, List.map_nil, List.replicate, List.cons_append, List.nil_append, List.append_nil, List.getElem?_cons_zero, List.getElem?_cons_succ, List.set_cons_zero, List.set_cons_succ, Nat.reduceSub, Nat.reduceAdd, Option.some.injEq, V.int.injEq, V.str.injEq, V.bl.injEq, V.ref.injEq, List.cons.injEq, and_true, true_and, exists_eq_left', exists_eq_left, exists_and_left, exists_eq_right, exists_const, tBM, tBM0, rAppend, rPop, rIxL, rIxT, rIxS, rSlL, rSlT, rSlS, rCat, rCatT, tKGet, cx_w, bk_w, tDGet, tDisp, tPairs, tDNewK, cx_P]
  refine ⟨⟨_, SqT.of hxb⟩, ?_⟩
  refine lc_tup (xs := [.int nr.2.1, .int nr.2.2]) (fun i ys σ H' => Same H H' ∧ ys = (([nr.2.1, nr.2.2].take i).map fun x => belW as.length (.n x)).map V.bl ∧ ∃ o, σ = [o, some (V.ref g.r)]) ⟨Same.refl _, rfl, _, rfl⟩ (small (by simp)) (fun i ys σ H' e => ?_) (fun i ys σ H' e => SqT.of (e.1 _ _ hxb)) (fun i x ys σ H' D hx e hD => ?_) (fun ys σ H' e p hp => ?_)
  · obtain ⟨_, rfl, _⟩ := e
    rw [List.length_map, List.length_map, List.length_take]
    omega
  · obtain ⟨es, rfl, o, rfl⟩ := e
    have hg' := hg.same es
    obtain ⟨dx, hins⟩ := hg'.ins
    have hx' : ∃ n, x = V.int n ∧ [nr.2.1, nr.2.2][i]? = some n := by
      match i, hx with
      | 0, hx => cases hx; exact ⟨_, rfl, rfl⟩
      | 1, hx => cases hx; exact ⟨_, rfl, rfl⟩
    obtain ⟨n, rfl, hn⟩ := hx'
    obtain ⟨hil, hn2⟩ := List.getElem?_eq_some_iff.mp hn
    simp only [tSeq, tFor_eq, tLC_eq, iRng1, iRng2, iList, iTup, iStr, tIfS, tRet, tRetN, tNext, tAsg, gName, tVar, tC, tOp, rI0, rI, tTest, tB, rEq, rNe, tCall, tCons, tNil, tCB, tLst, tTup, tAnd, tOr, tNot, tAndV, tOrV, tNotV, tIf, tDrop, tSl, tPart, tNoPart, tChain, tUn, rU, L2.start, cx_K, bk_K, cx_calm, bk_calm, lenV_str, and_assoc, Option.join, List.length_map, List.length_append, decide_eq_true_eq, Bool.false_eq_true, if_false, if_true, Bool.not_true, Bool.not_false, Bool.not_eq_true', decide_eq_false_iff_not, Bool.true_eq_false, List.length_cons, List.length_nil, List.map_cons, List.map_nil, List.replicate, List.cons_append, List.nil_append, List.append_nil, List.getElem?_cons_zero, List.getElem?_cons_succ, List.set_cons_zero, List.set_cons_succ, Nat.reduceSub, Nat.reduceAdd, Option.some.injEq, V.int.injEq, V.str.injEq, V.bl.injEq, V.ref.injEq, List.cons.injEq, and_true, true_and, exists_eq_left', exists_eq_left, exists_and_left, exists_eq_right, exists_const, tBM, tBM0, rAppend, rPop, rIxL, rIxT, rIxS, rSlL, rSlT, rSlS, rCat, rCatT, tKGet, cx_w, bk_w, tDGet, tDisp, tPairs, tDNewK, cx_P, tFld, spBel]
    refine ⟨C, dx, _, hins, T.cl, T.nA, _, gr_a g, as.length, .inl ⟨_, SqL.of (es _ _ hab), by simp⟩, .n n, rfl, hD _ _ _ ⟨es, ?_, _, rfl⟩⟩
    rw [List.take_succ_eq_append_getElem hil, hn2, List.map_append, List.map_append]
    rfl
  obtain ⟨es, rfl, o, rfl⟩ := e
  refine ⟨p, rfl, _, SqL.of upd_same, ?_⟩
  have s1 := es.trans (same_new hp (.lst ((([nr.2.1, nr.2.2].take 2).map fun x => belW as.length (.n x)).map V.bl)))
  change (if ([belW as.length (.n nr.2.1), belW as.length (.n nr.2.2)].all id) = false then Q V.non (upd H' p (.lst ((([nr.2.1, nr.2.2].take 2).map fun x => belW as.length (.n x)).map V.bl))) else N _ (upd H' p (.lst ((([nr.2.1, nr.2.2].take 2).map fun x => belW as.length (.n x)).map V.bl))))
  generalize upd H' p (.lst ((([nr.2.1, nr.2.2].take 2).map fun x => belW as.length (.n x)).map V.bl)) = H1 at s1 ⊢
  clear hp es hins
  have hg1 := hg.same s1
  by_cases hB : (0 ≤ nr.2.1 ∧ nr.2.1 < 2 * (rows.length : Int)) ∧ (0 ≤ nr.2.2 ∧ nr.2.2 < 2 * (rows.length : Int))
  case neg =>
    rw [if_pos]
    · exact q _ ((GrH.refl hg (fun q' hq' hr' _ => by rw [hr1] at hq'; cases hq'; exact absurd hr' hB)).same s1)
    · rw [Bool.eq_false_iff]
      intro z
      simp [belW] at z
      exact hB (by omega)
  rw [if_neg (by simp [belW]; omega)]
  refine hN _ _ ?_
  clear hN
  obtain ⟨⟨b1, b2⟩, b3, b4⟩ := hB
  obtain ⟨i, hi⟩ := Int.eq_ofNat_of_zero_le b1
  obtain ⟨j, hj⟩ := Int.eq_ofNat_of_zero_le b3
  have hps1 := DAts.same s1 hps
  have hxl1 := s1 _ _ hxl
  have hxb1 := s1 _ _ hxb
  clear hab hmk hlen
  simp only [tSeq, tFor_eq, tLC_eq, iRng1, iRng2, iList, iTup, iStr, tIfS, tRet, tRetN, tNext, tAsg, gName, tVar, tC, tOp, rI0, rI, tTest, tB, rEq, rNe, tCall, tCons, tNil, tCB, tLst, tTup, tAnd, tOr, tNot, tAndV, tOrV, tNotV, tIf, tDrop, tSl, tPart, tNoPart, tChain, tUn, rU, L2.start, cx_K, bk_K, cx_calm, bk_calm, lenV_str, and_assoc, Option.join, List.length_map, List.length_append, decide_eq_true_eq, Bool.false_eq_true, if_false, if_true, Bool.not_true, Bool.not_false, Bool.not_eq_true', decide_eq_false_iff_not, Bool.true_eq_false, List.length_cons, List.length_nil, List.map_cons, List.map_nil, List.replicate, List.cons_append, List.nil_append, List.append_nil, List.getElem?_cons_zero, List.getElem?_cons_succ, List.set_cons_zero, List.set_cons_succ, Nat.reduceSub, Nat.reduceAdd, Option.some.injEq, V.int.injEq, V.str.injEq, V.bl.injEq, V.ref.injEq, List.cons.injEq, and_true, true_and, exists_eq_left', exists_eq_left, exists_and_left, exists_eq_right, exists_const, tBM, tBM0, rAppend, rPop, rIxL, rIxT, rIxS, rSlL, rSlT, rSlS, rCat, rCatT, tKGet, cx_w, bk_w, tDGet, tDisp, tPairs, tDNewK, cx_P]
  refine ⟨⟨_, SqL.of hxl1⟩, ?_⟩
  refine lc_list (xs := ps) (fun k ys σ H' => Same H1 H' ∧ ys = ((nr.1.take k).map fun x => hasP ls x.1 x.2).map V.bl ∧ ∃ o1 o2, σ = [o1, o2, some (V.ref g.r)]) ⟨Same.refl _, rfl, _, _, rfl⟩ (small (by omega)) (fun k ys σ H' e => ?_) (fun i ys σ H' e => SqL.of (e.1 _ _ hxl1)) (fun k x ys σ H' D hx e hD => ?_) (fun ys σ H' e p hp => ?_)
  · obtain ⟨_, rfl, _⟩ := e
    rw [List.length_map, List.length_map, List.length_take]
    omega
  · obtain ⟨es, rfl, o1, o2, rfl⟩ := e
    have hg' := hg1.same es
    obtain ⟨dx, hins⟩ := hg'.ins
    obtain ⟨pr, hpk, hpx⟩ := mapGetV hps1 hx
    obtain ⟨xp, rfl, hxp⟩ := prAt hpx
    replace hxp := es _ _ hxp
    obtain ⟨hkl, hk2⟩ := List.getElem?_eq_some_iff.mp hpk
    simp only [tSeq, tFor_eq, tLC_eq, iRng1, iRng2, iList, iTup, iStr, tIfS, tRet, tRetN, tNext, tAsg, gName, tVar, tC, tOp, rI0, rI, tTest, tB, rEq, rNe, tCall, tCons, tNil, tCB, tLst, tTup, tAnd, tOr, tNot, tAndV, tOrV, tNotV, tIf, tDrop, tSl, tPart, tNoPart, tChain, tUn, rU, L2.start, cx_K, bk_K, cx_calm, bk_calm, lenV_str, and_assoc, Option.join, List.length_map, List.length_append, decide_eq_true_eq, Bool.false_eq_true, if_false, if_true, Bool.not_true, Bool.not_false, Bool.not_eq_true', decide_eq_false_iff_not, Bool.true_eq_false, List.length_cons, List.length_nil, List.map_cons, List.map_nil, List.replicate, List.cons_append, List.nil_append, List.append_nil, List.getElem?_cons_zero, List.getElem?_cons_succ, List.set_cons_zero, List.set_cons_succ, Nat.reduceSub, Nat.reduceAdd, Option.some.injEq, V.int.injEq, V.str.injEq, V.bl.injEq, V.ref.injEq, List.cons.injEq, and_true, true_and, exists_eq_left', exists_eq_left, exists_and_left, exists_eq_right, exists_const, tBM, tBM0, rAppend, rPop, rIxL, rIxT, rIxS, rSlL, rSlT, rSlS, rCat, rCatT, tKGet, cx_w, bk_w, tDGet, tDisp, tPairs, tDNewK, cx_P, gTup, gCons, gNil, tMeth]
    refine ⟨_, SqT.of hxp, rfl, _, _, rfl, _, _, rfl, rfl, _, _, hins, lk3, g, rows, rules, ls, _, _, rfl, hg', fun H3 s3 => hD _ _ _ ⟨es.trans s3, ?_, _, _, rfl⟩⟩
    rw [List.take_succ_eq_append_getElem hkl, hk2, List.map_append, List.map_append]
    rfl
  obtain ⟨es, rfl, o1, o2, rfl⟩ := e
  refine ⟨p, rfl, _, SqL.of upd_same, ?_⟩
  rw [List.take_of_length_le (by omega)]
  have s2 := es.trans (same_new hp (.lst ((nr.1.map fun x => hasP ls x.1 x.2).map V.bl)))
  generalize upd H' p (.lst ((nr.1.map fun x => hasP ls x.1 x.2).map V.bl)) = H2 at s2 ⊢
  clear hp es
  have hg2 := hg1.same s2
  replace hxl1 := s2 _ _ hxl1
  replace hxb1 := s2 _ _ hxb1
  replace hps1 := DAts.same s2 hps1
  by_cases hA : (nr.1.map fun x => hasP ls x.1 x.2).all id = true
  case neg =>
    rw [if_neg hA]
    exact q _ ((GrH.refl hg (fun q' hq' _ hp' => absurd (by rw [hr1] at hq'; cases hq'; rw [List.all_map, List.all_eq_true]; exact fun p hp => hp' p hp) hA)).same (s1.trans s2))
  rw [if_pos hA]
  rw [List.all_map, List.all_eq_true] at hA
  refine ⟨⟨_, SqL.of hxl1⟩, ?_⟩
  refine lc_list (xs := ps) (fun k ys σ H' => Same H2 H' ∧ (∃ ns : List Int, ys = ns.map V.int ∧ ns.length = k ∧ (ns.map fun p => said ls ls.length (.n p)) = (nr.1.take k).map some) ∧ ∃ o1 o2, σ = [o1, o2, some (V.ref g.r)]) ⟨Same.refl _, ⟨[], rfl, rfl, rfl⟩, _, _, rfl⟩ (small (by omega)) (fun k ys σ H' e => ?_) (fun i ys σ H' e => SqL.of (e.1 _ _ hxl1)) (fun k x ys σ H' D hx e hD => ?_) (fun ys σ H' e p hp => ?_)
  · obtain ⟨_, ⟨ns, rfl, hl, _⟩, _⟩ := e
    rw [List.length_map]
    omega
  · obtain ⟨es, ⟨ns, rfl, hl, hns⟩, o1, o2, rfl⟩ := e
    have hg' := hg2.same es
    obtain ⟨dx, hins⟩ := hg'.ins
    obtain ⟨pr, hpk, hpx⟩ := mapGetV hps1 hx
    obtain ⟨xp, rfl, hxp⟩ := prAt hpx
    replace hxp := es _ _ hxp
    obtain ⟨hkl, hk2⟩ := List.getElem?_eq_some_iff.mp hpk
    simp only [tSeq, tFor_eq, tLC_eq, iRng1, iRng2, iList, iTup, iStr, tIfS, tRet, tRetN, tNext, tAsg, gName, tVar, tC, tOp, rI0, rI, tTest, tB, rEq, rNe, tCall, tCons, tNil, tCB, tLst, tTup, tAnd, tOr, tNot, tAndV, tOrV, tNotV, tIf, tDrop, tSl, tPart, tNoPart, tChain, tUn, rU, L2.start, cx_K, bk_K, cx_calm, bk_calm, lenV_str, and_assoc, Option.join, List.length_map, List.length_append, decide_eq_true_eq, Bool.false_eq_true, if_false, if_true, Bool.not_true, Bool.not_false, Bool.not_eq_true', decide_eq_false_iff_not, Bool.true_eq_false, List.length_cons, List.length_nil, List.map_cons, List.map_nil, List.replicate, List.cons_append, List.nil_append, List.append_nil, List.getElem?_cons_zero, List.getElem?_cons_succ, List.set_cons_zero, List.set_cons_succ, Nat.reduceSub, Nat.reduceAdd, Option.some.injEq, V.int.injEq, V.str.injEq, V.bl.injEq, V.ref.injEq, List.cons.injEq, and_true, true_and, exists_eq_left', exists_eq_left, exists_and_left, exists_eq_right, exists_const, tBM, tBM0, rAppend, rPop, rIxL, rIxT, rIxS, rSlL, rSlT, rSlS, rCat, rCatT, tKGet, cx_w, bk_w, tDGet, tDisp, tPairs, tDNewK, cx_P, gTup, gCons, gNil, tMeth]
    refine ⟨_, SqT.of hxp, rfl, _, _, rfl, _, _, rfl, rfl, _, _, hins, lk2, g, rows, rules, ls, _, _, rfl, hg', hA pr (List.mem_of_getElem? hpk), fun p l H3 s3 hl1 h1 h2 => hD _ _ _ ⟨es.trans s3, ⟨ns ++ [(p : Int)], by rw [List.map_append]; rfl, by simp [hl], ?_⟩, _, _, rfl⟩⟩
    rw [List.take_succ_eq_append_getElem hkl, hk2, List.map_append, List.map_append, hns]
    show _ ++ [said ls ls.length (.n (p : Int))] = _
    rw [said_at hl1, h1, h2]
    rfl
  obtain ⟨es, ⟨ns, rfl, hl, hns⟩, o1, o2, rfl⟩ := e
  rw [List.take_of_length_le (by omega)] at hns
  refine ⟨p, rfl, _, .inl ⟨SqL.of upd_same, fun l hl' => ?_⟩⟩
  have s3 := (es.trans (same_new hp (.lst (ns.map V.int)))).trans (same_new hl' (.tup (ns.map V.int)))
  have kl : upd (upd H' p (.lst (ns.map V.int))) l (.tup (ns.map V.int)) l = some (.tup (ns.map V.int)) := upd_same
  generalize upd (upd H' p (.lst (ns.map V.int))) l (.tup (ns.map V.int)) = H3 at s3 kl ⊢
  replace hxb1 := s3 _ _ hxb1
  have hg3 := hg2.same s3
  obtain ⟨dx, hins⟩ := hg3.ins
  simp only [tSeq, tFor_eq, tLC_eq, iRng1, iRng2, iList, iTup, iStr, tIfS, tRet, tRetN, tNext, tAsg, gName, tVar, tC, tOp, rI0, rI, tTest, tB, rEq, rNe, tCall, tCons, tNil, tCB, tLst, tTup, tAnd, tOr, tNot, tAndV, tOrV, tNotV, tIf, tDrop, tSl, tPart, tNoPart, tChain, tUn, rU, L2.start, cx_K, bk_K, cx_calm, bk_calm, lenV_str, and_assoc, Option.join, List.length_map, List.length_append, decide_eq_true_eq, Bool.false_eq_true, if_false, if_true, Bool.not_true, Bool.not_false, Bool.not_eq_true', decide_eq_false_iff_not, Bool.true_eq_false, List.length_cons, List.length_nil, List.map_cons, List.map_nil, List.replicate, List.cons_append, List.nil_append, List.append_nil, List.getElem?_cons_zero, List.getElem?_cons_succ, List.set_cons_zero, List.set_cons_succ, Nat.reduceSub, Nat.reduceAdd, Option.some.injEq, V.int.injEq, V.str.injEq, V.bl.injEq, V.ref.injEq, List.cons.injEq, and_true, true_and, exists_eq_left', exists_eq_left, exists_and_left, exists_eq_right, exists_const, tBM, tBM0, rAppend, rPop, rIxL, rIxT, rIxS, rSlL, rSlT, rSlS, rCat, rCatT, tKGet, cx_w, bk_w, tDGet, tDisp, tPairs, tDNewK, cx_P, tMeth]
  refine ⟨_, _, hins, lk, _, SqT.of hxb1, _, at0, _, SqT.of hxb1, _, at1, small (by decide), fun p2 hp2 => ?_⟩
  rw [hi, hj]
  refine gw_any (t := []) (Same.g ((s1.trans s2).trans s3)) (by rw [List.append_nil]; exact hg3) h100 (same_new hp2 _) (x := "rule") (as := [.n r, .ps ns]) ⟨p2, _, rfl, upd_same, _, _, rfl, rfl, _, _, rfl, rfl, _, _, rfl, atPs (same_new hp2 _ _ _ kl), rfl⟩ ?_ ⟨by simp, fun ps' h => ?_⟩ (fun L e h q' hq' _ _ => by rw [hr1] at hq'; cases hq'; rw [hi, hj]; exact h) fun _ H4 g4 => q _ g4
  · rw [List.append_nil]
    exact st_rule (by omega) (by omega) hr1 (Prod.ext hi hj) hns
  · simp at h
    subst h
    omega
end
end C
set_option Elab.async false
set_option linter.all false
set_option maxRecDepth 100000
set_option maxHeartbeats 8000000
namespace C
open PySem L2
seal PE PT PW PA PS PSs PG PGs PI PPs PO PSet PIf
abbrev s_closing : Stmt := top 15
theorem sc_closing : FnScope ["sheet", "rules", "growth", "boths", "waiting", "r", "k", "i", "j"] ["sheet", "rules"] (defScope s_closing) := ⟨rfl, rfl, rfl, by decide +kernel, rfl, by decide +kernel, by decide +kernel⟩
theorem Le.back {L L' : List Ln} (e : Le L L') {a : Nat} {l : Ln} (ha : a < L.length) (h : L'[a]? = some l) : L[a]? = some l := by
  obtain ⟨t, rfl⟩ := e
  rw [List.getElem?_append_left ha] at h
  exact h
structure Cl (rows : List Rw) (rules : List NRul) (k : Nat) (L : List Ln) : Prop where
  turn : ∀ (a : Nat) (l : Ln) (i j : Nat), a < k → L[a]? = some l → l.i = i → l.j = j → hasP L ((tnN j : Nat) : Int) ((tnN i : Nat) : Int) = true
  clash : ∀ (a : Nat) (l : Ln) (i j : Nat), a < k → L[a]? = some l → l.i = i → l.j = j → (j : Int) = tn1 i → ∀ n : Nat, n < 2 * rows.length → hasP L i n = true
  chain : ∀ (a b : Nat) (l l' : Ln) (i j m : Nat), a < k → b < k → L[a]? = some l → L[b]? = some l' → l.i = i → l.j = j → l'.i = j → l'.j = m → hasP L i m = true
  both : ∀ (a b : Nat) (l l' : Ln) (i n : Nat) (x y : Int), a < k → b < k → L[a]? = some l → L[b]? = some l' → l.i = i → l.j = x → l'.i = i → l'.j = y → rows[n]? = some (.bo x y) → hasP L i ((2 * n : Nat) : Int) = true
  rule : ∀ (r : Nat) (q : NRul), rules[r]? = some q → InR rows q → (∀ p ∈ q.1, ∃ (a : Nat) (l : Ln), a < k ∧ L[a]? = some l ∧ l.i = p.1 ∧ l.j = p.2) → hasP L q.2.1 q.2.2 = true
theorem Cl.le {rows : List Rw} {rules : List NRul} {k : Nat} {L L' : List Ln} (h : Cl rows rules k L) (hk : k ≤ L.length) (e : Le L L') : Cl rows rules k L' := by
  have b : ∀ {a : Nat} {l : Ln}, a < k → L'[a]? = some l → L[a]? = some l := fun ha hl => e.back (by omega) hl
  refine ⟨fun a l i j ha hl h1 h2 => e.has (h.turn a l i j ha (b ha hl) h1 h2), fun a l i j ha hl h1 h2 h3 n hn => e.has (h.clash a l i j ha (b ha hl) h1 h2 h3 n hn), fun a b' l l' i j m ha hb hl hl' h1 h2 h3 h4 => e.has (h.chain a b' l l' i j m ha hb (b ha hl) (b hb hl') h1 h2 h3 h4),
    fun a b' l l' i n x y ha hb hl hl' h1 h2 h3 h4 hr => e.has (h.both a b' l l' i n x y ha hb (b ha hl) (b hb hl') h1 h2 h3 h4 hr), fun r q hr hi hp => e.has (h.rule r q hr hi fun p hpq => ?_)⟩
  obtain ⟨a, l, ha, hl, h1, h2⟩ := hp p hpq
  exact ⟨a, l, ha, b ha hl, h1, h2⟩
theorem Cl.step {rows : List Rw} {rules : List NRul} {k : Nat} {L L' : List Ln} (h : Cl rows rules k L) (e : Le L L') {l0 : Ln} {i j : Nat} (hk : L[k]? = some l0) (hi : l0.i = i) (hj : l0.j = j)
    (h1 : hasP L' ((tnN j : Nat) : Int) ((tnN i : Nat) : Int) = true) (h2 : ∀ m : Nat, hasP L j m = true → hasP L' i m = true) (h3 : ∀ m : Nat, hasP L m i = true → hasP L' m j = true)
    (h4 : ∀ (n : Nat) (x y : Int), rows[n]? = some (.bo x y) → ((j : Int) = x ∨ (j : Int) = y) → hasP L i x = true → hasP L i y = true → hasP L' i ((2 * n : Nat) : Int) = true)
    (h5 : (j : Int) = tn1 i → ∀ n : Nat, n < 2 * rows.length → hasP L' i n = true)
    (h6 : ∀ (r : Nat) (q : NRul), rules[r]? = some q → InR rows q → ((i : Int), (j : Int)) ∈ q.1 → (∀ p ∈ q.1, hasP L p.1 p.2 = true) → hasP L' q.2.1 q.2.2 = true) : Cl rows rules (k + 1) L' := by
  have hkl := (List.getElem?_eq_some_iff.mp hk).1
  have hc := h.le (by omega) e
  have b : ∀ {a : Nat} {l : Ln}, a < k + 1 → L'[a]? = some l → L[a]? = some l := fun ha hl => e.back (by omega) hl
  have z : ∀ {a : Nat}, a < k + 1 → a < k ∨ a = k := fun ha => by omega
  have lz : ∀ {a : Nat} {l : Ln}, a = k → a < k + 1 → L'[a]? = some l → l = l0 := fun ea ha hl => by
    have := b ha hl
    rw [ea, hk] at this
    exact (Option.some.inj this).symm
  have hs : ∀ {a : Nat} {l : Ln}, a < k + 1 → L'[a]? = some l → hasP L l.i l.j = true := fun ha hl => hasP_iff.mpr ⟨_, _, b ha hl, rfl, rfl⟩
  refine ⟨fun a l i' j' ha hl g1 g2 => ?_, fun a l i' j' ha hl g1 g2 g3 n hn => ?_, fun a b' l l' i' j' m ha hb hl hl' g1 g2 g3 g4 => ?_, fun a b' l l' i' n x y ha hb hl hl' g1 g2 g3 g4 hr => ?_, fun r q hr hir hp => ?_⟩
  · rcases z ha with za | za
    · exact hc.turn a l i' j' za hl g1 g2
    · have el := lz za ha hl
      subst el
      have ei : i' = i := by omega
      have ej : j' = j := by omega
      rw [ei, ej]
      exact h1
  · rcases z ha with za | za
    · exact hc.clash a l i' j' za hl g1 g2 g3 n hn
    · have el := lz za ha hl
      subst el
      have ei : i' = i := by omega
      have ej : j' = j := by omega
      subst ei ej
      exact h5 g3 n hn
  · rcases z ha with za | za
    · rcases z hb with zb | zb
      · exact hc.chain a b' l l' i' j' m za zb hl hl' g1 g2 g3 g4
      · have el := lz zb hb hl'
        subst el
        have ej : j' = i := by omega
        have em : m = j := by omega
        have := hs ha hl
        rw [g1, g2, ej] at this
        rw [em]
        exact h3 i' this
    · have el := lz za ha hl
      subst el
      have ei : i' = i := by omega
      have ej : j' = j := by omega
      have := hs hb hl'
      rw [g3, g4, ej] at this
      rw [ei]
      exact h2 m this
  · have ha' := hs ha hl
    have hb' := hs hb hl'
    rw [g1, g2] at ha'
    rw [g3, g4] at hb'
    rcases z ha with za | za
    · rcases z hb with zb | zb
      · exact hc.both a b' l l' i' n x y za zb hl hl' g1 g2 g3 g4 hr
      · have el := lz zb hb hl'
        subst el
        have ei : i' = i := by omega
        subst ei
        exact h4 n x y hr (.inr (by omega)) ha' hb'
    · have el := lz za ha hl
      subst el
      have ei : i' = i := by omega
      subst ei
      exact h4 n x y hr (.inl (by omega)) ha' hb'
  · by_cases hall : ∀ p ∈ q.1, ∃ (a : Nat) (l : Ln), a < k ∧ L'[a]? = some l ∧ l.i = p.1 ∧ l.j = p.2
    · exact hc.rule r q hr hir hall
    · refine h6 r q hr hir (Classical.byContradiction fun hno => hall fun p hpq => ?_) fun p hpq => ?_
      · obtain ⟨a, l, ha, hl, g1, g2⟩ := hp p hpq
        rcases z ha with za | za
        · exact ⟨a, l, za, hl, g1, g2⟩
        · have el := lz za ha hl
          subst el
          have ep : p = ((i : Int), (j : Int)) := Prod.ext (by rw [← g1, hi]) (by rw [← g2, hj])
          exact absurd (ep ▸ hpq) hno
      · obtain ⟨a, l, ha, hl, g1, g2⟩ := hp p hpq
        have := hs ha hl
        rw [g1, g2] at this
        exact this
def spClo : Sp := fun vs H Q _ => ∃ (sa ra : Addr) (us vs' : List V) (rows : List Rw) (rules : List NRul), vs = [.ref sa, .ref ra] ∧ H sa = some (.lst us) ∧ RwAts H rows us ∧ H ra = some (.lst vs') ∧ DAts H (rules.map dNR) vs' ∧ rows.length ≤ 100 ∧ RowsIn rows ∧ rules.length ≤ 100 ∧ (∀ r ∈ rules, r.1.length ≤ 100) ∧ ∀ (la : Addr) (ws : List V) (ls : List Ln) H', Same H H' → H' la = some (.lst ws) → LnAts H' ls ws → GOk rows rules ls → Pl rows (2 * rows.length) rows.length ls → Cl rows rules ls.length ls → Q (.ref la) H'
theorem SameG.same {g : GAd} {H H2 H' : Hp} (s : Same H H2) (e : SameG g H2 H') (h1 : H g.la = none) (h2 : H g.pa = none) (h3 : H g.aa = none) (h4 : H g.ba = none) : Same H H' := fun b o hb => by
  have go : ∀ {a : Addr}, H a = none → b ≠ a := fun ha z => by rw [z, ha] at hb; cases hb
  exact e b o (s b o hb) (go h1) (go h2) (go h3) (go h4)
section
variable {P : Program} {w : World} {K : PySem.W.Frag} {mg : Str → Option Value} {base : Heap} {f : Addr} {fd : FuncData}
theorem ok_closing {C : Addr} (T : GrC K C) (bi : Bi mg) (h_Growth_init : HasI P w K mg base 1 C "Growth" ["self", "many"] (spGI C)) (h_boths_by_part : Has P w K mg base 1 "boths_by_part" ["sheet"] spBo) (h_rules_by_premise : Has P w K mg base 1 "rules_by_premise" ["rules"] spWa) (h_begin : Has P w K mg base 3 "begin" ["growth", "sheet"] (spBe C)) (h_grow_by_turn : Has P w K mg base 3 "grow_by_turn" ["growth", "i", "j"] (spGIJ RTurn C)) (h_grow_by_chain : Has P w K mg base 3 "grow_by_chain" ["growth", "i", "j"] (spGIJ RChain C)) (h_grow_by_both : Has P w K mg base 3 "grow_by_both" ["growth", "i", "boths"] (spGB C)) (h_grow_by_clash : Has P w K mg base 3 "grow_by_clash" ["growth", "i", "j"] (spGIJ RClash C)) (h_grow_by_rule : Has P w K mg base 3 "grow_by_rule" ["growth", "rules", "r"] (spGR C)) (F : Fun K "closing" "closing" s_closing f fd) : FnOk P w K mg base CX0 4 f fd ["sheet", "rules"] spClo := by
  refine F.ok sc_closing (fun vs H Q E h => ?_) (fun cdv A outer s H vs Q E hr h => ?_)
  · obtain ⟨sa, ra, us, vs', rows, rules, rfl, _⟩ := h
    rfl
  obtain ⟨sa, ra, us, vs', rows, rules, rfl, hsa, hrw, hra, hru, h100, hin, hr100, hpr, q⟩ := h
  have hul := mapLen hrw
  have hvl := mapLen hru
  have cl_Growth := T.cl
  refine ⟨_, (pss_cons (ps_set (i := 2) sc_closing.nd rfl (Or.inl rfl) (pe_makeH h_Growth_init (hr.mono (by omega)) rfl (pa_cons (pe_op op_mul pe_int (pe_callB call_len rfl bi.len bt_len (pa_cons (pv 0) pa_nil))) pa_nil))) (pss_cons (ps_set (i := 3) sc_closing.nd rfl (Or.inl rfl) (pe_callH h_boths_by_part (hr.mono (by omega)) rfl (pa_cons (pv 0) pa_nil))) (pss_cons (ps_set (i := 4) sc_closing.nd rfl (Or.inl rfl) (pe_callH h_rules_by_premise (hr.mono (by omega)) rfl (pa_cons (pv 1) pa_nil))) (pss_cons (ps_expr (pe_callH h_begin (hr.mono (by omega)) rfl (pa_cons (pv 2) (pa_cons (pv 0) pa_nil)))) (pss_cons (ps_for PassesOwn.never rfl (pi_range1 rfl bi.range (pa_cons (pe_callB call_len rfl bi.len bt_len (pa_cons (pv 1) pa_nil)) pa_nil)) (pg_name (i := 5) sc_closing.nd rfl (Or.inl rfl)) (pss_one (ps_expr (pe_callH h_grow_by_rule (hr.mono (by omega)) rfl (pa_cons (pv 2) (pa_cons (pv 1) (pa_cons (pv 5) pa_nil))))))) (pss_cons (ps_set (i := 6) sc_closing.nd rfl (Or.inl rfl) pe_int) (pss_cons (ps_while PassesOwn.never (pt_cmpR op_lt (pv 6) (pe_callB call_len rfl bi.len bt_len (pa_cons (pe_fld (pv 2) rfl) pa_nil)) (nomark _)) (pss_cons (ps_set (i := 7) sc_closing.nd rfl (Or.inl rfl) (pe_ix ix_tup (pe_ix ix_list (pe_fld (pv 2) rfl) (pv 6) (fun _ _ => rfl)) pe_int (fun _ _ => rfl))) (pss_cons (ps_set (i := 8) sc_closing.nd rfl (Or.inl rfl) (pe_ix ix_tup (pe_ix ix_list (pe_fld (pv 2) rfl) (pv 6) (fun _ _ => rfl)) pe_int (fun _ _ => rfl))) (pss_cons (ps_expr (pe_callH h_grow_by_turn (hr.mono (by omega)) rfl (pa_cons (pv 2) (pa_cons (pv 7) (pa_cons (pv 8) pa_nil))))) (pss_cons (ps_expr (pe_callH h_grow_by_chain (hr.mono (by omega)) rfl (pa_cons (pv 2) (pa_cons (pv 7) (pa_cons (pv 8) pa_nil))))) (pss_cons (ps_expr (pe_callH h_grow_by_both (hr.mono (by omega)) rfl (pa_cons (pv 2) (pa_cons (pv 7) (pa_cons (pe_ix ix_list (pv 3) (pv 8) (fun _ _ => rfl)) pa_nil))))) (pss_cons (ps_expr (pe_callH h_grow_by_clash (hr.mono (by omega)) rfl (pa_cons (pv 2) (pa_cons (pv 7) (pa_cons (pv 8) pa_nil))))) (pss_cons (ps_for PassesOwn.never rfl (pi_list (pe_dget2 (hu_of hr) (pv 4) (pe_tup (pa_cons (pv 7) (pa_cons (pv 8) pa_nil))) (pe_lst pa_nil) ⟨rfl, rfl, rfl, rfl⟩)) (pg_name (i := 5) sc_closing.nd rfl (Or.inl rfl)) (pss_one (ps_expr (pe_callH h_grow_by_rule (hr.mono (by omega)) rfl (pa_cons (pv 2) (pa_cons (pv 1) (pa_cons (pv 5) pa_nil))))))) (pss_one (ps_aug (i := 6) sc_closing.nd rfl (Or.inl rfl) pe_int ip_add)))))))))) (pss_one (ps_ret (pe_fld (pv 2) rfl)))))))))), ?_⟩
  refine seq_abs fun N hN => ?_
  simp only [tSeq, tFor_eq, tLC_eq, iRng1, iRng2, iList, iTup, iStr, tIfS, tRet, tRetN, tNext, tAsg, gName, tVar, tC, tOp, rI0, rI, tTest, tB, rEq, rNe, tCall, tCons, tNil, tCB, tLst, tTup, tAnd, tOr, tNot, tAndV, tOrV, tNotV, tIf, tDrop, tSl, tPart, tNoPart, tChain, tUn, rU, L2.start, cx_K, bk_K, cx_calm, bk_calm, lenV_str, and_assoc, Option.join, List.length_map, List.length_append, decide_eq_true_eq, Bool.false_eq_true, if_false, if_true, Bool.not_true, Bool.not_false, Bool.not_eq_true', decide_eq_false_iff_not, Bool.true_eq_false, List.length_cons, List.length_nil, List.map_cons, List.map_nil, List.replicate, List.cons_append, List.nil_append, List.append_nil, List.getElem?_cons_zero, List.getElem?_cons_succ, List.set_cons_zero, List.set_cons_succ, Nat.reduceSub, Nat.reduceAdd, Option.some.injEq, V.int.injEq, V.str.injEq, V.bl.injEq, V.ref.injEq, List.cons.injEq, and_true, true_and, exists_eq_left', exists_eq_left, exists_and_left, exists_eq_right, exists_const, tBM, tBM0, rAppend, rPop, rIxL, rIxT, rIxS, rSlL, rSlT, rSlS, rCat, rCatT, tKGet, cx_w, bk_w, tDGet, tDisp, tPairs, tDNewK, cx_P, tMake]
  refine ⟨us.length, .inl ⟨_, SqL.of hsa, rfl⟩, .inl ⟨by decide, by decide⟩, fun x dx hx hdx hne => ?_⟩
  have s1 : Same H (upd (upd H dx (.own x)) x (.ins C dx [])) := ((Same.refl H).upd hdx).upd hx
  have k1 : upd (upd H dx (.own x)) x (.ins C dx []) x = some (.ins C dx []) := upd_same
  generalize upd (upd H dx (.own x)) x (.ins C dx []) = H1 at s1 k1 ⊢
  have e2 : (2 : Int) * (us.length : Int) = ((2 * rows.length : Nat) : Int) := by rw [hul]; omega
  rw [e2]
  refine ⟨x, dx, rows, rules, rfl, k1, h100, fun g H2 hgr x2 hla hpa haa hba hg => ⟨rfl, hN _ _ ?_⟩⟩
  subst hgr
  clear hN
  have s2 : Same H H2 := fun b o hb => x2 b o (s1 _ _ hb) (fun z => by rw [z, hx] at hb; cases hb)
  replace hla := s1.free hla
  replace hpa := s1.free hpa
  replace haa := s1.free haa
  replace hba := s1.free hba
  have outH : ∀ {a : Addr} {o : HO}, H a = some o → OutG g a := fun {a o} ha => by
    have go : ∀ {b : Addr}, H b = none → a ≠ b := fun hb z => by rw [z, hb] at ha; cases ha
    exact ⟨go hla, go hpa, go haa, go hba⟩
  clear x2 k1 s1
  refine seq_abs fun N hN => ?_
  simp only [tSeq, tFor_eq, tLC_eq, iRng1, iRng2, iList, iTup, iStr, tIfS, tRet, tRetN, tNext, tAsg, gName, tVar, tC, tOp, rI0, rI, tTest, tB, rEq, rNe, tCall, tCons, tNil, tCB, tLst, tTup, tAnd, tOr, tNot, tAndV, tOrV, tNotV, tIf, tDrop, tSl, tPart, tNoPart, tChain, tUn, rU, L2.start, cx_K, bk_K, cx_calm, bk_calm, lenV_str, and_assoc, Option.join, List.length_map, List.length_append, decide_eq_true_eq, Bool.false_eq_true, if_false, if_true, Bool.not_true, Bool.not_false, Bool.not_eq_true', decide_eq_false_iff_not, Bool.true_eq_false, List.length_cons, List.length_nil, List.map_cons, List.map_nil, List.replicate, List.cons_append, List.nil_append, List.append_nil, List.getElem?_cons_zero, List.getElem?_cons_succ, List.set_cons_zero, List.set_cons_succ, Nat.reduceSub, Nat.reduceAdd, Option.some.injEq, V.int.injEq, V.str.injEq, V.bl.injEq, V.ref.injEq, List.cons.injEq, and_true, true_and, exists_eq_left', exists_eq_left, exists_and_left, exists_eq_right, exists_const, tBM, tBM0, rAppend, rPop, rIxL, rIxT, rIxS, rSlL, rSlT, rSlS, rCat, rCatT, tKGet, cx_w, bk_w, tDGet, tDisp, tPairs, tDNewK, cx_P]
  refine ⟨sa, us, rows, rfl, s2 _ _ hsa, DAts.same s2 hrw, h100, hin, fun pb qs n H3 s3 hpb0 hqs0 hpb hql hbo hbc => hN _ _ ?_⟩
  clear hN
  have outb := hg.out hpb0
  have outq : ∀ q ∈ qs, OutG g q := fun q hq => hg.out (hqs0 q hq)
  replace hg := hg.same s3
  replace s2 := s2.trans s3
  clear s3 hqs0 hpb0
  refine seq_abs fun N hN => ?_
  simp only [tSeq, tFor_eq, tLC_eq, iRng1, iRng2, iList, iTup, iStr, tIfS, tRet, tRetN, tNext, tAsg, gName, tVar, tC, tOp, rI0, rI, tTest, tB, rEq, rNe, tCall, tCons, tNil, tCB, tLst, tTup, tAnd, tOr, tNot, tAndV, tOrV, tNotV, tIf, tDrop, tSl, tPart, tNoPart, tChain, tUn, rU, L2.start, cx_K, bk_K, cx_calm, bk_calm, lenV_str, and_assoc, Option.join, List.length_map, List.length_append, decide_eq_true_eq, Bool.false_eq_true, if_false, if_true, Bool.not_true, Bool.not_false, Bool.not_eq_true', decide_eq_false_iff_not, Bool.true_eq_false, List.length_cons, List.length_nil, List.map_cons, List.map_nil, List.replicate, List.cons_append, List.nil_append, List.append_nil, List.getElem?_cons_zero, List.getElem?_cons_succ, List.set_cons_zero, List.set_cons_succ, Nat.reduceSub, Nat.reduceAdd, Option.some.injEq, V.int.injEq, V.str.injEq, V.bl.injEq, V.ref.injEq, List.cons.injEq, and_true, true_and, exists_eq_left', exists_eq_left, exists_and_left, exists_eq_right, exists_const, tBM, tBM0, rAppend, rPop, rIxL, rIxT, rIxS, rSlL, rSlT, rSlS, rCat, rCatT, tKGet, cx_w, bk_w, tDGet, tDisp, tPairs, tDNewK, cx_P]
  refine ⟨ra, vs', rules, rfl, s2 _ _ hra, DAts.same s2 hru, hr100, hpr, fun pw kvs n' H4 s4 hpw0 hpw hwa hwc => hN _ _ ?_⟩
  clear hN
  have outw := hg.out hpw0
  have hwa' : ∀ kv ∈ kvs, ∃ (q : Addr) (ns : List Nat), kv.2 = .ref q ∧ H4 q = some (.lst (ns.map nV)) ∧ OutG g q ∧ ∀ x ∈ ns, x < rules.length := fun kv hkv => by
    obtain ⟨q', ns', h1, h2, h3, h4, h5⟩ := hwa kv hkv
    exact ⟨q', ns', h1, h2, hg.out h3, h5⟩
  clear hwa
  replace hg := hg.same s4
  replace s2 := s2.trans s4
  replace hpb := s4 _ _ hpb
  replace hbo := hbo.same s4
  replace hbc := hbc.same s4
  clear s4 hpw0
  have SS : ∀ {H'}, SameG g H4 H' → Same H H' := fun e => SameG.same s2 e hla hpa haa hba
  refine seq_abs fun N hN => ?_
  simp only [tSeq, tFor_eq, tLC_eq, iRng1, iRng2, iList, iTup, iStr, tIfS, tRet, tRetN, tNext, tAsg, gName, tVar, tC, tOp, rI0, rI, tTest, tB, rEq, rNe, tCall, tCons, tNil, tCB, tLst, tTup, tAnd, tOr, tNot, tAndV, tOrV, tNotV, tIf, tDrop, tSl, tPart, tNoPart, tChain, tUn, rU, L2.start, cx_K, bk_K, cx_calm, bk_calm, lenV_str, and_assoc, Option.join, List.length_map, List.length_append, decide_eq_true_eq, Bool.false_eq_true, if_false, if_true, Bool.not_true, Bool.not_false, Bool.not_eq_true', decide_eq_false_iff_not, Bool.true_eq_false, List.length_cons, List.length_nil, List.map_cons, List.map_nil, List.replicate, List.cons_append, List.nil_append, List.append_nil, List.getElem?_cons_zero, List.getElem?_cons_succ, List.set_cons_zero, List.set_cons_succ, Nat.reduceSub, Nat.reduceAdd, Option.some.injEq, V.int.injEq, V.str.injEq, V.bl.injEq, V.ref.injEq, List.cons.injEq, and_true, true_and, exists_eq_left', exists_eq_left, exists_and_left, exists_eq_right, exists_const, tBM, tBM0, rAppend, rPop, rIxL, rIxT, rIxS, rSlL, rSlT, rSlS, rCat, rCatT, tKGet, cx_w, bk_w, tDGet, tDisp, tPairs, tDNewK, cx_P]
  refine ⟨g, sa, us, rows, rules, rfl, hg, h100, s2 _ _ hsa, DAts.same s2 hrw, outH hsa, hin, fun H5 g5 => hN _ _ ?_⟩
  clear hN
  have np : ∀ {r : Nat} {ls L L' : List Ln}, RRule rows rules ls L r → Le L L' → ∀ q : NRul, rules[r]? = some q → InR rows q → q.1 = [] → hasP L' q.2.1 q.2.2 = true := fun h e q hq hi h0 => e.has (h q hq hi (fun p hp => by rw [h0] at hp; cases hp))
  refine seq_join (fun σ H' => ∃ (o1 o2 o3 o4 : Option V), GrH C H4 g rows rules [] (fun L => Pl rows (2 * rows.length) rows.length L ∧ Cl rows rules 0 L) H' ∧ σ = [some (V.ref sa), some (V.ref ra), some (V.ref g.r), some (V.ref pb), some (V.ref pw), o1, o2, o3, o4]) (fun N hN => ?_) (fun σ H' h => ?_)
  · simp only [tSeq, tFor_eq, tLC_eq, iRng1, iRng2, iList, iTup, iStr, tIfS, tRet, tRetN, tNext, tAsg, gName, tVar, tC, tOp, rI0, rI, tTest, tB, rEq, rNe, tCall, tCons, tNil, tCB, tLst, tTup, tAnd, tOr, tNot, tAndV, tOrV, tNotV, tIf, tDrop, tSl, tPart, tNoPart, tChain, tUn, rU, L2.start, cx_K, bk_K, cx_calm, bk_calm, lenV_str, and_assoc, Option.join, List.length_map, List.length_append, decide_eq_true_eq, Bool.false_eq_true, if_false, if_true, Bool.not_true, Bool.not_false, Bool.not_eq_true', decide_eq_false_iff_not, Bool.true_eq_false, List.length_cons, List.length_nil, List.map_cons, List.map_nil, List.replicate, List.cons_append, List.nil_append, List.append_nil, List.getElem?_cons_zero, List.getElem?_cons_succ, List.set_cons_zero, List.set_cons_succ, Nat.reduceSub, Nat.reduceAdd, Option.some.injEq, V.int.injEq, V.str.injEq, V.bl.injEq, V.ref.injEq, List.cons.injEq, and_true, true_and, exists_eq_left', exists_eq_left, exists_and_left, exists_eq_right, exists_const, tBM, tBM0, rAppend, rPop, rIxL, rIxT, rIxS, rSlL, rSlT, rSlS, rCat, rCatT, tKGet, cx_w, bk_w, tDGet, tDisp, tPairs, tDNewK, cx_P]
    refine ⟨vs'.length, .inl ⟨_, SqL.of (SS g5.to.1 _ _ hra), rfl⟩, by omega, by omega, ?_⟩
    refine fw_range (n := (vs'.length : Int).toNat) (fun i σ H' => ∃ (o1 o2 o3 o4 : Option V), GrH C H4 g rows rules [] (fun L => Pl rows (2 * rows.length) rows.length L ∧ ∀ r : Nat, r < i → ∀ q : NRul, rules[r]? = some q → InR rows q → q.1 = [] → hasP L q.2.1 q.2.2 = true) H' ∧ σ = [some (V.ref sa), some (V.ref ra), some (V.ref g.r), some (V.ref pb), some (V.ref pw), o1, o2, o3, o4]) ⟨_, _, _, _, (by
        obtain ⟨h1, t, h2, h3⟩ := g5
        exact ⟨h1, t, h2, h3, fun r hr => by omega⟩), rfl⟩ (fun i σ H' hi h => ?_) (fun σ H' h => ?_)
    rotate_left
    · obtain ⟨o1, o2, o3, o4, ⟨h1, t, h2, h3, h4⟩, rfl⟩ := h
      refine hN _ _ ⟨_, _, _, _, ⟨h1, t, h2, h3, ⟨fun a l i j ha => by omega, fun a l i j ha => by omega, fun a b l l' i j m ha => by omega, fun a b l l' i n x y ha => by omega, fun r q hr hir hp => ?_⟩⟩, rfl⟩
      refine h4 r (by have := (List.getElem?_eq_some_iff.mp hr).1; omega) q hr hir ?_
      cases hq : q.1 with
      | nil => rfl
      | cons p ps =>
        obtain ⟨a, l, ha, _⟩ := hp p (by rw [hq]; exact List.mem_cons_self)
        omega
    obtain ⟨o1, o2, o3, o4, ⟨gs, t, gt, hP, hR⟩, rfl⟩ := h
    have e0 : (0 : Int) + (i : Int) = ((i : Nat) : Int) := by omega
    simp only [tSeq, tFor_eq, tLC_eq, iRng1, iRng2, iList, iTup, iStr, tIfS, tRet, tRetN, tNext, tAsg, gName, tVar, tC, tOp, rI0, rI, tTest, tB, rEq, rNe, tCall, tCons, tNil, tCB, tLst, tTup, tAnd, tOr, tNot, tAndV, tOrV, tNotV, tIf, tDrop, tSl, tPart, tNoPart, tChain, tUn, rU, L2.start, cx_K, bk_K, cx_calm, bk_calm, lenV_str, and_assoc, Option.join, List.length_map, List.length_append, decide_eq_true_eq, Bool.false_eq_true, if_false, if_true, Bool.not_true, Bool.not_false, Bool.not_eq_true', decide_eq_false_iff_not, Bool.true_eq_false, List.length_cons, List.length_nil, List.map_cons, List.map_nil, List.replicate, List.cons_append, List.nil_append, List.append_nil, List.getElem?_cons_zero, List.getElem?_cons_succ, List.set_cons_zero, List.set_cons_succ, Nat.reduceSub, Nat.reduceAdd, Option.some.injEq, V.int.injEq, V.str.injEq, V.bl.injEq, V.ref.injEq, List.cons.injEq, and_true, true_and, exists_eq_left', exists_eq_left, exists_and_left, exists_eq_right, exists_const, tBM, tBM0, rAppend, rPop, rIxL, rIxT, rIxS, rSlL, rSlT, rSlS, rCat, rCatT, tKGet, cx_w, bk_w, tDGet, tDisp, tPairs, tDNewK, cx_P]
    rw [e0]
    refine ⟨g, rows, rules, _, ra, vs', i, rfl, gt, h100, SS gs _ _ hra, DAts.same (SS gs) hru, by omega, hpr, fun H6 g6 => ?_⟩
    refine ⟨GrH.then gs g6 (fun L e h => ⟨hP.le e, fun r hr => ?_⟩), _, rfl⟩
    rcases Nat.lt_or_eq_of_le (Nat.le_of_lt_succ hr) with z | z
    · exact fun q hq hi h0 => e.has (hR r z q hq hi h0)
    · rw [z]; exact np h (Le.refl _)
  obtain ⟨o1, o2, o3, o4, ⟨gs, t, gt, hP, hC⟩, rfl⟩ := h
  rw [List.nil_append] at gt hP hC
  refine seq_abs fun N hN => ?_
  simp only [tSeq, tFor_eq, tLC_eq, iRng1, iRng2, iList, iTup, iStr, tIfS, tRet, tRetN, tNext, tAsg, gName, tVar, tC, tOp, rI0, rI, tTest, tB, rEq, rNe, tCall, tCons, tNil, tCB, tLst, tTup, tAnd, tOr, tNot, tAndV, tOrV, tNotV, tIf, tDrop, tSl, tPart, tNoPart, tChain, tUn, rU, L2.start, cx_K, bk_K, cx_calm, bk_calm, lenV_str, and_assoc, Option.join, List.length_map, List.length_append, decide_eq_true_eq, Bool.false_eq_true, if_false, if_true, Bool.not_true, Bool.not_false, Bool.not_eq_true', decide_eq_false_iff_not, Bool.true_eq_false, List.length_cons, List.length_nil, List.map_cons, List.map_nil, List.replicate, List.cons_append, List.nil_append, List.append_nil, List.getElem?_cons_zero, List.getElem?_cons_succ, List.set_cons_zero, List.set_cons_succ, Nat.reduceSub, Nat.reduceAdd, Option.some.injEq, V.int.injEq, V.str.injEq, V.bl.injEq, V.ref.injEq, List.cons.injEq, and_true, true_and, exists_eq_left', exists_eq_left, exists_and_left, exists_eq_right, exists_const, tBM, tBM0, rAppend, rPop, rIxL, rIxT, rIxS, rSlL, rSlT, rSlS, rCat, rCatT, tKGet, cx_w, bk_w, tDGet, tDisp, tPairs, tDNewK, cx_P]
  refine hN _ _ ?_
  clear hN
  refine seq_join (fun σ H' => ∃ (o1 o2 o3 o4 : Option V) (t : List Ln), SameG g H4 H' ∧ GrAt C H' g rows rules t ∧ Pl rows (2 * rows.length) rows.length t ∧ Cl rows rules t.length t ∧ σ = [some (V.ref sa), some (V.ref ra), some (V.ref g.r), some (V.ref pb), some (V.ref pw), o1, o2, o3, o4]) (fun N hN => ?_) (fun σ H' h => ?_)
  · simp only [tSeq, tFor_eq, tLC_eq, iRng1, iRng2, iList, iTup, iStr, tIfS, tRet, tRetN, tNext, tAsg, gName, tVar, tC, tOp, rI0, rI, tTest, tB, rEq, rNe, tCall, tCons, tNil, tCB, tLst, tTup, tAnd, tOr, tNot, tAndV, tOrV, tNotV, tIf, tDrop, tSl, tPart, tNoPart, tChain, tUn, rU, L2.start, cx_K, bk_K, cx_calm, bk_calm, lenV_str, and_assoc, Option.join, List.length_map, List.length_append, decide_eq_true_eq, Bool.false_eq_true, if_false, if_true, Bool.not_true, Bool.not_false, Bool.not_eq_true', decide_eq_false_iff_not, Bool.true_eq_false, List.length_cons, List.length_nil, List.map_cons, List.map_nil, List.replicate, List.cons_append, List.nil_append, List.append_nil, List.getElem?_cons_zero, List.getElem?_cons_succ, List.set_cons_zero, List.set_cons_succ, Nat.reduceSub, Nat.reduceAdd, Option.some.injEq, V.int.injEq, V.str.injEq, V.bl.injEq, V.ref.injEq, List.cons.injEq, and_true, true_and, exists_eq_left', exists_eq_left, exists_and_left, exists_eq_right, exists_const, tBM, tBM0, rAppend, rPop, rIxL, rIxT, rIxS, rSlL, rSlT, rSlS, rCat, rCatT, tKGet, cx_w, bk_w, tDGet, tDisp, tPairs, tDNewK, cx_P, tWhile]
    refine ⟨fun m σ H' => ∃ (k : Nat) (t : List Ln) (o1 o3 o4 : Option V), m = (2 * rows.length) * (2 * rows.length) - k ∧ k ≤ t.length ∧ SameG g H4 H' ∧ GrAt C H' g rows rules t ∧ Pl rows (2 * rows.length) rows.length t ∧ Cl rows rules k t ∧ σ = [some (V.ref sa), some (V.ref ra), some (V.ref g.r), some (V.ref pb), some (V.ref pw), o1, some (V.int k), o3, o4], ⟨_, 0, t, _, _, _, rfl, Nat.zero_le _, gs, gt, hP, hC, rfl⟩, fun m σ H' h => ?_⟩
    clear hP hC
    obtain ⟨k, t, o1, o3, o4, rfl, hk, gs, gt, hP, hC, rfl⟩ := h
    have htl := gt.ok.len
    obtain ⟨dx, hins⟩ := gt.ins
    obtain ⟨ws, hl, hws⟩ := gt.lin
    have hwl := mapLen hws
    simp only [tSeq, tFor_eq, tLC_eq, iRng1, iRng2, iList, iTup, iStr, tIfS, tRet, tRetN, tNext, tAsg, gName, tVar, tC, tOp, rI0, rI, tTest, tB, rEq, rNe, tCall, tCons, tNil, tCB, tLst, tTup, tAnd, tOr, tNot, tAndV, tOrV, tNotV, tIf, tDrop, tSl, tPart, tNoPart, tChain, tUn, rU, L2.start, cx_K, bk_K, cx_calm, bk_calm, lenV_str, and_assoc, Option.join, List.length_map, List.length_append, decide_eq_true_eq, Bool.false_eq_true, if_false, if_true, Bool.not_true, Bool.not_false, Bool.not_eq_true', decide_eq_false_iff_not, Bool.true_eq_false, List.length_cons, List.length_nil, List.map_cons, List.map_nil, List.replicate, List.cons_append, List.nil_append, List.append_nil, List.getElem?_cons_zero, List.getElem?_cons_succ, List.set_cons_zero, List.set_cons_succ, Nat.reduceSub, Nat.reduceAdd, Option.some.injEq, V.int.injEq, V.str.injEq, V.bl.injEq, V.ref.injEq, List.cons.injEq, and_true, true_and, exists_eq_left', exists_eq_left, exists_and_left, exists_eq_right, exists_const, tBM, tBM0, rAppend, rPop, rIxL, rIxT, rIxS, rSlL, rSlT, rSlS, rCat, rCatT, tKGet, cx_w, bk_w, tDGet, tDisp, tPairs, tDNewK, cx_P, tFld]
    refine ⟨_, _, _, hins, T.cl, T.nL, _, gr_l g, ws.length, .inl ⟨_, SqL.of hl, rfl⟩, ?_⟩
    by_cases hkl : k < t.length
    case neg =>
      rw [if_neg (by omega)]
      rw [show k = t.length by omega] at hC
      exact hN _ _ ⟨_, _, _, _, t, gs, gt, hP, hC, rfl⟩
    rw [if_pos (by omega)]
    have hlk : t[k]? = some t[k] := List.getElem?_eq_getElem hkl
    have hrng := step_rng (gt.ok.snd k _ hlk)
    generalize t[k] = l0 at hlk hrng
    obtain ⟨i, hi⟩ : ∃ i : Nat, l0.i = (i : Int) := Int.eq_ofNat_of_zero_le hrng.1.1
    obtain ⟨j, hj⟩ : ∃ j : Nat, l0.j = (j : Int) := Int.eq_ofNat_of_zero_le hrng.2.1
    obtain ⟨v, hv, hvd⟩ := DAts.get (d := dLn l0) hws (by rw [List.getElem?_map, hlk]; rfl)
    obtain ⟨xa, u, rfl, hxa, _⟩ := lnAt hvd
    rw [hi, hj] at hxa hrng
    have hh : hasP t i j = true := hasP_iff.mpr ⟨k, l0, hlk, hi, hj⟩
    refine ⟨fun σ' H'' => ∃ (t' : List Ln) (o1 o3 o4 : Option V), k + 1 ≤ t'.length ∧ SameG g H4 H'' ∧ GrAt C H'' g rows rules t' ∧ Pl rows (2 * rows.length) rows.length t' ∧ Cl rows rules (k + 1) t' ∧ σ' = [some (V.ref sa), some (V.ref ra), some (V.ref g.r), some (V.ref pb), some (V.ref pw), o1, some (V.int ((k + 1 : Nat) : Int)), o3, o4], fun σ' H'' h => ?_, ?_⟩
    · obtain ⟨t', o1, o3, o4, h1, h2, h3, h4, h5, rfl⟩ := h
      exact ⟨_, by omega, k + 1, rfl, t', h1, h2, h3, h4, h5, _, _, _, rfl⟩
    refine ⟨_, _, _, hins, T.cl, T.nL, _, gr_l g, _, rfl, _, SqL.of hl, _, atI_nat hv, _, rfl, _, SqT.of hxa, _, at0, ?_⟩
    refine ⟨_, _, _, hins, T.cl, T.nL, _, gr_l g, _, rfl, _, SqL.of hl, _, atI_nat hv, _, rfl, _, SqT.of hxa, _, at1, ?_⟩
    refine ⟨g, rows, rules, t, i, j, rfl, gt, h100, hh, fun H6 g6 => ?_⟩
    obtain ⟨gs6, t6, gt6, rt⟩ := g6
    replace gs := gs.trans gs6
    refine ⟨g, rows, rules, _, i, j, rfl, gt6, h100, hasP_more hh, fun H7 g7 => ?_⟩
    obtain ⟨gs7, t7, gt7, rc⟩ := g7
    replace gs := gs.trans gs7
    have hjl : j < qs.length := by omega
    obtain ⟨us1, hu1, _, ht1⟩ := hbo qs[j] (List.getElem_mem hjl)
    have tu := hg.tups gs
    refine ⟨_, _, rfl, SqL.of (gs.out outb hpb), _, atI_nat (by rw [List.getElem?_map, List.getElem?_eq_getElem hjl]; rfl), ?_⟩
    refine ⟨g, rows, rules, _, i, qs[j], us1, rfl, gt7, h100, by omega, gs.out (outq _ (List.getElem_mem hjl)) hu1, outq _ (List.getElem_mem hjl), fun v hv => (ht1 v hv).tups tu, hin, fun H8 g8 => ?_⟩
    obtain ⟨gs8, t8, gt8, rb⟩ := g8
    replace gs := gs.trans gs8
    refine ⟨g, rows, rules, _, i, j, rfl, gt8, h100, hasP_more (hasP_more (hasP_more hh)), fun H9 g9 => ?_⟩
    obtain ⟨gs9, t9, gt9, rx⟩ := g9
    replace gs := gs.trans gs9
    have hk9 : k + 1 ≤ ((((t ++ t6) ++ t7) ++ t8) ++ t9).length := by simp only [List.length_append]; omega
    have h1 : hasP ((((t ++ t6) ++ t7) ++ t8) ++ t9) ((tnN j : Nat) : Int) ((tnN i : Nat) : Int) = true := hasP_more (hasP_more (hasP_more rt))
    have h2 : ∀ m : Nat, hasP t j m = true → hasP ((((t ++ t6) ++ t7) ++ t8) ++ t9) i m = true := fun m hm => hasP_more (hasP_more (rc.1 m (hasP_more hm)))
    have h3 : ∀ m : Nat, hasP t m i = true → hasP ((((t ++ t6) ++ t7) ++ t8) ++ t9) m j = true := fun m hm => hasP_more (hasP_more (rc.2 m (hasP_more hm)))
    have h4 : ∀ (n : Nat) (x y : Int), rows[n]? = some (.bo x y) → ((j : Int) = x ∨ (j : Int) = y) → hasP t i x = true → hasP t i y = true → hasP ((((t ++ t6) ++ t7) ++ t8) ++ t9) i ((2 * n : Nat) : Int) = true := fun n x y hn hxy hx hy => by
      obtain ⟨us', t', g1, g2, g3⟩ := hbc n x y (List.getElem?_eq_some_iff.mp hn).1 hn j qs[j] hxy (List.getElem?_eq_getElem hjl)
      rw [hu1] at g1
      cases g1
      exact hasP_more (rb t' n x y g2 (tu _ _ g3) (hasP_more (hasP_more hx)) (hasP_more (hasP_more hy)))
    have h5 : (j : Int) = tn1 i → ∀ n : Nat, n < 2 * rows.length → hasP ((((t ++ t6) ++ t7) ++ t8) ++ t9) i n = true := rx
    have ett : Le t ((((t ++ t6) ++ t7) ++ t8) ++ t9) := ⟨t6 ++ (t7 ++ (t8 ++ t9)), by simp [List.append_assoc]⟩
    generalize (((t ++ t6) ++ t7) ++ t8) ++ t9 = tt at gt9 hk9 h1 h2 h3 h4 h5 ett
    clear rt rc rb rx
    clear gs6 gt6 gs7 gt7 gs8 gt8 gs9 tu hins hl hws htl gt
    simp only [tSeq, tFor_eq, tLC_eq, iRng1, iRng2, iList, iTup, iStr, tIfS, tRet, tRetN, tNext, tAsg, gName, tVar, tC, tOp, rI0, rI, tTest, tB, rEq, rNe, tCall, tCons, tNil, tCB, tLst, tTup, tAnd, tOr, tNot, tAndV, tOrV, tNotV, tIf, tDrop, tSl, tPart, tNoPart, tChain, tUn, rU, L2.start, cx_K, bk_K, cx_calm, bk_calm, lenV_str, and_assoc, Option.join, List.length_map, List.length_append, decide_eq_true_eq, Bool.false_eq_true, if_false, if_true, Bool.not_true, Bool.not_false, Bool.not_eq_true', decide_eq_false_iff_not, Bool.true_eq_false, List.length_cons, List.length_nil, List.map_cons, List.map_nil, List.replicate, List.cons_append, List.nil_append, List.append_nil, List.getElem?_cons_zero, List.getElem?_cons_succ, List.set_cons_zero, List.set_cons_succ, Nat.reduceSub, Nat.reduceAdd, Option.some.injEq, V.int.injEq, V.str.injEq, V.bl.injEq, V.ref.injEq, List.cons.injEq, and_true, true_and, exists_eq_left', exists_eq_left, exists_and_left, exists_eq_right, exists_const, tBM, tBM0, rAppend, rPop, rIxL, rIxT, rIxS, rSlL, rSlT, rSlS, rCat, rCatT, tKGet, cx_w, bk_w, tDGet, tDisp, tPairs, tDNewK, cx_P, tDGet2]
    have hpw9 := gs.out outw hpw
    refine ⟨.inr ⟨_, .inl hpw9⟩, small (by decide), fun p hp => ⟨Nat.zero_le _, fun p1 hp1 => ?_⟩⟩
    have s10 := (same_new hp (.tup [V.int i, V.int j])).trans (same_new hp1 (.lst []))
    have kp : upd (upd H9 p (.tup [V.int i, V.int j])) p1 (.lst []) p = some (.tup [V.int i, V.int j]) := same_new hp1 (.lst []) _ _ upd_same
    have kp1 : upd (upd H9 p (.tup [V.int i, V.int j])) p1 (.lst []) p1 = some (.lst []) := upd_same
    have op1 := (gt9.same (same_new hp (.tup [V.int i, V.int j]))).out hp1
    generalize upd (upd H9 p (.tup [V.int i, V.int j])) p1 (.lst []) = H10 at s10 kp kp1 ⊢
    have hq : ∃ (q : Addr) (ns : List Nat), (valV kvs (key2 i j)).getD (.ref p1) = .ref q ∧ H10 q = some (.lst (ns.map nV)) ∧ OutG g q ∧ (∀ x ∈ ns, x < rules.length) ∧ ∀ r, WaI H4 kvs ((i : Int), (j : Int)) r → r ∈ ns := by
      cases hv : valV kvs (key2 i j) with
      | none => exact ⟨p1, [], rfl, kp1, op1, (fun x z => by cases z), fun r ⟨q, ns, g1, _⟩ => by rw [show valV kvs (key2 (i : Int) (j : Int)) = none from hv] at g1; cases g1⟩
      | some v =>
        obtain ⟨kv, hkv, rfl⟩ := valV_mem hv
        obtain ⟨q', ns', g1, g2, g3, g4⟩ := hwa' kv hkv
        refine ⟨q', ns', g1, s10 _ _ (gs.out g3 g2), g3, g4, fun r ⟨q, ns, w1, w2, w3⟩ => ?_⟩
        rw [show valV kvs (key2 (i : Int) (j : Int)) = some kv.2 from hv, g1] at w1
        have e1 := V.ref.inj (Option.some.inj w1)
        subst e1
        rw [g2] at w2
        rw [nV_inj (HO.lst.inj (Option.some.inj w2))]
        exact w3
    obtain ⟨qa, ns, hqa1, hqa2, hqa3, hqa4, hqa5⟩ := hq
    refine ⟨_, .inr ⟨_, key2 i j, p, .inl (s10 _ _ hpw9), rfl, kp, rfl⟩, qa, hqa1, ⟨_, SqL.of hqa2⟩, ?_⟩
    replace gs := gs.trans (Same.g s10)
    replace gt9 := gt9.same s10
    clear s10 kp kp1 hp hp1 op1 hqa1
    refine fw_list (xs := ns.map nV) (fun m σ H' => ∃ (o1 : Option V) (t' : List Ln), k + 1 ≤ t'.length ∧ SameG g H4 H' ∧ SameG g H10 H' ∧ GrAt C H' g rows rules t' ∧ Le tt t' ∧ (∀ r ∈ ns.take m, ∀ q : NRul, rules[r]? = some q → InR rows q → (∀ p ∈ q.1, hasP tt p.1 p.2 = true) → hasP t' q.2.1 q.2.2 = true) ∧ σ = [some (V.ref sa), some (V.ref ra), some (V.ref g.r), some (V.ref pb), some (V.ref pw), o1, some (V.int k), some (V.int i), some (V.int j)]) ⟨_, tt, hk9, gs, Same.g (Same.refl _), gt9, Le.refl _, (fun r z => by cases z), rfl⟩ (fun m σ H' _ h => ?_) (fun m x σ H' hx h => ?_) (fun σ H' h => ?_)
    · obtain ⟨_, _, _, _, h, _⟩ := h
      exact SqL.of (h.out hqa3 hqa2)
    · obtain ⟨o1, t', hk', gs', gs2', gt', le', hR, rfl⟩ := h
      rw [List.getElem?_map] at hx
      obtain ⟨x', hx', rfl⟩ := Option.map_eq_some_iff.mp hx
      simp only [tSeq, tFor_eq, tLC_eq, iRng1, iRng2, iList, iTup, iStr, tIfS, tRet, tRetN, tNext, tAsg, gName, tVar, tC, tOp, rI0, rI, tTest, tB, rEq, rNe, tCall, tCons, tNil, tCB, tLst, tTup, tAnd, tOr, tNot, tAndV, tOrV, tNotV, tIf, tDrop, tSl, tPart, tNoPart, tChain, tUn, rU, L2.start, cx_K, bk_K, cx_calm, bk_calm, lenV_str, and_assoc, Option.join, List.length_map, List.length_append, decide_eq_true_eq, Bool.false_eq_true, if_false, if_true, Bool.not_true, Bool.not_false, Bool.not_eq_true', decide_eq_false_iff_not, Bool.true_eq_false, List.length_cons, List.length_nil, List.map_cons, List.map_nil, List.replicate, List.cons_append, List.nil_append, List.append_nil, List.getElem?_cons_zero, List.getElem?_cons_succ, List.set_cons_zero, List.set_cons_succ, Nat.reduceSub, Nat.reduceAdd, Option.some.injEq, V.int.injEq, V.str.injEq, V.bl.injEq, V.ref.injEq, List.cons.injEq, and_true, true_and, exists_eq_left', exists_eq_left, exists_and_left, exists_eq_right, exists_const, tBM, tBM0, rAppend, rPop, rIxL, rIxT, rIxS, rSlL, rSlT, rSlS, rCat, rCatT, tKGet, cx_w, bk_w, tDGet, tDisp, tPairs, tDNewK, cx_P]
      refine ⟨g, rows, rules, _, ra, vs', x', rfl, gt', h100, SS gs' _ _ hra, DAts.same (SS gs') hru, hqa4 _ (List.mem_of_getElem? hx'), hpr, fun H6 g6 => ?_⟩
      obtain ⟨gs6, t6, gt6, rr⟩ := g6
      refine ⟨_, t' ++ t6, by rw [List.length_append]; omega, gs'.trans gs6, gs2'.trans gs6, gt6, le'.trans ⟨t6, rfl⟩, fun r hr q hq hi0 hp0 => ?_, rfl⟩
      obtain ⟨hkl', hke⟩ := List.getElem?_eq_some_iff.mp hx'
      rw [List.take_succ_eq_append_getElem hkl', hke] at hr
      rcases List.mem_append.mp hr with hr | hr
      · exact hasP_more (hR r hr q hq hi0 hp0)
      · rw [List.mem_singleton.mp hr] at hq
        exact rr q hq hi0 fun p hp => le'.has (hp0 p hp)
    · obtain ⟨o1, t', hk', gs', gs2', gt', le', hR, rfl⟩ := h
      rw [List.length_map, List.take_of_length_le (Nat.le_refl _)] at hR
      have e9 := ett.trans le'
      have hC' : Cl rows rules (k + 1) t' := hC.step e9 hlk hi hj (le'.has h1) (fun m hm => le'.has (h2 m hm)) (fun m hm => le'.has (h3 m hm)) (fun n x y a b c d => le'.has (h4 n x y a b c d)) (fun a n b => le'.has (h5 a n b)) (fun r q hr hir hin' hp => ?_)
      · simp only [tSeq, tFor_eq, tLC_eq, iRng1, iRng2, iList, iTup, iStr, tIfS, tRet, tRetN, tNext, tAsg, gName, tVar, tC, tOp, rI0, rI, tTest, tB, rEq, rNe, tCall, tCons, tNil, tCB, tLst, tTup, tAnd, tOr, tNot, tAndV, tOrV, tNotV, tIf, tDrop, tSl, tPart, tNoPart, tChain, tUn, rU, L2.start, cx_K, bk_K, cx_calm, bk_calm, lenV_str, and_assoc, Option.join, List.length_map, List.length_append, decide_eq_true_eq, Bool.false_eq_true, if_false, if_true, Bool.not_true, Bool.not_false, Bool.not_eq_true', decide_eq_false_iff_not, Bool.true_eq_false, List.length_cons, List.length_nil, List.map_cons, List.map_nil, List.replicate, List.cons_append, List.nil_append, List.append_nil, List.getElem?_cons_zero, List.getElem?_cons_succ, List.set_cons_zero, List.set_cons_succ, Nat.reduceSub, Nat.reduceAdd, Option.some.injEq, V.int.injEq, V.str.injEq, V.bl.injEq, V.ref.injEq, List.cons.injEq, and_true, true_and, exists_eq_left', exists_eq_left, exists_and_left, exists_eq_right, exists_const, tBM, tBM0, rAppend, rPop, rIxL, rIxT, rIxS, rSlL, rSlT, rSlS, rCat, rCatT, tKGet, cx_w, bk_w, tDGet, tDisp, tPairs, tDNewK, cx_P, tAug, ipI]
        exact ⟨t', hk', gs', gt', hP.le e9, hC', by omega, _, rfl⟩
      · obtain ⟨x, hx⟩ := List.getElem?_of_mem hin'
        exact hR r (hqa5 r (hwc r q x _ hr hx (.inl (List.getElem?_eq_some_iff.mp hr).1))) q hr hir fun p hpq => ett.has (hp p hpq)
  obtain ⟨o1, o2, o3, o4, t, gs, gt, hP, hC, rfl⟩ := h
  obtain ⟨dx, hins⟩ := gt.ins
  obtain ⟨ws, hl, hws⟩ := gt.lin
  simp only [tSeq, tFor_eq, tLC_eq, iRng1, iRng2, iList, iTup, iStr, tIfS, tRet, tRetN, tNext, tAsg, gName, tVar, tC, tOp, rI0, rI, tTest, tB, rEq, rNe, tCall, tCons, tNil, tCB, tLst, tTup, tAnd, tOr, tNot, tAndV, tOrV, tNotV, tIf, tDrop, tSl, tPart, tNoPart, tChain, tUn, rU, L2.start, cx_K, bk_K, cx_calm, bk_calm, lenV_str, and_assoc, Option.join, List.length_map, List.length_append, decide_eq_true_eq, Bool.false_eq_true, if_false, if_true, Bool.not_true, Bool.not_false, Bool.not_eq_true', decide_eq_false_iff_not, Bool.true_eq_false, List.length_cons, List.length_nil, List.map_cons, List.map_nil, List.replicate, List.cons_append, List.nil_append, List.append_nil, List.getElem?_cons_zero, List.getElem?_cons_succ, List.set_cons_zero, List.set_cons_succ, Nat.reduceSub, Nat.reduceAdd, Option.some.injEq, V.int.injEq, V.str.injEq, V.bl.injEq, V.ref.injEq, List.cons.injEq, and_true, true_and, exists_eq_left', exists_eq_left, exists_and_left, exists_eq_right, exists_const, tBM, tBM0, rAppend, rPop, rIxL, rIxT, rIxS, rSlL, rSlT, rSlS, rCat, rCatT, tKGet, cx_w, bk_w, tDGet, tDisp, tPairs, tDNewK, cx_P, tFld]
  exact ⟨_, _, _, hins, T.cl, T.nL, _, gr_l g, q g.la ws t _ (SS gs) hl hws gt.ok hP hC⟩
end
end C
set_option Elab.async false
set_option linter.all false
set_option maxRecDepth 100000
set_option maxHeartbeats 8000000
namespace C
open PySem L2
seal PE PT PW PA PS PSs PG PGs PI PPs PO PSet PIf
abbrev In2 (n : Nat) (p : Pr) : Prop := (0 ≤ p.1 ∧ p.1 < (n : Int)) ∧ 0 ≤ p.2 ∧ p.2 < (n : Int)
structure Clo (rows : List Rw) (rules : List NRul) (X : Int → Int → Prop) : Prop where
  same : ∀ n : Nat, n < 2 * rows.length → X n n
  low : ∀ n : Nat, n < 2 * rows.length → X 0 n
  high : ∀ n : Nat, n < 2 * rows.length → X n 1
  part : ∀ (k : Nat) (x y : Int), rows[k]? = some (.bo x y) → X ((2 * k : Nat) : Int) x ∧ X ((2 * k : Nat) : Int) y
  clash : ∀ i j : Nat, i < 2 * rows.length → j < 2 * rows.length → X i (tn1 i) → X i j
  both : ∀ (i k : Nat) (x y : Int), i < 2 * rows.length → rows[k]? = some (.bo x y) → X i x → X i y → X i ((2 * k : Nat) : Int)
  chain : ∀ i m j : Nat, i < 2 * rows.length → m < 2 * rows.length → j < 2 * rows.length → X i m → X m j → X i j
  turn : ∀ i j : Nat, i < 2 * rows.length → j < 2 * rows.length → X i j → X (tn1 j) (tn1 i)
  rule : ∀ q ∈ rules, (∀ p ∈ q.1, X p.1 p.2) → X q.2.1 q.2.2
theorem parts_bo {rows : List Rw} {n : Nat} {x : Int} (h : x ∈ parts rows n) : ∃ (k : Nat) (a b : Int), n = 2 * k ∧ rows[k]? = some (.bo a b) ∧ parts rows n = [a, b] := by
  unfold parts at h ⊢
  by_cases h2 : (n : Int) % 2 = 0
  · rw [if_pos h2] at h ⊢
    have e : ((n : Int) / 2).toNat = n / 2 := by omega
    rw [e] at h ⊢
    cases hr : rows[n / 2]? with
    | none => rw [hr] at h; cases h
    | some r =>
      rw [hr] at h
      cases r with
      | no => cases h
      | nm y => cases h
      | bo a b => exact ⟨n / 2, a, b, by omega, hr, rfl⟩
  · rw [if_neg h2] at h
    cases h
theorem lines_in {rows : List Rw} {rules : List NRul} {ls : List Ln} {X : Int → Int → Prop} (c : Clo rows rules X) (h : GOk rows rules ls) : ∀ (k : Nat) (l : Ln), ls[k]? = some l → X l.i l.j := by
  intro k
  induction k using Nat.strongRecOn with
  | ind k ih =>
    intro l hl
    have hs := h.snd k l hl
    have hr := step_rng hs
    have sd : ∀ (a : Wt) (p : Pr), said ls k a = some p → In2 (2 * rows.length) p ∧ X p.1 p.2 := fun a p hp => by
      cases a with
      | ps _ => cases hp
      | n i =>
        by_cases hi : 0 ≤ i ∧ i < (k : Int)
        · cases hq : ls[i.toNat]? with
          | none =>
            have : said ls k (.n i) = none := by
              show (if 0 ≤ i ∧ i < (k : Int) then (ls[i.toNat]?).map fun l => (l.i, l.j) else none) = _
              rw [if_pos hi, hq]
              rfl
            rw [this] at hp
            cases hp
          | some l' =>
            rw [said_pos hi hq] at hp
            cases hp
            have hr' := step_rng (h.snd _ l' hq)
            exact ⟨⟨⟨hr'.1.1, by have := hr'.1.2; show l'.i < _; omega⟩, hr'.2.1, by have := hr'.2.2; show l'.j < _; omega⟩, ih _ (by omega) l' hq⟩
        · rw [said_neg hi] at hp
          cases hp
    obtain ⟨⟨r1, r2⟩, r3, r4⟩ := hr
    unfold stepB at hs
    rw [if_neg (by rintro (z | z); exact z ⟨r1, r2⟩; exact z ⟨r3, r4⟩)] at hs
    split at hs
    · unfold ruleStep at hs
      split at hs
      · rename_i r ps _
        split at hs
        · rename_i hrr
          split at hs
          · rename_i q hq
            rw [Bool.and_eq_true, beq_iff_eq, beq_iff_eq] at hs
            have e1 : l.i = q.2.1 := congrArg Prod.fst hs.1
            have e2 : l.j = q.2.2 := congrArg Prod.snd hs.1
            rw [e1, e2]
            refine c.rule q (List.mem_of_getElem? hq) fun p hp => ?_
            have hm : some p ∈ ps.map fun p => said ls k (.n p) := by rw [hs.2]; exact List.mem_map.mpr ⟨p, hp, rfl⟩
            obtain ⟨x, _, hx⟩ := List.mem_map.mp hm
            exact (sd _ p hx).2
          · cases hs
        · cases hs
      · cases hs
    · split at hs
      · have hsd : ∀ p ∈ l.as.filterMap (said ls k), In2 (2 * rows.length) p ∧ X p.1 p.2 := fun p hp => by
          obtain ⟨a, _, ha⟩ := List.mem_filterMap.mp hp
          exact sd a p ha
        generalize l.as.filterMap (said ls k) = ps at hs hsd
        obtain ⟨i, hi⟩ : ∃ i : Nat, l.i = (i : Int) := Int.eq_ofNat_of_zero_le r1
        obtain ⟨j, hj⟩ : ∃ j : Nat, l.j = (j : Int) := Int.eq_ofNat_of_zero_le r3
        rw [hi] at r2 hs ⊢
        rw [hj] at r4 hs ⊢
        have ri : i < 2 * rows.length := by omega
        have rj : j < 2 * rows.length := by omega
        unfold stepFrom at hs
        split at hs
        · rw [beq_iff_eq] at hs
          rw [← hs]
          exact c.same i ri
        split at hs
        · rw [Bool.or_eq_true, beq_iff_eq, beq_iff_eq] at hs
          rcases hs with e | e
          · rw [e]; exact c.low j rj
          · rw [e]; exact c.high i ri
        split at hs
        · rw [List.any_eq_true] at hs
          obtain ⟨x, hx, e⟩ := hs
          rw [beq_iff_eq] at e
          obtain ⟨m, a, b, e1, e2, e3⟩ := parts_bo hx
          rw [e3] at hx
          have := c.part m a b e2
          rw [e1, ← e]
          simp only [List.mem_cons, List.not_mem_nil, or_false] at hx
          rcases hx with rfl | rfl
          · exact this.1
          · exact this.2
        split at hs
        · split at hs
          · rename_i a b hp
            rw [beq_iff_eq] at hs
            obtain ⟨m, a', b', e1, e2, e3⟩ := parts_bo (show a ∈ parts rows j by rw [hp]; exact List.mem_cons_self)
            rw [hp] at e3
            cases e3
            have x1 := (hsd (i, a) (by rw [hs]; simp)).2
            have x2 := (hsd (i, b) (by rw [hs]; simp)).2
            rw [e1]
            exact c.both i m a b ri e2 x1 x2
          · cases hs
        split at hs
        · rw [beq_iff_eq] at hs
          have x1 := (hsd (tn1 j, tn1 i) (by rw [hs]; simp)).2
          rw [tnN_eq, tnN_eq] at x1
          have := c.turn (tnN j) (tnN i) (tnN_lt rj) (tnN_lt ri) x1
          rw [tnN_eq, tnN_eq, tnN_two, tnN_two] at this
          exact this
        split at hs
        · split at hs
          · rename_i p q
            rw [Bool.and_eq_true, Bool.and_eq_true, beq_iff_eq, beq_iff_eq, beq_iff_eq] at hs
            obtain ⟨p1, p2⟩ := hsd p (by simp)
            obtain ⟨q1, q2⟩ := hsd q (by simp)
            obtain ⟨m, hm⟩ : ∃ m : Nat, p.2 = (m : Int) := Int.eq_ofNat_of_zero_le p1.2.1
            have hmr := p1.2.2
            rw [hm] at hmr
            rw [hs.1.1, hm] at p2
            rw [← hs.1.2, hs.2, hm] at q2
            exact c.chain i m j ri (by omega) rj p2 q2
          · cases hs
        · rw [beq_iff_eq] at hs
          exact c.clash i j ri rj (hsd (i, tn1 i) (by rw [hs]; simp)).2
      · cases hs
theorem nodup_subG {α : Type} [DecidableEq α] : ∀ {l m : List α}, l.Nodup → (∀ x ∈ l, x ∈ m) → l.length ≤ m.length
  | [], m, _, _ => Nat.zero_le _
  | x :: l, m, hn, hs => by
    have hx : x ∈ m := hs x List.mem_cons_self
    have hn' := List.nodup_cons.mp hn
    have := nodup_subG (l := l) (m := m.erase x) hn'.2 fun y hy => by
      have hy' := hs y (List.mem_cons_of_mem _ hy)
      have hne : y ≠ x := fun e => hn'.1 (by rw [← e]; exact hy)
      exact (List.mem_erase_of_ne hne).mpr hy'
    rw [List.length_erase_of_mem hx] at this
    have := List.length_pos_of_mem hx
    rw [List.length_cons]
    omega
theorem sum_const (n : Nat) : ∀ l : List Nat, (l.map fun _ => n).sum = l.length * n
  | [] => by simp
  | x :: l => by rw [List.map_cons, List.sum_cons, sum_const n l, List.length_cons, Nat.succ_mul, Nat.add_comm]
def square (n : Nat) : List Pr := (List.range n).flatMap fun i : Nat => (List.range n).map fun j : Nat => ((i : Int), (j : Int))
theorem pairs_len {n : Nat} {S : List Pr} (hn : S.Nodup) (hr : ∀ p ∈ S, In2 n p) : S.length ≤ n * n := by
  have e : (square n).length = n * n := by
    unfold square
    rw [List.length_flatMap]
    simp only [List.length_map, List.length_range]
    rw [sum_const, List.length_range]
  rw [← e]
  refine nodup_subG hn fun p hp => ?_
  obtain ⟨⟨h1, h2⟩, h3, h4⟩ := hr p hp
  unfold square
  rw [List.mem_flatMap]
  refine ⟨p.1.toNat, List.mem_range.mpr (by omega), List.mem_map.mpr ⟨p.2.toNat, List.mem_range.mpr (by omega), Prod.ext ?_ ?_⟩⟩
  · show ((p.1.toNat : Nat) : Int) = p.1; omega
  · show ((p.2.toNat : Nat) : Int) = p.2; omega
def ins (S : List Pr) (p : Pr) : List Pr := if p ∈ S then S else S ++ [p]
theorem mem_ins (S : List Pr) (p : Pr) : p ∈ ins S p := by
  unfold ins
  split
  · assumption
  · simp
structure Stx (rows : List Rw) (rules : List NRul) (S S' : List Pr) : Prop where
  pre : ∃ t, S' = S ++ t
  nd : S.Nodup → S'.Nodup
  rng : (∀ p ∈ S, In2 (2 * rows.length) p) → ∀ p ∈ S', In2 (2 * rows.length) p
  snd : ∀ X, Clo rows rules X → (∀ p ∈ S, X p.1 p.2) → ∀ p ∈ S', X p.1 p.2
theorem Stx.refl {rows : List Rw} {rules : List NRul} (S : List Pr) : Stx rows rules S S := ⟨⟨[], by simp⟩, id, id, fun _ _ h => h⟩
theorem Stx.trans {rows : List Rw} {rules : List NRul} {S S1 S2 : List Pr} (a : Stx rows rules S S1) (b : Stx rows rules S1 S2) : Stx rows rules S S2 := by
  obtain ⟨t1, e1⟩ := a.pre
  obtain ⟨t2, e2⟩ := b.pre
  exact ⟨⟨t1 ++ t2, by rw [e2, e1, List.append_assoc]⟩, fun h => b.nd (a.nd h), fun h => b.rng (a.rng h), fun X c h => b.snd X c (a.snd X c h)⟩
theorem Stx.mem {rows : List Rw} {rules : List NRul} {S S' : List Pr} (a : Stx rows rules S S') {p : Pr} (h : p ∈ S) : p ∈ S' := by
  obtain ⟨t, e⟩ := a.pre
  rw [e]
  exact List.mem_append_left _ h
theorem Stx.ins {rows : List Rw} {rules : List NRul} {S : List Pr} {p : Pr} (hin : In2 (2 * rows.length) p) (j : ∀ X, Clo rows rules X → (∀ p ∈ S, X p.1 p.2) → X p.1 p.2) : Stx rows rules S (C.ins S p) := by
  unfold C.ins
  split
  · exact Stx.refl _
  · rename_i hn
    refine ⟨⟨[p], rfl⟩, fun h => ?_, fun h x hx => ?_, fun X c h x hx => ?_⟩
    · rw [List.nodup_append]
      refine ⟨h, by simp, fun a ha b hb e => ?_⟩
      rw [List.mem_singleton.mp hb] at e
      exact hn (e ▸ ha)
    · rcases List.mem_append.mp hx with hx | hx
      · exact h x hx
      · rw [List.mem_singleton.mp hx]; exact hin
    · rcases List.mem_append.mp hx with hx | hx
      · exact h x hx
      · rw [List.mem_singleton.mp hx]; exact j X c h
theorem Stx.eq {rows : List Rw} {rules : List NRul} {S S' : List Pr} (a : Stx rows rules S S') (h : S'.length ≤ S.length) : S' = S := by
  obtain ⟨t, e⟩ := a.pre
  have : t = [] := List.eq_nil_of_length_eq_zero (by rw [e, List.length_append] at h; omega)
  rw [e, this, List.append_nil]
def dS (S : List Pr) : List (List Key × V) := S.map fun p => (key2 p.1 p.2, V.bl true)
theorem dS_val {i j : Int} : ∀ (S : List Pr), ((i, j) ∈ S ∧ valV (dS S) (key2 i j) = some (.bl true)) ∨ ((i, j) ∉ S ∧ valV (dS S) (key2 i j) = none)
  | [] => .inr ⟨by simp, rfl⟩
  | p :: S => by
    by_cases h : p.1 = i ∧ p.2 = j
    · refine .inl ⟨?_, ?_⟩
      · rw [show (i, j) = p from Prod.ext h.1.symm h.2.symm]; exact List.mem_cons_self
      · show valV ((key2 p.1 p.2, V.bl true) :: dS S) (key2 i j) = _
        rw [h.1, h.2, valV_pos rfl]
    · have e : valV (dS (p :: S)) (key2 i j) = valV (dS S) (key2 i j) := valV_neg (fun z => h (key2_inj z))
      have ne : (i, j) ≠ p := fun z => h ⟨by rw [← z], by rw [← z]⟩
      rcases dS_val (i := i) (j := j) S with ⟨h1, h2⟩ | ⟨h1, h2⟩
      · exact .inl ⟨List.mem_cons_of_mem _ h1, e.trans h2⟩
      · exact .inr ⟨fun z => by rcases List.mem_cons.mp z with z | z; exact ne z; exact h1 z, e.trans h2⟩
theorem dS_has (S : List Pr) (i j : Int) : (valV (dS S) (key2 i j)).isSome = decide ((i, j) ∈ S) := by
  rcases dS_val (i := i) (j := j) S with ⟨h1, h2⟩ | ⟨h1, h2⟩
  · rw [h2, decide_eq_true h1]; rfl
  · rw [h2, decide_eq_false h1]; rfl
theorem dS_put (S : List Pr) (i j : Int) : putK (dS S) (key2 i j) (.bl true) = dS (ins S (i, j)) := by
  unfold ins
  rcases dS_val (i := i) (j := j) S with ⟨h1, h2⟩ | ⟨h1, h2⟩
  · rw [if_pos h1]
    unfold putK
    rw [if_pos (by rw [valV_any, h2]; rfl)]
    unfold dS
    rw [List.map_map]
    refine List.map_congr_left fun p _ => ?_
    show (if key2 p.1 p.2 = key2 i j then (key2 p.1 p.2, V.bl true) else (key2 p.1 p.2, V.bl true)) = _
    split <;> rfl
  · rw [if_neg h1, put_new h2]
    unfold dS
    rw [List.map_append]
    rfl
structure PD (pd : Addr) (rows : List Rw) (rules : List NRul) (H0 : Hp) (S0 : List Pr) (H : Hp) (S : List Pr) : Prop where
  was : ∃ kvs, H0 pd = some (.dT kvs)
  same : ∀ b o, b ≠ pd → H0 b = some o → H b = some o
  now : H pd = some (.dT (dS S))
  st : Stx rows rules S0 S
section
variable {pd p : Addr} {rows : List Rw} {rules : List NRul} {H0 H : Hp} {S0 S : List Pr} {i j : Int}
theorem PD.new (h : PD pd rows rules H0 S0 H S) (hp : H p = none) (o : HO) : PD pd rows rules H0 S0 (upd H p o) S :=
  have e := same_new hp o
  ⟨h.was, fun b u hb hu => e _ _ (h.same b u hb hu), e _ _ h.now, h.st⟩
theorem PD.put (h : PD pd rows rules H0 S0 H S) (hp : H p = none) (hin : In2 (2 * rows.length) (i, j)) (jj : ∀ X, Clo rows rules X → (∀ p ∈ S, X p.1 p.2) → X i j) :
    PD pd rows rules H0 S0 (upd (upd H p (.tup [.int i, .int j])) pd (.dT (dS (ins S (i, j))))) (ins S (i, j)) := by
  have e := same_new hp (.tup [.int i, .int j])
  refine ⟨h.was, fun b u hb hu => ?_, upd_same, h.st.trans (Stx.ins hin jj)⟩
  rw [upd_ne hb]
  exact e _ _ (h.same b u hb hu)
theorem PD.dput (h : PD pd rows rules H0 S0 H S) (hp : H p = none) (hl : S.length ≤ 40000) : DPut (upd H p (.tup [.int i, .int j])) pd (.ref p) (.bl true) (upd (upd H p (.tup [.int i, .int j])) pd (.dT (dS (ins S (i, j))))) := by
  refine .inr ⟨dS S, key2 i j, p, same_new hp _ _ _ h.now, rfl, upd_same, Nat.lt_of_le_of_lt (m := 100000) (by unfold dS; rw [List.length_map]; omega) (by decide), ?_⟩
  rw [dS_put]
theorem PD.dget (h : PD pd rows rules H0 S0 H S) (hp : H p = some (.tup [.int i, .int j])) : DGet H pd (.ref p) (valV (dS S) (key2 i j)) := .inr ⟨_, key2 i j, p, .inl h.now, rfl, hp, rfl⟩
theorem PD.tups (h : PD pd rows rules H0 S0 H S) : TupSame H0 H := fun b xs hb => h.same b _ (fun z => by
  obtain ⟨kvs, hk⟩ := h.was
  rw [z, hk] at hb
  cases hb) hb
theorem PD.lst (h : PD pd rows rules H0 S0 H S) {b : Addr} {xs : List V} (hb : H0 b = some (.lst xs)) : H b = some (.lst xs) := h.same b _ (fun z => by
  obtain ⟨kvs, hk⟩ := h.was
  rw [z, hk] at hb
  cases hb) hb
theorem PD.trans {H1 : Hp} {S1 : List Pr} (a : PD pd rows rules H0 S0 H1 S1) (b : PD pd rows rules H1 S1 H S) : PD pd rows rules H0 S0 H S := ⟨a.was, fun c o hc ho => b.same c o hc (a.same c o hc ho), b.now, a.st.trans b.st⟩
end
mutual
theorem DAt.keep {H H' : Hp} (ht : TupSame H H') (hl : ∀ b xs, H b = some (.lst xs) → H' b = some (.lst xs)) : ∀ {d : Dt} {v : V}, DAt H d v → DAt H' d v
  | .int _, v, h => h
  | .str _, v, h => h
  | .bl _, v, h => h
  | .non, v, h => h
  | .tup ds, v, h => by
    obtain ⟨a, vs, e1, e2, e3⟩ := h
    exact ⟨a, vs, e1, ht _ _ e2, DAts.keep ht hl e3⟩
  | .lst ds, v, h => by
    obtain ⟨a, vs, e1, e2, e3⟩ := h
    exact ⟨a, vs, e1, hl _ _ e2, DAts.keep ht hl e3⟩
theorem DAts.keep {H H' : Hp} (ht : TupSame H H') (hl : ∀ b xs, H b = some (.lst xs) → H' b = some (.lst xs)) : ∀ {ds : List Dt} {vs : List V}, DAts H ds vs → DAts H' ds vs
  | [], _, h => h
  | d :: ds, vs, h => by
    obtain ⟨v, r, e1, e2, e3⟩ := h
    exact ⟨v, r, e1, DAt.keep ht hl e2, DAts.keep ht hl e3⟩
end
theorem TAtsD {pd : Addr} {rows : List Rw} {rules : List NRul} {H0 H : Hp} {S0 S : List Pr} (D : PD pd rows rules H0 S0 H S) {ds : List Dt} {vs : List V} (h : DAts H0 ds vs) : DAts H ds vs := DAts.keep D.tups (fun b xs hb => D.lst hb) h
end C
set_option Elab.async false
set_option linter.all false
set_option maxRecDepth 100000
set_option maxHeartbeats 8000000
namespace C
open PySem L2
seal PE PT PW PA PS PSs PG PGs PI PPs PO PSet PIf
abbrev s_law_pass_alone : Stmt := top 21
theorem sc_law_pass_alone : FnScope ["rows", "top", "pairs", "i", "j", "k"] ["rows", "top", "pairs"] (defScope s_law_pass_alone) := ⟨rfl, rfl, rfl, by decide +kernel, rfl, by decide +kernel, by decide +kernel⟩
abbrev s_law_pass_chains : Stmt := top 22
theorem sc_law_pass_chains : FnScope ["top", "pairs", "m", "downs", "ups", "i", "j"] ["top", "pairs"] (defScope s_law_pass_chains) := ⟨rfl, rfl, rfl, by decide +kernel, rfl, by decide +kernel, by decide +kernel⟩
abbrev s_law_pass_rules : Stmt := top 23
theorem sc_law_pass_rules : FnScope ["rules", "pairs", "rule", "lacking"] ["rules", "pairs"] (defScope s_law_pass_rules) := ⟨rfl, rfl, rfl, by decide +kernel, rfl, by decide +kernel, by decide +kernel⟩
structure A1 (rows : List Rw) (n m : Nat) (S S' : List Pr) : Prop where
  same : ∀ x : Nat, x < n → ((x : Int), (x : Int)) ∈ S'
  low : ∀ x : Nat, x < n → ((0 : Int), (x : Int)) ∈ S'
  high : ∀ x : Nat, x < n → ((x : Int), (1 : Int)) ∈ S'
  clash : ∀ x : Nat, x < n → ((x : Int), tn1 x) ∈ S → ∀ j : Nat, j < 2 * rows.length → ((x : Int), (j : Int)) ∈ S'
  part : ∀ (k : Nat) (a b : Int), k < m → rows[k]? = some (.bo a b) → (((2 * k : Nat) : Int), a) ∈ S' ∧ (((2 * k : Nat) : Int), b) ∈ S'
  both : ∀ (k : Nat) (a b : Int), k < m → rows[k]? = some (.bo a b) → ∀ i : Nat, i < 2 * rows.length → ((i : Int), a) ∈ S → ((i : Int), b) ∈ S → ((i : Int), ((2 * k : Nat) : Int)) ∈ S'
theorem A1.le {rows : List Rw} {n m : Nat} {S S' S2 : List Pr} (h : A1 rows n m S S') (e : ∀ p ∈ S', p ∈ S2) : A1 rows n m S S2 :=
  ⟨fun x hx => e _ (h.same x hx), fun x hx => e _ (h.low x hx), fun x hx => e _ (h.high x hx), fun x hx hc j hj => e _ (h.clash x hx hc j hj), fun k a b hk hr => ⟨e _ (h.part k a b hk hr).1, e _ (h.part k a b hk hr).2⟩, fun k a b hk hr i hi h1 h2 => e _ (h.both k a b hk hr i hi h1 h2)⟩
theorem A1.up {rows : List Rw} {n : Nat} {S S' : List Pr} (h : A1 rows n 0 S S') (h1 : ((n : Int), (n : Int)) ∈ S') (h2 : ((0 : Int), (n : Int)) ∈ S') (h3 : ((n : Int), (1 : Int)) ∈ S') (h4 : ((n : Int), tn1 n) ∈ S → ∀ j : Nat, j < 2 * rows.length → ((n : Int), (j : Int)) ∈ S') : A1 rows (n + 1) 0 S S' := by
  have z : ∀ {x : Nat}, x < n + 1 → x < n ∨ x = n := fun hx => by omega
  refine ⟨fun x hx => ?_, fun x hx => ?_, fun x hx => ?_, fun x hx => ?_, h.part, h.both⟩ <;> rcases z hx with zx | rfl
  · exact h.same x zx
  · exact h1
  · exact h.low x zx
  · exact h2
  · exact h.high x zx
  · exact h3
  · exact h.clash x zx
  · exact h4
theorem A1.up2 {rows : List Rw} {n m : Nat} {S S' : List Pr} (h : A1 rows n m S S') (h1 : ∀ a b, rows[m]? = some (.bo a b) → (((2 * m : Nat) : Int), a) ∈ S' ∧ (((2 * m : Nat) : Int), b) ∈ S') (h2 : ∀ a b, rows[m]? = some (.bo a b) → ∀ i : Nat, i < 2 * rows.length → ((i : Int), a) ∈ S → ((i : Int), b) ∈ S → ((i : Int), ((2 * m : Nat) : Int)) ∈ S') : A1 rows n (m + 1) S S' := by
  have z : ∀ {x : Nat}, x < m + 1 → x < m ∨ x = m := fun hx => by omega
  refine ⟨h.same, h.low, h.high, h.clash, fun k a b hk => ?_, fun k a b hk => ?_⟩ <;> rcases z hk with zx | rfl
  · exact h.part k a b zx
  · exact h1 a b
  · exact h.both k a b zx
  · exact h2 a b
def spPA : Sp := fun vs H Q _ => ∃ (ra pd : Addr) (us : List V) (rows : List Rw) (rules : List NRul) (S : List Pr), vs = [.ref ra, .int ((2 * rows.length : Nat) : Int), .ref pd] ∧ H ra = some (.lst us) ∧ RwAts H rows us ∧ 1 ≤ rows.length ∧ rows.length ≤ 100 ∧ RowsIn rows ∧ H pd = some (.dT (dS S)) ∧ S.Nodup ∧ (∀ p ∈ S, In2 (2 * rows.length) p) ∧ ∀ S' H', PD pd rows rules H S H' S' → A1 rows (2 * rows.length) rows.length S S' → Q .non H'
def spPR : Sp := fun vs H Q _ => ∃ (ru pd : Addr) (ws : List V) (rows : List Rw) (rules : List NRul) (S : List Pr), vs = [.ref ru, .ref pd] ∧ H ru = some (.lst ws) ∧ DAts H (rules.map dNR) ws ∧ rows.length ≤ 100 ∧ (∀ r ∈ rules, r.1.length ≤ 100) ∧ (∀ r ∈ rules, InR rows r) ∧ H pd = some (.dT (dS S)) ∧ S.Nodup ∧ (∀ p ∈ S, In2 (2 * rows.length) p) ∧ ∀ S' H', PD pd rows rules H S H' S' → (∀ r ∈ rules, (∀ p ∈ r.1, p ∈ S) → r.2 ∈ S') → Q .non H'
def spPC : Sp := fun vs H Q _ => ∃ (pd : Addr) (rows : List Rw) (rules : List NRul) (S : List Pr), vs = [.int ((2 * rows.length : Nat) : Int), .ref pd] ∧ rows.length ≤ 100 ∧ H pd = some (.dT (dS S)) ∧ S.Nodup ∧ (∀ p ∈ S, In2 (2 * rows.length) p) ∧ ∀ S' H', PD pd rows rules H S H' S' → (∀ i m j : Nat, i < 2 * rows.length → m < 2 * rows.length → j < 2 * rows.length → ((i : Int), (m : Int)) ∈ S → ((m : Int), (j : Int)) ∈ S → ((i : Int), (j : Int)) ∈ S' ∧ (tn1 j, tn1 i) ∈ S') → Q .non H'
theorem PD.len {pd : Addr} {rows : List Rw} {rules : List NRul} {H0 H : Hp} {S0 S : List Pr} (h : PD pd rows rules H0 S0 H S) (h1 : S0.Nodup) (h2 : ∀ p ∈ S0, In2 (2 * rows.length) p) (h100 : rows.length ≤ 100) : S.length ≤ 40000 := by
  have a := pairs_len (h.st.nd h1) (h.st.rng h2)
  have b : (2 * rows.length) * (2 * rows.length) ≤ 200 * 200 := Nat.mul_le_mul (by omega) (by omega)
  omega
theorem mem_ins_of {S : List Pr} {p x : Pr} (h : p ∈ S) : p ∈ ins S x := by
  unfold ins
  split
  · exact h
  · exact List.mem_append_left _ h
theorem PD.step {pd p : Addr} {rows : List Rw} {rules : List NRul} {H0 H : Hp} {S0 S : List Pr} {i j : Int} (D : PD pd rows rules H0 S0 H S) (h1 : S0.Nodup) (h2 : ∀ p ∈ S0, In2 (2 * rows.length) p) (h100 : rows.length ≤ 100) (hp : H p = none) (hin : In2 (2 * rows.length) (i, j)) (jj : ∀ X, Clo rows rules X → (∀ p ∈ S, X p.1 p.2) → X i j) :
    ∃ G S', DPut (upd H p (.tup [.int i, .int j])) pd (.ref p) (.bl true) G ∧ PD pd rows rules H0 S0 G S' ∧ (i, j) ∈ S' ∧ ∀ q ∈ S, q ∈ S' :=
  ⟨_, _, D.dput hp (D.len h1 h2 h100), D.put hp hin jj, mem_ins _ _, fun _ hq => mem_ins_of hq⟩
section
variable {P : Program} {w : World} {K : PySem.W.Frag} {mg : Str → Option Value} {base : Heap} {f : Addr} {fd : FuncData}
theorem ok_pass_alone (bi : Bi mg) (h_law_turned : Has P w K mg base 1 "_law_turned" ["n"] spTurned) (F : Fun K "_law_pass_alone" "_law_pass_alone" s_law_pass_alone f fd) : FnOk P w K mg base CX0 2 f fd ["rows", "top", "pairs"] spPA := by
  refine F.ok sc_law_pass_alone (fun vs H Q E h => ?_) (fun cdv A outer s H vs Q E hr h => ?_)
  · obtain ⟨ra, pd, us, rows, rules, S, rfl, _⟩ := h
    rfl
  obtain ⟨ra, pd, us, rows, rules, S, rfl, hra, hrw, h1, h100, hin, hpd, hnd, hrg, q⟩ := h
  have hul := mapLen hrw
  have D0 : PD pd rows rules H S H S := ⟨⟨_, hpd⟩, fun _ _ _ h => h, hpd, Stx.refl _⟩
  refine ⟨_, (pss_cons (ps_for PassesOwn.never rfl (pi_range1 rfl bi.range (pa_cons (pv 1) pa_nil)) (pg_name (i := 3) sc_law_pass_alone.nd rfl (Or.inl rfl)) (pss_cons (ps_dput (hu_of hr) (pv 2) (pe_tup (pa_cons (pv 3) (pa_cons (pv 3) pa_nil))) pe_bl rfl) (pss_cons (ps_dput (hu_of hr) (pv 2) (pe_tup (pa_cons pe_int (pa_cons (pv 3) pa_nil))) pe_bl rfl) (pss_cons (ps_dput (hu_of hr) (pv 2) (pe_tup (pa_cons (pv 3) (pa_cons pe_int pa_nil))) pe_bl rfl) (pss_one (ps_if (pt_cmp (pc_din (hu_of hr) (pe_tup (pa_cons (pv 3) (pa_cons (pe_callH h_law_turned (hr.mono (by omega)) rfl (pa_cons (pv 3) pa_nil)) pa_nil))) (pv 2)) (by with_unfolding_all rfl)) (pss_one (ps_for PassesOwn.never rfl (pi_range1 rfl bi.range (pa_cons (pv 1) pa_nil)) (pg_name (i := 4) sc_law_pass_alone.nd rfl (Or.inl rfl)) (pss_one (ps_dput (hu_of hr) (pv 2) (pe_tup (pa_cons (pv 3) (pa_cons (pv 4) pa_nil))) pe_bl rfl)))) pss_nil)))))) (pss_one (ps_for PassesOwn.never rfl (pi_range1 rfl bi.range (pa_cons (pe_callB call_len rfl bi.len bt_len (pa_cons (pv 0) pa_nil)) pa_nil)) (pg_name (i := 5) sc_law_pass_alone.nd rfl (Or.inl rfl)) (pss_one (ps_if (pt_cmpR op_eq (pe_ix ix_tup (pe_ix ix_list (pv 0) (pv 5) (fun _ _ => rfl)) pe_int (fun _ _ => rfl)) pe_str (nomark _)) (pss_cons (ps_dput (hu_of hr) (pv 2) (pe_tup (pa_cons (pe_op op_mul pe_int (pv 5)) (pa_cons (pe_ix ix_tup (pe_ix ix_list (pv 0) (pv 5) (fun _ _ => rfl)) pe_int (fun _ _ => rfl)) pa_nil))) pe_bl rfl) (pss_cons (ps_dput (hu_of hr) (pv 2) (pe_tup (pa_cons (pe_op op_mul pe_int (pv 5)) (pa_cons (pe_ix ix_tup (pe_ix ix_list (pv 0) (pv 5) (fun _ _ => rfl)) pe_int (fun _ _ => rfl)) pa_nil))) pe_bl rfl) (pss_one (ps_for PassesOwn.never rfl (pi_range1 rfl bi.range (pa_cons (pv 1) pa_nil)) (pg_name (i := 3) sc_law_pass_alone.nd rfl (Or.inl rfl)) (pss_one (ps_if (PW.pt (pw_and (pt_cmp (pc_din (hu_of hr) (pe_tup (pa_cons (pv 3) (pa_cons (pe_ix ix_tup (pe_ix ix_list (pv 0) (pv 5) (fun _ _ => rfl)) pe_int (fun _ _ => rfl)) pa_nil))) (pv 2)) (by with_unfolding_all rfl)) (pw_and1 (pt_cmp (pc_din (hu_of hr) (pe_tup (pa_cons (pv 3) (pa_cons (pe_ix ix_tup (pe_ix ix_list (pv 0) (pv 5) (fun _ _ => rfl)) pe_int (fun _ _ => rfl)) pa_nil))) (pv 2)) (by with_unfolding_all rfl))))) (pss_one (ps_dput (hu_of hr) (pv 2) (pe_tup (pa_cons (pv 3) (pa_cons (pe_op op_mul pe_int (pv 5)) pa_nil))) pe_bl rfl)) pss_nil)))))) pss_nil))))), ?_⟩
  refine seq_join (fun σ H' => ∃ S', PD pd rows rules H S H' S' ∧ A1 rows (2 * rows.length) 0 S S' ∧ ∃ o1 o2 o3, σ = [some (V.ref ra), some (V.int ((2 * rows.length : Nat) : Int)), some (V.ref pd), o1, o2, o3]) (fun N hN => ?_) (fun σ H' h => ?_)
  · simp only [tSeq, tFor_eq, tLC_eq, iRng1, iRng2, iList, iTup, iStr, tIfS, tRet, tRetN, tNext, tAsg, gName, tVar, tC, tOp, rI0, rI, tTest, tB, rEq, rNe, tCall, tCons, tNil, tCB, tLst, tTup, tAnd, tOr, tNot, tAndV, tOrV, tNotV, tIf, tDrop, tSl, tPart, tNoPart, tChain, tUn, rU, L2.start, cx_K, bk_K, cx_calm, bk_calm, lenV_str, and_assoc, Option.join, List.length_map, List.length_append, decide_eq_true_eq, Bool.false_eq_true, if_false, if_true, Bool.not_true, Bool.not_false, Bool.not_eq_true', decide_eq_false_iff_not, Bool.true_eq_false, List.length_cons, List.length_nil, List.map_cons, List.map_nil, List.replicate, List.cons_append, List.nil_append, List.append_nil, List.getElem?_cons_zero, List.getElem?_cons_succ, List.set_cons_zero, List.set_cons_succ, Nat.reduceSub, Nat.reduceAdd, Option.some.injEq, V.int.injEq, V.str.injEq, V.bl.injEq, V.ref.injEq, List.cons.injEq, and_true, true_and, exists_eq_left', exists_eq_left, exists_and_left, exists_eq_right, exists_const, tBM, tBM0, rAppend, rPop, rIxL, rIxT, rIxS, rSlL, rSlT, rSlS, rCat, rCatT, tKGet, cx_w, bk_w, tDGet, tDisp, tPairs, tDNewK, cx_P]
    refine ⟨by omega, by omega, ?_⟩
    refine fw_range (n := ((2 * rows.length : Nat) : Int).toNat) (fun k σ H' => ∃ S', PD pd rows rules H S H' S' ∧ A1 rows k 0 S S' ∧ ∃ o1 o2 o3, σ = [some (V.ref ra), some (V.int ((2 * rows.length : Nat) : Int)), some (V.ref pd), o1, o2, o3]) ⟨S, D0, ⟨fun x hx => by omega, fun x hx => by omega, fun x hx => by omega, fun x hx => by omega, fun k a b hk => by omega, fun k a b hk => by omega⟩, _, _, _, rfl⟩ (fun k σ H' hk h => ?_) (fun σ H' h => hN _ _ ?_)
    rotate_left
    · rw [show ((2 * rows.length : Nat) : Int).toNat = 2 * rows.length from Int.toNat_natCast _] at h
      exact h
    obtain ⟨S1, D1, a1, o1, o2, o3, rfl⟩ := h
    have hk2 : k < 2 * rows.length := by omega
    have e0 : (0 : Int) + (k : Int) = ((k : Nat) : Int) := by omega
    simp only [tSeq, tFor_eq, tLC_eq, iRng1, iRng2, iList, iTup, iStr, tIfS, tRet, tRetN, tNext, tAsg, gName, tVar, tC, tOp, rI0, rI, tTest, tB, rEq, rNe, tCall, tCons, tNil, tCB, tLst, tTup, tAnd, tOr, tNot, tAndV, tOrV, tNotV, tIf, tDrop, tSl, tPart, tNoPart, tChain, tUn, rU, L2.start, cx_K, bk_K, cx_calm, bk_calm, lenV_str, and_assoc, Option.join, List.length_map, List.length_append, decide_eq_true_eq, Bool.false_eq_true, if_false, if_true, Bool.not_true, Bool.not_false, Bool.not_eq_true', decide_eq_false_iff_not, Bool.true_eq_false, List.length_cons, List.length_nil, List.map_cons, List.map_nil, List.replicate, List.cons_append, List.nil_append, List.append_nil, List.getElem?_cons_zero, List.getElem?_cons_succ, List.set_cons_zero, List.set_cons_succ, Nat.reduceSub, Nat.reduceAdd, Option.some.injEq, V.int.injEq, V.str.injEq, V.bl.injEq, V.ref.injEq, List.cons.injEq, and_true, true_and, exists_eq_left', exists_eq_left, exists_and_left, exists_eq_right, exists_const, tBM, tBM0, rAppend, rPop, rIxL, rIxT, rIxS, rSlL, rSlT, rSlS, rCat, rCatT, tKGet, cx_w, bk_w, tDGet, tDisp, tPairs, tDNewK, cx_P, sDPut, tDIn, spTurned]
    rw [e0]
    refine ⟨small (by decide), fun p1 hp1 => ?_⟩
    obtain ⟨G1, S2, d2, D2, m2, i2⟩ := D1.step (i := k) (j := k) hnd hrg h100 hp1 ⟨⟨by omega, by show (k : Int) < _; omega⟩, by omega, by show (k : Int) < _; omega⟩ (fun X c _ => c.same k hk2)
    refine ⟨G1, d2, small (by decide), fun p2 hp2 => ?_⟩
    clear d2 hp1
    obtain ⟨G2, S3, d3, D3, m3, i3⟩ := D2.step (i := 0) (j := k) hnd hrg h100 hp2 ⟨⟨by omega, by show (0 : Int) < _; omega⟩, by omega, by show (k : Int) < _; omega⟩ (fun X c _ => c.low k hk2)
    refine ⟨G2, d3, small (by decide), fun p3 hp3 => ?_⟩
    clear d3 hp2
    obtain ⟨G3, S4, d4, D4, m4, i4⟩ := D3.step (i := k) (j := 1) hnd hrg h100 hp3 ⟨⟨by omega, by show (k : Int) < _; omega⟩, by omega, by show (1 : Int) < _; omega⟩ (fun X c _ => c.high k hk2)
    refine ⟨G3, d4, small (by decide), fun p4 hp4 => ?_⟩
    clear d4 hp3
    have D5 := D4.new hp4 (.tup [V.int k, V.int (tn1 k)])
    refine ⟨_, D5.dget upd_same, ?_⟩
    generalize upd G3 p4 (.tup [V.int k, V.int (tn1 k)]) = G4 at D5 ⊢
    rw [dS_has]
    have a4 : A1 rows k 0 S S4 := a1.le fun p hp => i4 _ (i3 _ (i2 _ hp))
    replace m2 := i4 _ (i3 _ m2)
    replace m3 := i4 _ m3
    by_cases c1 : ((k : Int), tn1 k) ∈ S4
    · rw [if_pos (by simpa using c1)]
      refine ⟨by omega, by omega, ?_⟩
      refine fw_range (n := ((2 * rows.length : Nat) : Int).toNat) (fun j σ H' => ∃ S', PD pd rows rules H S H' S' ∧ (∀ p ∈ S4, p ∈ S') ∧ (∀ j' : Nat, j' < j → ((k : Int), (j' : Int)) ∈ S') ∧ ∃ o2 o3, σ = [some (V.ref ra), some (V.int ((2 * rows.length : Nat) : Int)), some (V.ref pd), some (V.int k), o2, o3]) ⟨S4, D5, fun _ h => h, fun j' hj' => by omega, _, _, rfl⟩ (fun j σ H' hj h => ?_) (fun σ H' h => ?_)
      · obtain ⟨S5, D6, i6, m6, o2, o3, rfl⟩ := h
        have e1 : (0 : Int) + (j : Int) = ((j : Nat) : Int) := by omega
        have hj2 : j < 2 * rows.length := by omega
        simp only [tSeq, tFor_eq, tLC_eq, iRng1, iRng2, iList, iTup, iStr, tIfS, tRet, tRetN, tNext, tAsg, gName, tVar, tC, tOp, rI0, rI, tTest, tB, rEq, rNe, tCall, tCons, tNil, tCB, tLst, tTup, tAnd, tOr, tNot, tAndV, tOrV, tNotV, tIf, tDrop, tSl, tPart, tNoPart, tChain, tUn, rU, L2.start, cx_K, bk_K, cx_calm, bk_calm, lenV_str, and_assoc, Option.join, List.length_map, List.length_append, decide_eq_true_eq, Bool.false_eq_true, if_false, if_true, Bool.not_true, Bool.not_false, Bool.not_eq_true', decide_eq_false_iff_not, Bool.true_eq_false, List.length_cons, List.length_nil, List.map_cons, List.map_nil, List.replicate, List.cons_append, List.nil_append, List.append_nil, List.getElem?_cons_zero, List.getElem?_cons_succ, List.set_cons_zero, List.set_cons_succ, Nat.reduceSub, Nat.reduceAdd, Option.some.injEq, V.int.injEq, V.str.injEq, V.bl.injEq, V.ref.injEq, List.cons.injEq, and_true, true_and, exists_eq_left', exists_eq_left, exists_and_left, exists_eq_right, exists_const, tBM, tBM0, rAppend, rPop, rIxL, rIxT, rIxS, rSlL, rSlT, rSlS, rCat, rCatT, tKGet, cx_w, bk_w, tDGet, tDisp, tPairs, tDNewK, cx_P, sDPut]
        rw [e1]
        refine ⟨small (by decide), fun p5 hp5 => ?_⟩
        obtain ⟨G5, S6, d7, D7, m7, i7⟩ := D6.step (i := k) (j := j) hnd hrg h100 hp5 ⟨⟨by omega, by show (k : Int) < _; omega⟩, by omega, by show (j : Int) < _; omega⟩ (fun X c hs => c.clash k j hk2 hj2 (hs _ (i6 _ c1)))
        refine ⟨G5, d7, S6, D7, fun p hp => i7 _ (i6 _ hp), fun j' hj' => ?_, (by first | exact rfl | exact ⟨_, rfl⟩ | exact ⟨_, _, rfl⟩ | exact ⟨_, _, _, rfl⟩)⟩
        rcases Nat.lt_or_eq_of_le (Nat.le_of_lt_succ hj') with z | z
        · exact i7 _ (m6 j' z)
        · rw [z]; exact m7
      · obtain ⟨S5, D6, i6, m6, o2, o3, rfl⟩ := h
        rw [show ((2 * rows.length : Nat) : Int).toNat = 2 * rows.length from Int.toNat_natCast _] at m6
        exact ⟨S5, D6, (a4.le i6).up (i6 _ m2) (i6 _ m3) (i6 _ m4) (fun _ j hj => m6 j hj), (by first | exact rfl | exact ⟨_, rfl⟩ | exact ⟨_, _, rfl⟩ | exact ⟨_, _, _, rfl⟩)⟩
    · rw [if_neg (by simpa using c1)]
      exact ⟨S4, D5, a4.up m2 m3 m4 (fun hc => absurd (D5.st.mem hc) c1), (by first | exact rfl | exact ⟨_, rfl⟩ | exact ⟨_, _, rfl⟩ | exact ⟨_, _, _, rfl⟩)⟩
  obtain ⟨S1, D1, a1, o1, o2, o3, rfl⟩ := h
  simp only [tSeq, tFor_eq, tLC_eq, iRng1, iRng2, iList, iTup, iStr, tIfS, tRet, tRetN, tNext, tAsg, gName, tVar, tC, tOp, rI0, rI, tTest, tB, rEq, rNe, tCall, tCons, tNil, tCB, tLst, tTup, tAnd, tOr, tNot, tAndV, tOrV, tNotV, tIf, tDrop, tSl, tPart, tNoPart, tChain, tUn, rU, L2.start, cx_K, bk_K, cx_calm, bk_calm, lenV_str, and_assoc, Option.join, List.length_map, List.length_append, decide_eq_true_eq, Bool.false_eq_true, if_false, if_true, Bool.not_true, Bool.not_false, Bool.not_eq_true', decide_eq_false_iff_not, Bool.true_eq_false, List.length_cons, List.length_nil, List.map_cons, List.map_nil, List.replicate, List.cons_append, List.nil_append, List.append_nil, List.getElem?_cons_zero, List.getElem?_cons_succ, List.set_cons_zero, List.set_cons_succ, Nat.reduceSub, Nat.reduceAdd, Option.some.injEq, V.int.injEq, V.str.injEq, V.bl.injEq, V.ref.injEq, List.cons.injEq, and_true, true_and, exists_eq_left', exists_eq_left, exists_and_left, exists_eq_right, exists_const, tBM, tBM0, rAppend, rPop, rIxL, rIxT, rIxS, rSlL, rSlT, rSlS, rCat, rCatT, tKGet, cx_w, bk_w, tDGet, tDisp, tPairs, tDNewK, cx_P]
  refine ⟨us.length, .inl ⟨_, SqL.of (D1.lst hra), rfl⟩, by omega, by omega, ?_⟩
  refine fw_range (n := (us.length : Int).toNat) (fun k σ H' => ∃ S', PD pd rows rules H S H' S' ∧ A1 rows (2 * rows.length) k S S' ∧ ∃ o1 o2 o3, σ = [some (V.ref ra), some (V.int ((2 * rows.length : Nat) : Int)), some (V.ref pd), o1, o2, o3]) ⟨S1, D1, a1, _, _, _, rfl⟩ (fun k σ H' hk h => ?_) (fun σ H' h => ?_)
  rotate_left
  · obtain ⟨S2, D2, a2, o1, o2, o3, rfl⟩ := h
    rw [show (us.length : Int).toNat = rows.length by omega] at a2
    simp only [tSeq, tFor_eq, tLC_eq, iRng1, iRng2, iList, iTup, iStr, tIfS, tRet, tRetN, tNext, tAsg, gName, tVar, tC, tOp, rI0, rI, tTest, tB, rEq, rNe, tCall, tCons, tNil, tCB, tLst, tTup, tAnd, tOr, tNot, tAndV, tOrV, tNotV, tIf, tDrop, tSl, tPart, tNoPart, tChain, tUn, rU, L2.start, cx_K, bk_K, cx_calm, bk_calm, lenV_str, and_assoc, Option.join, List.length_map, List.length_append, decide_eq_true_eq, Bool.false_eq_true, if_false, if_true, Bool.not_true, Bool.not_false, Bool.not_eq_true', decide_eq_false_iff_not, Bool.true_eq_false, List.length_cons, List.length_nil, List.map_cons, List.map_nil, List.replicate, List.cons_append, List.nil_append, List.append_nil, List.getElem?_cons_zero, List.getElem?_cons_succ, List.set_cons_zero, List.set_cons_succ, Nat.reduceSub, Nat.reduceAdd, Option.some.injEq, V.int.injEq, V.str.injEq, V.bl.injEq, V.ref.injEq, List.cons.injEq, and_true, true_and, exists_eq_left', exists_eq_left, exists_and_left, exists_eq_right, exists_const, tBM, tBM0, rAppend, rPop, rIxL, rIxT, rIxS, rSlL, rSlT, rSlS, rCat, rCatT, tKGet, cx_w, bk_w, tDGet, tDisp, tPairs, tDNewK, cx_P]
    exact q _ _ D2 a2
  clear D1 a1
  obtain ⟨S1, D1, a1, o1, o2, o3, rfl⟩ := h
  have hk1 : k < us.length := by omega
  have hk2 : 2 * k < 2 * rows.length := by omega
  have e0 : (0 : Int) + (k : Int) = ((k : Nat) : Int) := by omega
  have hv : us[k]? = some us[k] := List.getElem?_eq_getElem hk1
  obtain ⟨r, hr1, hr2⟩ := mapGetV hrw hv
  obtain ⟨xa, x', vs, hxe, hxa, hcase⟩ := RwAt.out hr2
  rw [hxe] at hv
  have at2 : ∀ {a b c : V}, atI [a, b, c] 2 = some c := atI_nat (j := 2) rfl
  have x1 := D1.tups _ _ hxa
  simp only [tSeq, tFor_eq, tLC_eq, iRng1, iRng2, iList, iTup, iStr, tIfS, tRet, tRetN, tNext, tAsg, gName, tVar, tC, tOp, rI0, rI, tTest, tB, rEq, rNe, tCall, tCons, tNil, tCB, tLst, tTup, tAnd, tOr, tNot, tAndV, tOrV, tNotV, tIf, tDrop, tSl, tPart, tNoPart, tChain, tUn, rU, L2.start, cx_K, bk_K, cx_calm, bk_calm, lenV_str, and_assoc, Option.join, List.length_map, List.length_append, decide_eq_true_eq, Bool.false_eq_true, if_false, if_true, Bool.not_true, Bool.not_false, Bool.not_eq_true', decide_eq_false_iff_not, Bool.true_eq_false, List.length_cons, List.length_nil, List.map_cons, List.map_nil, List.replicate, List.cons_append, List.nil_append, List.append_nil, List.getElem?_cons_zero, List.getElem?_cons_succ, List.set_cons_zero, List.set_cons_succ, Nat.reduceSub, Nat.reduceAdd, Option.some.injEq, V.int.injEq, V.str.injEq, V.bl.injEq, V.ref.injEq, List.cons.injEq, and_true, true_and, exists_eq_left', exists_eq_left, exists_and_left, exists_eq_right, exists_const, tBM, tBM0, rAppend, rPop, rIxL, rIxT, rIxS, rSlL, rSlT, rSlS, rCat, rCatT, tKGet, cx_w, bk_w, tDGet, tDisp, tPairs, tDNewK, cx_P]
  rw [e0]
  refine ⟨_, SqL.of (D1.lst hra), _, atI_nat hv, xa, rfl, _, SqT.of x1, _, at0, rfl, ?_⟩
  have no : (∀ a b, r ≠ .bo a b) → A1 rows (2 * rows.length) (k + 1) S S1 := fun hn => a1.up2 (fun a b h => by rw [hr1] at h; cases h; exact absurd rfl (hn a b)) (fun a b h => by rw [hr1] at h; cases h; exact absurd rfl (hn a b))
  cases r with
  | no =>
    obtain ⟨rfl, rfl⟩ := hcase
    rw [if_neg (by intro z; exact absurd (V.str.inj z) (by decide +kernel))]
    exact ⟨S1, D1, no (fun a b z => by cases z), (by first | exact rfl | exact ⟨_, rfl⟩ | exact ⟨_, _, rfl⟩ | exact ⟨_, _, _, rfl⟩)⟩
  | nm y =>
    obtain ⟨rfl, rfl⟩ := hcase
    rw [if_neg (by intro z; exact absurd (V.str.inj z) (by decide +kernel))]
    exact ⟨S1, D1, no (fun a b z => by cases z), (by first | exact rfl | exact ⟨_, rfl⟩ | exact ⟨_, _, rfl⟩ | exact ⟨_, _, _, rfl⟩)⟩
  | bo x y =>
    obtain ⟨rfl, rfl⟩ := hcase
    rw [if_pos rfl]
    have hb := hin k x y hr1
    simp only [tSeq, tFor_eq, tLC_eq, iRng1, iRng2, iList, iTup, iStr, tIfS, tRet, tRetN, tNext, tAsg, gName, tVar, tC, tOp, rI0, rI, tTest, tB, rEq, rNe, tCall, tCons, tNil, tCB, tLst, tTup, tAnd, tOr, tNot, tAndV, tOrV, tNotV, tIf, tDrop, tSl, tPart, tNoPart, tChain, tUn, rU, L2.start, cx_K, bk_K, cx_calm, bk_calm, lenV_str, and_assoc, Option.join, List.length_map, List.length_append, decide_eq_true_eq, Bool.false_eq_true, if_false, if_true, Bool.not_true, Bool.not_false, Bool.not_eq_true', decide_eq_false_iff_not, Bool.true_eq_false, List.length_cons, List.length_nil, List.map_cons, List.map_nil, List.replicate, List.cons_append, List.nil_append, List.append_nil, List.getElem?_cons_zero, List.getElem?_cons_succ, List.set_cons_zero, List.set_cons_succ, Nat.reduceSub, Nat.reduceAdd, Option.some.injEq, V.int.injEq, V.str.injEq, V.bl.injEq, V.ref.injEq, List.cons.injEq, and_true, true_and, exists_eq_left', exists_eq_left, exists_and_left, exists_eq_right, exists_const, tBM, tBM0, rAppend, rPop, rIxL, rIxT, rIxS, rSlL, rSlT, rSlS, rCat, rCatT, tKGet, cx_w, bk_w, tDGet, tDisp, tPairs, tDNewK, cx_P, sDPut, tDIn]
    have e2 : (2 : Int) * (k : Int) = ((2 * k : Nat) : Int) := by omega
    rw [e2]
    refine ⟨.inl ⟨by decide, by decide⟩, _, SqL.of (D1.lst hra), _, atI_nat hv, xa, rfl, _, SqT.of x1, _, at1, small (by decide), fun p1 hp1 => ?_⟩
    obtain ⟨G1, S2, d2, D2, m2, i2⟩ := D1.step (i := ((2 * k : Nat) : Int)) (j := x) hnd hrg h100 hp1 ⟨⟨by omega, by show ((2 * k : Nat) : Int) < _; omega⟩, hb.1.1, by have := hb.1.2; show x < _; omega⟩ (fun X c _ => (c.part k x y hr1).1)
    refine ⟨G1, d2, .inl ⟨by decide, by decide⟩, _, SqL.of (D2.lst hra), _, atI_nat hv, xa, rfl, _, SqT.of (D2.tups _ _ hxa), _, at2, small (by decide), fun p2 hp2 => ?_⟩
    clear d2 hp1
    obtain ⟨G2, S3, d3, D3, m3, i3⟩ := D2.step (i := ((2 * k : Nat) : Int)) (j := y) hnd hrg h100 hp2 ⟨⟨by omega, by show ((2 * k : Nat) : Int) < _; omega⟩, hb.2.1, by have := hb.2.2; show y < _; omega⟩ (fun X c _ => (c.part k x y hr1).2)
    refine ⟨G2, d3, by omega, by omega, ?_⟩
    clear d3 hp2
    replace m2 := i3 _ m2
    have a3 : A1 rows (2 * rows.length) k S S3 := a1.le fun p hp => i3 _ (i2 _ hp)
    refine fw_range (n := ((2 * rows.length : Nat) : Int).toNat) (fun i σ H' => ∃ S', PD pd rows rules H S H' S' ∧ (∀ p ∈ S3, p ∈ S') ∧ (∀ i' : Nat, i' < i → ((i' : Int), x) ∈ S → ((i' : Int), y) ∈ S → ((i' : Int), ((2 * k : Nat) : Int)) ∈ S') ∧ ∃ o1 o2, σ = [some (V.ref ra), some (V.int ((2 * rows.length : Nat) : Int)), some (V.ref pd), o1, o2, some (V.int k)]) ⟨S3, D3, fun _ h => h, fun j' hj' => by omega, _, _, rfl⟩ (fun i σ H' hi h => ?_) (fun σ H' h => ?_)
    rotate_left
    · obtain ⟨S5, D6, i6, m6, o2, o3, rfl⟩ := h
      rw [show ((2 * rows.length : Nat) : Int).toNat = 2 * rows.length from Int.toNat_natCast _] at m6
      refine ⟨S5, D6, (a3.le i6).up2 (fun a b h => ?_) (fun a b h => ?_), (by first | exact rfl | exact ⟨_, rfl⟩ | exact ⟨_, _, rfl⟩ | exact ⟨_, _, _, rfl⟩)⟩
      · rw [hr1] at h; cases h; exact ⟨i6 _ m2, i6 _ m3⟩
      · rw [hr1] at h; cases h; exact m6
    obtain ⟨S5, D6, i6, m6, o2, o3, rfl⟩ := h
    have e3 : (0 : Int) + (i : Int) = ((i : Nat) : Int) := by omega
    have hi2 : i < 2 * rows.length := by omega
    simp only [tSeq, tFor_eq, tLC_eq, iRng1, iRng2, iList, iTup, iStr, tIfS, tRet, tRetN, tNext, tAsg, gName, tVar, tC, tOp, rI0, rI, tTest, tB, rEq, rNe, tCall, tCons, tNil, tCB, tLst, tTup, tAnd, tOr, tNot, tAndV, tOrV, tNotV, tIf, tDrop, tSl, tPart, tNoPart, tChain, tUn, rU, L2.start, cx_K, bk_K, cx_calm, bk_calm, lenV_str, and_assoc, Option.join, List.length_map, List.length_append, decide_eq_true_eq, Bool.false_eq_true, if_false, if_true, Bool.not_true, Bool.not_false, Bool.not_eq_true', decide_eq_false_iff_not, Bool.true_eq_false, List.length_cons, List.length_nil, List.map_cons, List.map_nil, List.replicate, List.cons_append, List.nil_append, List.append_nil, List.getElem?_cons_zero, List.getElem?_cons_succ, List.set_cons_zero, List.set_cons_succ, Nat.reduceSub, Nat.reduceAdd, Option.some.injEq, V.int.injEq, V.str.injEq, V.bl.injEq, V.ref.injEq, List.cons.injEq, and_true, true_and, exists_eq_left', exists_eq_left, exists_and_left, exists_eq_right, exists_const, tBM, tBM0, rAppend, rPop, rIxL, rIxT, rIxS, rSlL, rSlT, rSlS, rCat, rCatT, tKGet, cx_w, bk_w, tDGet, tDisp, tPairs, tDNewK, cx_P, sDPut, tDIn]
    rw [e3]
    refine ⟨_, SqL.of (D6.lst hra), _, atI_nat hv, xa, rfl, _, SqT.of (D6.tups _ _ hxa), _, at1, small (by decide), fun p1 hp1 => ?_⟩
    have D7 := D6.new hp1 (.tup [V.int i, V.int x])
    refine ⟨_, D7.dget upd_same, ?_⟩
    generalize upd H' p1 (.tup [V.int i, V.int x]) = G4 at D7 ⊢
    rw [dS_has]
    have up : ∀ S' : List Pr, (∀ p ∈ S5, p ∈ S') → (((i : Int), x) ∈ S → ((i : Int), y) ∈ S → ((i : Int), ((2 * k : Nat) : Int)) ∈ S') → ∀ i' : Nat, i' < i + 1 → ((i' : Int), x) ∈ S → ((i' : Int), y) ∈ S → ((i' : Int), ((2 * k : Nat) : Int)) ∈ S' := fun S' hs hn i' hi' => by
      rcases Nat.lt_or_eq_of_le (Nat.le_of_lt_succ hi') with z | z
      · exact fun h1 h2 => hs _ (m6 i' z h1 h2)
      · rw [z]; exact hn
    by_cases c1 : ((i : Int), x) ∈ S5
    case neg =>
      rw [if_neg (by simpa using c1)]
      exact ⟨S5, D7, i6, up S5 (fun _ h => h) (fun h1 => absurd (D7.st.mem h1) c1), (by first | exact rfl | exact ⟨_, rfl⟩ | exact ⟨_, _, rfl⟩ | exact ⟨_, _, _, rfl⟩)⟩
    rw [if_pos (by simpa using c1)]
    refine ⟨_, SqL.of (D7.lst hra), _, atI_nat hv, xa, rfl, _, SqT.of (D7.tups _ _ hxa), _, at2, small (by decide), fun p2 hp2 => ?_⟩
    have D8 := D7.new hp2 (.tup [V.int i, V.int y])
    refine ⟨_, D8.dget upd_same, ?_⟩
    generalize upd G4 p2 (.tup [V.int i, V.int y]) = G5 at D8 ⊢
    rw [dS_has]
    by_cases c2 : ((i : Int), y) ∈ S5
    case neg =>
      rw [if_neg (by simpa using c2)]
      exact ⟨S5, D8, i6, up S5 (fun _ h => h) (fun _ h2 => absurd (D8.st.mem h2) c2), (by first | exact rfl | exact ⟨_, rfl⟩ | exact ⟨_, _, rfl⟩ | exact ⟨_, _, _, rfl⟩)⟩
    rw [if_pos (by simpa using c2)]
    rw [e2]
    refine ⟨.inl ⟨by decide, by decide⟩, small (by decide), fun p3 hp3 => ?_⟩
    obtain ⟨G6, S6, d9, D9, m9, i9⟩ := D8.step (i := (i : Int)) (j := ((2 * k : Nat) : Int)) hnd hrg h100 hp3 ⟨⟨by omega, by show (i : Int) < _; omega⟩, by omega, by show ((2 * k : Nat) : Int) < _; omega⟩ (fun X c hs => c.both i k x y hi2 hr1 (hs _ c1) (hs _ c2))
    exact ⟨G6, d9, S6, D9, fun p hp => i9 _ (i6 _ hp), up S6 i9 (fun _ _ => m9), (by first | exact rfl | exact ⟨_, rfl⟩ | exact ⟨_, _, rfl⟩ | exact ⟨_, _, _, rfl⟩)⟩
theorem ok_pass_rules (bi : Bi mg) (F : Fun K "_law_pass_rules" "_law_pass_rules" s_law_pass_rules f fd) : FnOk P w K mg base CX0 1 f fd ["rules", "pairs"] spPR := by
  refine F.ok sc_law_pass_rules (fun vs H Q E h => ?_) (fun cdv A outer s H vs Q E hr h => ?_)
  · obtain ⟨ru, pd, ws, rows, rules, S, rfl, _⟩ := h
    rfl
  obtain ⟨ru, pd, ws, rows, rules, S, rfl, hru, hrl, h100, hpr, hir, hpd, hnd, hrg, q⟩ := h
  have hwl := mapLen hrl
  have D0 : PD pd rows rules H S H S := ⟨⟨_, hpd⟩, fun _ _ _ h => h, hpd, Stx.refl _⟩
  refine ⟨_, (pss_one (ps_for PassesOwn.never rfl (pi_list (pv 0)) (pg_name (i := 2) sc_law_pass_rules.nd rfl (Or.inl rfl)) (pss_cons (ps_comp (i := 3) ["one"] ["pairs"] [1] sc_law_pass_rules.nd rfl (pi_list (pe_ix ix_tup (pv 2) pe_int (fun _ _ => rfl))) (fun _ _ _ _ nd => pg_name (i := 0) nd rfl (Or.inl rfl)) (fun _ _ _ _ => pif_one (pt_cmp (pc_dnotin (hu_of hr) (pv 0) (pv 1)) (by with_unfolding_all rfl))) (fun _ _ _ _ => (pv 0))) (pss_one (ps_if (pt_cmpR op_eq (pe_callB call_len rfl bi.len bt_len (pa_cons (pv 3) pa_nil)) pe_int (nomark _)) (pss_one (ps_dput (hu_of hr) (pv 1) (pe_ix ix_tup (pv 2) pe_int (fun _ _ => rfl)) pe_bl rfl)) pss_nil))))), ?_⟩
  simp only [tSeq, tFor_eq, tLC_eq, iRng1, iRng2, iList, iTup, iStr, tIfS, tRet, tRetN, tNext, tAsg, gName, tVar, tC, tOp, rI0, rI, tTest, tB, rEq, rNe, tCall, tCons, tNil, tCB, tLst, tTup, tAnd, tOr, tNot, tAndV, tOrV, tNotV, tIf, tDrop, tSl, tPart, tNoPart, tChain, tUn, rU, L2.start, cx_K, bk_K, cx_calm, bk_calm, lenV_str, and_assoc, Option.join, List.length_map, List.length_append, decide_eq_true_eq, Bool.false_eq_true, if_false, if_true, Bool.not_true, Bool.not_false, Bool.not_eq_true', decide_eq_false_iff_not, Bool.true_eq_false, List.length_cons, List.length_nil, List.map_cons, List.map_nil, List.replicate, List.cons_append, List.nil_append, List.append_nil, List.getElem?_cons_zero, List.getElem?_cons_succ, List.set_cons_zero, List.set_cons_succ, Nat.reduceSub, Nat.reduceAdd, Option.some.injEq, V.int.injEq, V.str.injEq, V.bl.injEq, V.ref.injEq, List.cons.injEq, and_true, true_and, exists_eq_left', exists_eq_left, exists_and_left, exists_eq_right, exists_const, tBM, tBM0, rAppend, rPop, rIxL, rIxT, rIxS, rSlL, rSlT, rSlS, rCat, rCatT, tKGet, cx_w, bk_w, tDGet, tDisp, tPairs, tDNewK, cx_P]
  refine ⟨⟨_, SqL.of hru⟩, ?_⟩
  refine fw_list (xs := ws) (fun k σ H' => ∃ S', PD pd rows rules H S H' S' ∧ (∀ r ∈ rules.take k, (∀ p ∈ r.1, p ∈ S) → r.2 ∈ S') ∧ ∃ o1 o2, σ = [some (V.ref ru), some (V.ref pd), o1, o2]) ⟨S, D0, fun r hr => by simp at hr, _, _, rfl⟩ (fun k σ H' _ h => by obtain ⟨_, D, _⟩ := h; exact SqL.of (D.lst hru)) (fun k x σ H' hx h => ?_) (fun σ H' h => ?_)
  rotate_left
  · obtain ⟨S1, D1, m1, o1, o2, rfl⟩ := h
    rw [List.take_of_length_le (by omega)] at m1
    simp only [tSeq, tFor_eq, tLC_eq, iRng1, iRng2, iList, iTup, iStr, tIfS, tRet, tRetN, tNext, tAsg, gName, tVar, tC, tOp, rI0, rI, tTest, tB, rEq, rNe, tCall, tCons, tNil, tCB, tLst, tTup, tAnd, tOr, tNot, tAndV, tOrV, tNotV, tIf, tDrop, tSl, tPart, tNoPart, tChain, tUn, rU, L2.start, cx_K, bk_K, cx_calm, bk_calm, lenV_str, and_assoc, Option.join, List.length_map, List.length_append, decide_eq_true_eq, Bool.false_eq_true, if_false, if_true, Bool.not_true, Bool.not_false, Bool.not_eq_true', decide_eq_false_iff_not, Bool.true_eq_false, List.length_cons, List.length_nil, List.map_cons, List.map_nil, List.replicate, List.cons_append, List.nil_append, List.append_nil, List.getElem?_cons_zero, List.getElem?_cons_succ, List.set_cons_zero, List.set_cons_succ, Nat.reduceSub, Nat.reduceAdd, Option.some.injEq, V.int.injEq, V.str.injEq, V.bl.injEq, V.ref.injEq, List.cons.injEq, and_true, true_and, exists_eq_left', exists_eq_left, exists_and_left, exists_eq_right, exists_const, tBM, tBM0, rAppend, rPop, rIxL, rIxT, rIxS, rSlL, rSlT, rSlS, rCat, rCatT, tKGet, cx_w, bk_w, tDGet, tDisp, tPairs, tDNewK, cx_P]
    exact q _ _ D1 m1
  obtain ⟨S1, D1, m1, o1, o2, rfl⟩ := h
  obtain ⟨r, hr1, hr2⟩ := mapGetV hrl hx
  obtain ⟨hkl, hk2⟩ := List.getElem?_eq_some_iff.mp hr1
  obtain ⟨xa, xl, xb, ps, rfl, hxa, hxl, hps, hxb⟩ := nrAt hr2
  have hpl := mapLen hps
  have hq1 := hpr r (List.mem_of_getElem? hr1)
  have hq2 := hir r (List.mem_of_getElem? hr1)
  have up : ∀ S' : List Pr, (∀ p ∈ S1, p ∈ S') → ((∀ p ∈ r.1, p ∈ S) → r.2 ∈ S') → ∀ r ∈ rules.take (k + 1), (∀ p ∈ r.1, p ∈ S) → r.2 ∈ S' := fun S' hs hn r' hr' => by
    rw [List.take_succ_eq_append_getElem hkl, hk2] at hr'
    rcases List.mem_append.mp hr' with hp | hp
    · exact fun h => hs _ (m1 r' hp h)
    · rw [List.mem_singleton.mp hp]; exact hn
  show tSeq _ _ _ _ _
  refine seq_abs fun N hN => ?_
  simp only [tSeq, tFor_eq, tLC_eq, iRng1, iRng2, iList, iTup, iStr, tIfS, tRet, tRetN, tNext, tAsg, gName, tVar, tC, tOp, rI0, rI, tTest, tB, rEq, rNe, tCall, tCons, tNil, tCB, tLst, tTup, tAnd, tOr, tNot, tAndV, tOrV, tNotV, tIf, tDrop, tSl, tPart, tNoPart, tChain, tUn, rU, L2.start, cx_K, bk_K, cx_calm, bk_calm, lenV_str, and_assoc, Option.join, List.length_map, List.length_append, decide_eq_true_eq, Bool.false_eq_true, if_false, if_true, Bool.not_true, Bool.not_false, Bool.not_eq_true', decide_eq_false_iff_not, Bool.true_eq_false, List.length_cons, List.length_nil, List.map_cons, List.map_nil, List.replicate, List.cons_append, List.nil_append, List.append_nil, List.getElem?_cons_zero, List.getElem?_cons_succ, List.set_cons_zero, List.set_cons_succ, Nat.reduceSub, Nat.reduceAdd, Option.some.injEq, V.int.injEq, V.str.injEq, V.bl.injEq, V.ref.injEq, List.cons.injEq, and_true, true_and, exists_eq_left', exists_eq_left, exists_and_left, exists_eq_right, exists_const, tBM, tBM0, rAppend, rPop, rIxL, rIxT, rIxS, rSlL, rSlT, rSlS, rCat, rCatT, tKGet, cx_w, bk_w, tDGet, tDisp, tPairs, tDNewK, cx_P]
  refine ⟨_, SqT.of (D1.tups _ _ hxa), _, at0, xl, rfl, ⟨_, SqL.of (D1.lst hxl)⟩, ?_⟩
  refine lc_listIf (xs := ps) (fun k ys σ H2 => H' = H2 ∧ ys.length ≤ k ∧ (ys.length = 0 → ∀ p ∈ r.1.take k, p ∈ S1) ∧ (ys.length ≠ 0 → ∃ p ∈ r.1, p ∉ S1) ∧ ∃ o, σ = [o, some (V.ref pd)]) ⟨rfl, Nat.le_refl _, (fun _ p z => by cases z), (fun z => absurd rfl z), _, rfl⟩ (small (by omega)) (fun k ys σ H2 e => e.2.1) (fun k ys σ H2 e => by obtain ⟨rfl, _⟩ := e; exact SqL.of (D1.lst hxl)) (fun k x ys σ H2 C D hxk e hC0 hD0 => ?_) (fun ys σ H2 e pl hpl => hN _ _ ?_)
  · obtain ⟨rfl, hl, hno, hye, o, rfl⟩ := e
    obtain ⟨pr, hpk, hpx⟩ := mapGetV hps hxk
    obtain ⟨xp, rfl, hxp⟩ := prAt hpx
    obtain ⟨hkl, hk2⟩ := List.getElem?_eq_some_iff.mp hpk
    simp only [tSeq, tFor_eq, tLC_eq, iRng1, iRng2, iList, iTup, iStr, tIfS, tRet, tRetN, tNext, tAsg, gName, tVar, tC, tOp, rI0, rI, tTest, tB, rEq, rNe, tCall, tCons, tNil, tCB, tLst, tTup, tAnd, tOr, tNot, tAndV, tOrV, tNotV, tIf, tDrop, tSl, tPart, tNoPart, tChain, tUn, rU, L2.start, cx_K, bk_K, cx_calm, bk_calm, lenV_str, and_assoc, Option.join, List.length_map, List.length_append, decide_eq_true_eq, Bool.false_eq_true, if_false, if_true, Bool.not_true, Bool.not_false, Bool.not_eq_true', decide_eq_false_iff_not, Bool.true_eq_false, List.length_cons, List.length_nil, List.map_cons, List.map_nil, List.replicate, List.cons_append, List.nil_append, List.append_nil, List.getElem?_cons_zero, List.getElem?_cons_succ, List.set_cons_zero, List.set_cons_succ, Nat.reduceSub, Nat.reduceAdd, Option.some.injEq, V.int.injEq, V.str.injEq, V.bl.injEq, V.ref.injEq, List.cons.injEq, and_true, true_and, exists_eq_left', exists_eq_left, exists_and_left, exists_eq_right, exists_const, tBM, tBM0, rAppend, rPop, rIxL, rIxT, rIxS, rSlL, rSlT, rSlS, rCat, rCatT, tKGet, cx_w, bk_w, tDGet, tDisp, tPairs, tDNewK, cx_P, tDNotIn]
    refine ⟨_, D1.dget (D1.tups _ _ hxp), ?_⟩
    rw [dS_has]
    by_cases c1 : (pr.1, pr.2) ∈ S1
    · rw [decide_eq_true c1]
      refine hD0 _ _ ⟨rfl, by omega, fun h0 p hp => ?_, hye, _, rfl⟩
      rw [List.take_succ_eq_append_getElem hkl, hk2] at hp
      rcases List.mem_append.mp hp with hp | hp
      · exact hno h0 p hp
      · rw [List.mem_singleton.mp hp]; exact c1
    · rw [decide_eq_false c1]
      exact hC0 _ _ _ ⟨rfl, by simp; omega, (fun h0 => by simp at h0), fun _ => ⟨pr, List.mem_of_getElem? hpk, c1⟩, _, rfl⟩
  obtain ⟨rfl, hl, hno, hye, o, rfl⟩ := e
  rw [List.take_of_length_le (by omega)] at hno
  have D2 := D1.new hpl (.lst ys)
  have kpl : upd H' pl (.lst ys) pl = some (.lst ys) := upd_same
  generalize upd H' pl (.lst ys) = H3 at D2 kpl ⊢
  simp only [tSeq, tFor_eq, tLC_eq, iRng1, iRng2, iList, iTup, iStr, tIfS, tRet, tRetN, tNext, tAsg, gName, tVar, tC, tOp, rI0, rI, tTest, tB, rEq, rNe, tCall, tCons, tNil, tCB, tLst, tTup, tAnd, tOr, tNot, tAndV, tOrV, tNotV, tIf, tDrop, tSl, tPart, tNoPart, tChain, tUn, rU, L2.start, cx_K, bk_K, cx_calm, bk_calm, lenV_str, and_assoc, Option.join, List.length_map, List.length_append, decide_eq_true_eq, Bool.false_eq_true, if_false, if_true, Bool.not_true, Bool.not_false, Bool.not_eq_true', decide_eq_false_iff_not, Bool.true_eq_false, List.length_cons, List.length_nil, List.map_cons, List.map_nil, List.replicate, List.cons_append, List.nil_append, List.append_nil, List.getElem?_cons_zero, List.getElem?_cons_succ, List.set_cons_zero, List.set_cons_succ, Nat.reduceSub, Nat.reduceAdd, Option.some.injEq, V.int.injEq, V.str.injEq, V.bl.injEq, V.ref.injEq, List.cons.injEq, and_true, true_and, exists_eq_left', exists_eq_left, exists_and_left, exists_eq_right, exists_const, tBM, tBM0, rAppend, rPop, rIxL, rIxT, rIxS, rSlL, rSlT, rSlS, rCat, rCatT, tKGet, cx_w, bk_w, tDGet, tDisp, tPairs, tDNewK, cx_P, sDPut]
  refine ⟨ys.length, .inl ⟨_, SqL.of kpl, rfl⟩, rfl, ?_⟩
  by_cases c0 : ys.length = 0
  · rw [if_pos (by omega)]
    refine ⟨_, SqT.of (D2.tups _ _ hxa), _, at1, ?_⟩
    have l2 := D2.len hnd hrg h100
    have dp : DPut H3 pd (.ref xb) (.bl true) (upd H3 pd (.dT (dS (ins S1 r.2)))) := by
      refine .inr ⟨dS S1, key2 r.2.1 r.2.2, xb, D2.now, rfl, D2.tups _ _ hxb, Nat.lt_of_le_of_lt (m := 100000) (by unfold dS; rw [List.length_map]; omega) (by decide), ?_⟩
      rw [dS_put]
    have D3 : PD pd rows rules H S (upd H3 pd (.dT (dS (ins S1 r.2)))) (ins S1 r.2) := by
      refine ⟨D2.was, fun b u hb hu => ?_, upd_same, D2.st.trans (Stx.ins ⟨⟨hq2.1.1, by have := hq2.1.2; omega⟩, hq2.2.1, by have := hq2.2.2; omega⟩ fun X c hs => c.rule r (List.mem_of_getElem? hr1) fun p hp => hs p (hno c0 p hp))⟩
      rw [upd_ne hb]
      exact D2.same b u hb hu
    exact ⟨_, dp, _, D3, up _ (fun _ h => mem_ins_of h) (fun _ => mem_ins _ _), (by first | exact rfl | exact ⟨_, rfl⟩ | exact ⟨_, _, rfl⟩ | exact ⟨_, _, _, rfl⟩)⟩
  · rw [if_neg (by omega)]
    obtain ⟨p, p1, p2⟩ := hye c0
    exact ⟨_, D2, up _ (fun _ h => h) (fun h => absurd (D2.st.mem (h p p1)) p2), (by first | exact rfl | exact ⟨_, rfl⟩ | exact ⟨_, _, rfl⟩ | exact ⟨_, _, _, rfl⟩)⟩
theorem ok_pass_chains (bi : Bi mg) (h_law_turned : Has P w K mg base 1 "_law_turned" ["n"] spTurned) (F : Fun K "_law_pass_chains" "_law_pass_chains" s_law_pass_chains f fd) : FnOk P w K mg base CX0 2 f fd ["top", "pairs"] spPC := by
  refine F.ok sc_law_pass_chains (fun vs H Q E h => ?_) (fun cdv A outer s H vs Q E hr h => ?_)
  · obtain ⟨pd, rows, rules, S, rfl, _⟩ := h
    rfl
  obtain ⟨pd, rows, rules, S, rfl, h100, hpd, hnd, hrg, q⟩ := h
  have D0 : PD pd rows rules H S H S := ⟨⟨_, hpd⟩, fun _ _ _ h => h, hpd, Stx.refl _⟩
  have eN : ((2 * rows.length : Nat) : Int).toNat = 2 * rows.length := Int.toNat_natCast _
  refine ⟨_, (pss_one (ps_for PassesOwn.never rfl (pi_range1 rfl bi.range (pa_cons (pv 0) pa_nil)) (pg_name (i := 2) sc_law_pass_chains.nd rfl (Or.inr rfl)) (pss_cons (ps_comp (i := 3) ["i"] ["pairs", "m"] [1, 2] sc_law_pass_chains.nd rfl (pi_range1 rfl bi.range (pa_cons (pv 0) pa_nil)) (fun _ _ _ _ nd => pg_name (i := 0) nd rfl (Or.inl rfl)) (fun _ _ _ _ => pif_one (pt_cmp (pc_din (hu_of hr) (pe_tup (pa_cons (pv 0) (pa_cons (pv 2) pa_nil))) (pv 1)) (by with_unfolding_all rfl))) (fun _ _ _ _ => (pv 0))) (pss_cons (ps_comp (i := 4) ["j"] ["pairs", "m"] [1, 2] sc_law_pass_chains.nd rfl (pi_range1 rfl bi.range (pa_cons (pv 0) pa_nil)) (fun _ _ _ _ nd => pg_name (i := 0) nd rfl (Or.inl rfl)) (fun _ _ _ _ => pif_one (pt_cmp (pc_din (hu_of hr) (pe_tup (pa_cons (pv 2) (pa_cons (pv 0) pa_nil))) (pv 1)) (by with_unfolding_all rfl))) (fun _ _ _ _ => (pv 0))) (pss_one (ps_for PassesOwn.never rfl (pi_list (pv 3)) (pg_name (i := 5) sc_law_pass_chains.nd rfl (Or.inl rfl)) (pss_one (ps_for PassesOwn.never rfl (pi_list (pv 4)) (pg_name (i := 6) sc_law_pass_chains.nd rfl (Or.inl rfl)) (pss_cons (ps_dput (hu_of hr) (pv 1) (pe_tup (pa_cons (pv 5) (pa_cons (pv 6) pa_nil))) pe_bl rfl) (pss_one (ps_dput (hu_of hr) (pv 1) (pe_tup (pa_cons (pe_callH h_law_turned (hr.mono (by omega)) rfl (pa_cons (pv 6) pa_nil)) (pa_cons (pe_callH h_law_turned (hr.mono (by omega)) rfl (pa_cons (pv 5) pa_nil)) pa_nil))) pe_bl rfl))))))))))), ?_⟩
  simp only [tSeq, tFor_eq, tLC_eq, iRng1, iRng2, iList, iTup, iStr, tIfS, tRet, tRetN, tNext, tAsg, gName, tVar, tC, tOp, rI0, rI, tTest, tB, rEq, rNe, tCall, tCons, tNil, tCB, tLst, tTup, tAnd, tOr, tNot, tAndV, tOrV, tNotV, tIf, tDrop, tSl, tPart, tNoPart, tChain, tUn, rU, L2.start, cx_K, bk_K, cx_calm, bk_calm, lenV_str, and_assoc, Option.join, List.length_map, List.length_append, decide_eq_true_eq, Bool.false_eq_true, if_false, if_true, Bool.not_true, Bool.not_false, Bool.not_eq_true', decide_eq_false_iff_not, Bool.true_eq_false, List.length_cons, List.length_nil, List.map_cons, List.map_nil, List.replicate, List.cons_append, List.nil_append, List.append_nil, List.getElem?_cons_zero, List.getElem?_cons_succ, List.set_cons_zero, List.set_cons_succ, Nat.reduceSub, Nat.reduceAdd, Option.some.injEq, V.int.injEq, V.str.injEq, V.bl.injEq, V.ref.injEq, List.cons.injEq, and_true, true_and, exists_eq_left', exists_eq_left, exists_and_left, exists_eq_right, exists_const, tBM, tBM0, rAppend, rPop, rIxL, rIxT, rIxS, rSlL, rSlT, rSlS, rCat, rCatT, tKGet, cx_w, bk_w, tDGet, tDisp, tPairs, tDNewK, cx_P]
  refine ⟨by omega, by omega, ?_⟩
  refine fw_range (n := ((2 * rows.length : Nat) : Int).toNat) (fun m σ H' => ∃ S', PD pd rows rules H S H' S' ∧ (∀ m' : Nat, m' < m → ∀ i j : Nat, i < 2 * rows.length → j < 2 * rows.length → ((i : Int), (m' : Int)) ∈ S → ((m' : Int), (j : Int)) ∈ S → ((i : Int), (j : Int)) ∈ S' ∧ (tn1 j, tn1 i) ∈ S') ∧ ∃ o1 o2 o3 o4 o5, σ = [some (V.int ((2 * rows.length : Nat) : Int)), some (V.ref pd), o1, o2, o3, o4, o5]) ⟨S, D0, fun m' hm => by omega, _, _, _, _, _, rfl⟩ (fun m σ H' hm h => ?_) (fun σ H' h => ?_)
  rotate_left
  · obtain ⟨S1, D1, c1, o1, o2, o3, o4, o5, rfl⟩ := h
    rw [eN] at c1
    simp only [tSeq, tFor_eq, tLC_eq, iRng1, iRng2, iList, iTup, iStr, tIfS, tRet, tRetN, tNext, tAsg, gName, tVar, tC, tOp, rI0, rI, tTest, tB, rEq, rNe, tCall, tCons, tNil, tCB, tLst, tTup, tAnd, tOr, tNot, tAndV, tOrV, tNotV, tIf, tDrop, tSl, tPart, tNoPart, tChain, tUn, rU, L2.start, cx_K, bk_K, cx_calm, bk_calm, lenV_str, and_assoc, Option.join, List.length_map, List.length_append, decide_eq_true_eq, Bool.false_eq_true, if_false, if_true, Bool.not_true, Bool.not_false, Bool.not_eq_true', decide_eq_false_iff_not, Bool.true_eq_false, List.length_cons, List.length_nil, List.map_cons, List.map_nil, List.replicate, List.cons_append, List.nil_append, List.append_nil, List.getElem?_cons_zero, List.getElem?_cons_succ, List.set_cons_zero, List.set_cons_succ, Nat.reduceSub, Nat.reduceAdd, Option.some.injEq, V.int.injEq, V.str.injEq, V.bl.injEq, V.ref.injEq, List.cons.injEq, and_true, true_and, exists_eq_left', exists_eq_left, exists_and_left, exists_eq_right, exists_const, tBM, tBM0, rAppend, rPop, rIxL, rIxT, rIxS, rSlL, rSlT, rSlS, rCat, rCatT, tKGet, cx_w, bk_w, tDGet, tDisp, tPairs, tDNewK, cx_P]
    exact q _ _ D1 fun i m j hi hm hj => c1 m hm i j hi hj
  obtain ⟨S1, D1, ch, o1, o2, o3, o4, o5, rfl⟩ := h
  have em : (0 : Int) + (m : Int) = ((m : Nat) : Int) := by omega
  have hm2 : m < 2 * rows.length := by omega
  show tSeq _ _ _ _ _
  refine seq_abs fun N hN => ?_
  simp only [tSeq, tFor_eq, tLC_eq, iRng1, iRng2, iList, iTup, iStr, tIfS, tRet, tRetN, tNext, tAsg, gName, tVar, tC, tOp, rI0, rI, tTest, tB, rEq, rNe, tCall, tCons, tNil, tCB, tLst, tTup, tAnd, tOr, tNot, tAndV, tOrV, tNotV, tIf, tDrop, tSl, tPart, tNoPart, tChain, tUn, rU, L2.start, cx_K, bk_K, cx_calm, bk_calm, lenV_str, and_assoc, Option.join, List.length_map, List.length_append, decide_eq_true_eq, Bool.false_eq_true, if_false, if_true, Bool.not_true, Bool.not_false, Bool.not_eq_true', decide_eq_false_iff_not, Bool.true_eq_false, List.length_cons, List.length_nil, List.map_cons, List.map_nil, List.replicate, List.cons_append, List.nil_append, List.append_nil, List.getElem?_cons_zero, List.getElem?_cons_succ, List.set_cons_zero, List.set_cons_succ, Nat.reduceSub, Nat.reduceAdd, Option.some.injEq, V.int.injEq, V.str.injEq, V.bl.injEq, V.ref.injEq, List.cons.injEq, and_true, true_and, exists_eq_left', exists_eq_left, exists_and_left, exists_eq_right, exists_const, tBM, tBM0, rAppend, rPop, rIxL, rIxT, rIxS, rSlL, rSlT, rSlS, rCat, rCatT, tKGet, cx_w, bk_w, tDGet, tDisp, tPairs, tDNewK, cx_P]
  rw [em]
  refine ⟨by omega, by omega, ?_⟩
  refine lc_rangeIf (n := ((2 * rows.length : Nat) : Int).toNat) (fun k ys σ H2 => PD pd rows rules H S H2 S1 ∧ (∃ ns : List Nat, ys = ns.map nV ∧ ns.length ≤ k ∧ (∀ n ∈ ns, n < 2 * rows.length ∧ ((n : Int), (m : Int)) ∈ S1) ∧ ∀ n : Nat, n < k → ((n : Int), (m : Int)) ∈ S1 → n ∈ ns) ∧ ∃ o, σ = [o, some (V.ref pd), some (V.int m)]) ⟨D1, ⟨[], rfl, Nat.le_refl _, (fun n z => by cases z), fun n hn => by omega⟩, _, rfl⟩ (small (by omega)) (fun k ys σ H2 e => ?_) (fun k ys σ H2 C D hk e hC0 hD0 => ?_) (fun ys σ H2 e pl1 hpl => hN _ _ ?_)
  · obtain ⟨_, ⟨ns, rfl, hl, _⟩, _⟩ := e
    rw [List.length_map]
    exact hl
  · obtain ⟨D2, ⟨ns, rfl, hl, hns, hall⟩, o, rfl⟩ := e
    have e0 : (0 : Int) + (k : Int) = ((k : Nat) : Int) := by omega
    simp only [tSeq, tFor_eq, tLC_eq, iRng1, iRng2, iList, iTup, iStr, tIfS, tRet, tRetN, tNext, tAsg, gName, tVar, tC, tOp, rI0, rI, tTest, tB, rEq, rNe, tCall, tCons, tNil, tCB, tLst, tTup, tAnd, tOr, tNot, tAndV, tOrV, tNotV, tIf, tDrop, tSl, tPart, tNoPart, tChain, tUn, rU, L2.start, cx_K, bk_K, cx_calm, bk_calm, lenV_str, and_assoc, Option.join, List.length_map, List.length_append, decide_eq_true_eq, Bool.false_eq_true, if_false, if_true, Bool.not_true, Bool.not_false, Bool.not_eq_true', decide_eq_false_iff_not, Bool.true_eq_false, List.length_cons, List.length_nil, List.map_cons, List.map_nil, List.replicate, List.cons_append, List.nil_append, List.append_nil, List.getElem?_cons_zero, List.getElem?_cons_succ, List.set_cons_zero, List.set_cons_succ, Nat.reduceSub, Nat.reduceAdd, Option.some.injEq, V.int.injEq, V.str.injEq, V.bl.injEq, V.ref.injEq, List.cons.injEq, and_true, true_and, exists_eq_left', exists_eq_left, exists_and_left, exists_eq_right, exists_const, tBM, tBM0, rAppend, rPop, rIxL, rIxT, rIxS, rSlL, rSlT, rSlS, rCat, rCatT, tKGet, cx_w, bk_w, tDGet, tDisp, tPairs, tDNewK, cx_P, tDIn]
    rw [e0]
    refine ⟨small (by decide), fun pz hz => ?_⟩
    have D3 := D2.new hz (.tup [V.int k, V.int m])
    refine ⟨_, D3.dget upd_same, ?_⟩
    generalize upd H2 pz (.tup [V.int k, V.int m]) = G1 at D3 ⊢
    rw [dS_has]
    by_cases c1 : ((k : Int), (m : Int)) ∈ S1
    · rw [if_pos (by simpa using c1)]
      refine hC0 _ _ _ ⟨D3, ⟨ns ++ [k], by rw [List.map_append]; rfl, by simp; omega, fun n hn => ?_, fun n hn hm => ?_⟩, _, rfl⟩
      · rcases List.mem_append.mp hn with hn | hn
        · exact hns n hn
        · rw [List.mem_singleton.mp hn]; exact ⟨by omega, c1⟩
      · rcases Nat.lt_or_eq_of_le (Nat.le_of_lt_succ hn) with z | z
        · exact List.mem_append_left _ (hall n z hm)
        · rw [z]; simp
    · rw [if_neg (by simpa using c1)]
      refine hD0 _ _ ⟨D3, ⟨ns, rfl, by omega, hns, fun n hn hm => ?_⟩, _, rfl⟩
      rcases Nat.lt_or_eq_of_le (Nat.le_of_lt_succ hn) with z | z
      · exact hall n z hm
      · rw [z] at hm; exact absurd hm c1
  obtain ⟨D2, ⟨ds, rfl, dl, dsm, dsa⟩, o, rfl⟩ := e
  rw [eN] at dsa dl
  clear hN
  replace D1 := D2.new hpl (.lst (ds.map nV))
  have kpd : upd H2 pl1 (.lst (ds.map nV)) pl1 = some (.lst (ds.map nV)) := upd_same
  generalize upd H2 pl1 (.lst (ds.map nV)) = H3 at D1 kpd ⊢
  clear D2 hpl H2
  refine seq_abs fun N hN => ?_
  simp only [tSeq, tFor_eq, tLC_eq, iRng1, iRng2, iList, iTup, iStr, tIfS, tRet, tRetN, tNext, tAsg, gName, tVar, tC, tOp, rI0, rI, tTest, tB, rEq, rNe, tCall, tCons, tNil, tCB, tLst, tTup, tAnd, tOr, tNot, tAndV, tOrV, tNotV, tIf, tDrop, tSl, tPart, tNoPart, tChain, tUn, rU, L2.start, cx_K, bk_K, cx_calm, bk_calm, lenV_str, and_assoc, Option.join, List.length_map, List.length_append, decide_eq_true_eq, Bool.false_eq_true, if_false, if_true, Bool.not_true, Bool.not_false, Bool.not_eq_true', decide_eq_false_iff_not, Bool.true_eq_false, List.length_cons, List.length_nil, List.map_cons, List.map_nil, List.replicate, List.cons_append, List.nil_append, List.append_nil, List.getElem?_cons_zero, List.getElem?_cons_succ, List.set_cons_zero, List.set_cons_succ, Nat.reduceSub, Nat.reduceAdd, Option.some.injEq, V.int.injEq, V.str.injEq, V.bl.injEq, V.ref.injEq, List.cons.injEq, and_true, true_and, exists_eq_left', exists_eq_left, exists_and_left, exists_eq_right, exists_const, tBM, tBM0, rAppend, rPop, rIxL, rIxT, rIxS, rSlL, rSlT, rSlS, rCat, rCatT, tKGet, cx_w, bk_w, tDGet, tDisp, tPairs, tDNewK, cx_P]
  refine ⟨by omega, by omega, ?_⟩
  refine lc_rangeIf (n := ((2 * rows.length : Nat) : Int).toNat) (fun k ys σ H2 => PD pd rows rules H S H2 S1 ∧ H2 pl1 = some (.lst (ds.map nV)) ∧ (∃ ns : List Nat, ys = ns.map nV ∧ ns.length ≤ k ∧ (∀ n ∈ ns, n < 2 * rows.length ∧ ((m : Int), (n : Int)) ∈ S1) ∧ ∀ n : Nat, n < k → ((m : Int), (n : Int)) ∈ S1 → n ∈ ns) ∧ ∃ o, σ = [o, some (V.ref pd), some (V.int m)]) ⟨D1, kpd, ⟨[], rfl, Nat.le_refl _, (fun n z => by cases z), fun n hn => by omega⟩, _, rfl⟩ (small (by omega)) (fun k ys σ H2 e => ?_) (fun k ys σ H2 C D hk e hC0 hD0 => ?_) (fun ys σ H2 e pl hpl => hN _ _ ?_)
  · obtain ⟨_, q1, ⟨ns, rfl, hl, _⟩, _⟩ := e
    rw [List.length_map]
    exact hl
  · obtain ⟨D2, q1, ⟨ns, rfl, hl, hns, hall⟩, o, rfl⟩ := e
    have e0 : (0 : Int) + (k : Int) = ((k : Nat) : Int) := by omega
    simp only [tSeq, tFor_eq, tLC_eq, iRng1, iRng2, iList, iTup, iStr, tIfS, tRet, tRetN, tNext, tAsg, gName, tVar, tC, tOp, rI0, rI, tTest, tB, rEq, rNe, tCall, tCons, tNil, tCB, tLst, tTup, tAnd, tOr, tNot, tAndV, tOrV, tNotV, tIf, tDrop, tSl, tPart, tNoPart, tChain, tUn, rU, L2.start, cx_K, bk_K, cx_calm, bk_calm, lenV_str, and_assoc, Option.join, List.length_map, List.length_append, decide_eq_true_eq, Bool.false_eq_true, if_false, if_true, Bool.not_true, Bool.not_false, Bool.not_eq_true', decide_eq_false_iff_not, Bool.true_eq_false, List.length_cons, List.length_nil, List.map_cons, List.map_nil, List.replicate, List.cons_append, List.nil_append, List.append_nil, List.getElem?_cons_zero, List.getElem?_cons_succ, List.set_cons_zero, List.set_cons_succ, Nat.reduceSub, Nat.reduceAdd, Option.some.injEq, V.int.injEq, V.str.injEq, V.bl.injEq, V.ref.injEq, List.cons.injEq, and_true, true_and, exists_eq_left', exists_eq_left, exists_and_left, exists_eq_right, exists_const, tBM, tBM0, rAppend, rPop, rIxL, rIxT, rIxS, rSlL, rSlT, rSlS, rCat, rCatT, tKGet, cx_w, bk_w, tDGet, tDisp, tPairs, tDNewK, cx_P, tDIn]
    rw [e0]
    refine ⟨small (by decide), fun pz hz => ?_⟩
    have D3 := D2.new hz (.tup [V.int m, V.int k])
    have k3 := same_new hz (.tup [V.int m, V.int k]) _ _ q1
    refine ⟨_, D3.dget upd_same, ?_⟩
    generalize upd H2 pz (.tup [V.int m, V.int k]) = G1 at D3 k3 ⊢
    rw [dS_has]
    by_cases c1 : ((m : Int), (k : Int)) ∈ S1
    · rw [if_pos (by simpa using c1)]
      refine hC0 _ _ _ ⟨D3, k3, ⟨ns ++ [k], by rw [List.map_append]; rfl, by simp; omega, fun n hn => ?_, fun n hn hm => ?_⟩, _, rfl⟩
      · rcases List.mem_append.mp hn with hn | hn
        · exact hns n hn
        · rw [List.mem_singleton.mp hn]; exact ⟨by omega, c1⟩
      · rcases Nat.lt_or_eq_of_le (Nat.le_of_lt_succ hn) with z | z
        · exact List.mem_append_left _ (hall n z hm)
        · rw [z]; simp
    · rw [if_neg (by simpa using c1)]
      refine hD0 _ _ ⟨D3, k3, ⟨ns, rfl, by omega, hns, fun n hn hm => ?_⟩, _, rfl⟩
      rcases Nat.lt_or_eq_of_le (Nat.le_of_lt_succ hn) with z | z
      · exact hall n z hm
      · rw [z] at hm; exact absurd hm c1
  obtain ⟨D2, q1, ⟨us, rfl, ul, usm, usa⟩, o, rfl⟩ := e
  rw [eN] at usa ul
  clear hN
  replace D1 := D2.new hpl (.lst (us.map nV))
  have kpu : upd H2 pl (.lst (us.map nV)) pl = some (.lst (us.map nV)) := upd_same
  replace kpd := same_new hpl (.lst (us.map nV)) _ _ q1
  generalize upd H2 pl (.lst (us.map nV)) = H4 at D1 kpd kpu ⊢
  have hnd1 := D1.st.nd hnd
  have hrg1 := D1.st.rng hrg
  have E0 : PD pd rows rules H4 S1 H4 S1 := ⟨⟨_, D1.now⟩, fun _ _ _ h => h, D1.now, Stx.refl _⟩
  simp only [tSeq, tFor_eq, tLC_eq, iRng1, iRng2, iList, iTup, iStr, tIfS, tRet, tRetN, tNext, tAsg, gName, tVar, tC, tOp, rI0, rI, tTest, tB, rEq, rNe, tCall, tCons, tNil, tCB, tLst, tTup, tAnd, tOr, tNot, tAndV, tOrV, tNotV, tIf, tDrop, tSl, tPart, tNoPart, tChain, tUn, rU, L2.start, cx_K, bk_K, cx_calm, bk_calm, lenV_str, and_assoc, Option.join, List.length_map, List.length_append, decide_eq_true_eq, Bool.false_eq_true, if_false, if_true, Bool.not_true, Bool.not_false, Bool.not_eq_true', decide_eq_false_iff_not, Bool.true_eq_false, List.length_cons, List.length_nil, List.map_cons, List.map_nil, List.replicate, List.cons_append, List.nil_append, List.append_nil, List.getElem?_cons_zero, List.getElem?_cons_succ, List.set_cons_zero, List.set_cons_succ, Nat.reduceSub, Nat.reduceAdd, Option.some.injEq, V.int.injEq, V.str.injEq, V.bl.injEq, V.ref.injEq, List.cons.injEq, and_true, true_and, exists_eq_left', exists_eq_left, exists_and_left, exists_eq_right, exists_const, tBM, tBM0, rAppend, rPop, rIxL, rIxT, rIxS, rSlL, rSlT, rSlS, rCat, rCatT, tKGet, cx_w, bk_w, tDGet, tDisp, tPairs, tDNewK, cx_P]
  refine ⟨⟨_, SqL.of kpd⟩, ?_⟩
  refine fw_list (xs := ds.map nV) (fun a σ H' => ∃ S', PD pd rows rules H4 S1 H' S' ∧ (∀ i ∈ ds.take a, ∀ j ∈ us, ((i : Int), (j : Int)) ∈ S' ∧ (tn1 j, tn1 i) ∈ S') ∧ ∃ o4 o5, σ = [some (V.int ((2 * rows.length : Nat) : Int)), some (V.ref pd), some (V.int m), some (V.ref pl1), some (V.ref pl), o4, o5]) ⟨S1, E0, (fun i hi => by simp at hi), _, _, rfl⟩ (fun a σ H' _ h => by obtain ⟨_, D, _⟩ := h; exact SqL.of (D.lst kpd)) (fun a x σ H' hx h => ?_) (fun σ H' h => ?_)
  rotate_left
  · obtain ⟨S2, E2, m2, o4, o5, rfl⟩ := h
    rw [List.length_map, List.take_of_length_le (Nat.le_refl _)] at m2
    refine ⟨S2, D1.trans E2, fun m' hm' i j hi hj h1 h2 => ?_, (by first | exact rfl | exact ⟨_, rfl⟩ | exact ⟨_, _, rfl⟩ | exact ⟨_, _, _, rfl⟩ | exact ⟨_, _, _, _, rfl⟩ | exact ⟨_, _, _, _, _, rfl⟩)⟩
    rcases Nat.lt_or_eq_of_le (Nat.le_of_lt_succ hm') with z | z
    · have := ch m' z i j hi hj h1 h2
      exact ⟨E2.st.mem this.1, E2.st.mem this.2⟩
    · rw [z] at h1 h2
      exact m2 i (dsa i hi (D1.st.mem h1)) j (usa j hj (D1.st.mem h2))
  obtain ⟨S2, E2, m2, o4, o5, rfl⟩ := h
  rw [List.getElem?_map] at hx
  obtain ⟨i, hi, rfl⟩ := Option.map_eq_some_iff.mp hx
  obtain ⟨hal, ha2⟩ := List.getElem?_eq_some_iff.mp hi
  have hii := dsm i (List.mem_of_getElem? hi)
  simp only [tSeq, tFor_eq, tLC_eq, iRng1, iRng2, iList, iTup, iStr, tIfS, tRet, tRetN, tNext, tAsg, gName, tVar, tC, tOp, rI0, rI, tTest, tB, rEq, rNe, tCall, tCons, tNil, tCB, tLst, tTup, tAnd, tOr, tNot, tAndV, tOrV, tNotV, tIf, tDrop, tSl, tPart, tNoPart, tChain, tUn, rU, L2.start, cx_K, bk_K, cx_calm, bk_calm, lenV_str, and_assoc, Option.join, List.length_map, List.length_append, decide_eq_true_eq, Bool.false_eq_true, if_false, if_true, Bool.not_true, Bool.not_false, Bool.not_eq_true', decide_eq_false_iff_not, Bool.true_eq_false, List.length_cons, List.length_nil, List.map_cons, List.map_nil, List.replicate, List.cons_append, List.nil_append, List.append_nil, List.getElem?_cons_zero, List.getElem?_cons_succ, List.set_cons_zero, List.set_cons_succ, Nat.reduceSub, Nat.reduceAdd, Option.some.injEq, V.int.injEq, V.str.injEq, V.bl.injEq, V.ref.injEq, List.cons.injEq, and_true, true_and, exists_eq_left', exists_eq_left, exists_and_left, exists_eq_right, exists_const, tBM, tBM0, rAppend, rPop, rIxL, rIxT, rIxS, rSlL, rSlT, rSlS, rCat, rCatT, tKGet, cx_w, bk_w, tDGet, tDisp, tPairs, tDNewK, cx_P]
  refine ⟨⟨_, SqL.of (E2.lst kpu)⟩, ?_⟩
  refine fw_list (xs := us.map nV) (fun b σ H' => ∃ S', PD pd rows rules H4 S1 H' S' ∧ (∀ p ∈ S2, p ∈ S') ∧ (∀ j ∈ us.take b, ((i : Int), (j : Int)) ∈ S' ∧ (tn1 j, tn1 i) ∈ S') ∧ ∃ o5, σ = [some (V.int ((2 * rows.length : Nat) : Int)), some (V.ref pd), some (V.int m), some (V.ref pl1), some (V.ref pl), some (V.int i), o5]) ⟨S2, E2, fun _ h => h, (fun i hi => by simp at hi), _, rfl⟩ (fun a σ H' _ h => by obtain ⟨_, D, _⟩ := h; exact SqL.of (D.lst kpu)) (fun b x σ H' hx h => ?_) (fun σ H' h => ?_)
  rotate_left
  · obtain ⟨S3, E3, i3, m3, o5, rfl⟩ := h
    rw [List.length_map, List.take_of_length_le (Nat.le_refl _)] at m3
    refine ⟨S3, E3, fun i' hi' j hj => ?_, (by first | exact rfl | exact ⟨_, rfl⟩ | exact ⟨_, _, rfl⟩ | exact ⟨_, _, _, rfl⟩ | exact ⟨_, _, _, _, rfl⟩ | exact ⟨_, _, _, _, _, rfl⟩)⟩
    rw [List.take_succ_eq_append_getElem hal, ha2] at hi'
    rcases List.mem_append.mp hi' with hp | hp
    · have := m2 i' hp j hj
      exact ⟨i3 _ this.1, i3 _ this.2⟩
    · rw [List.mem_singleton.mp hp]; exact m3 j hj
  obtain ⟨S3, E3, i3, m3, o5, rfl⟩ := h
  rw [List.getElem?_map] at hx
  obtain ⟨j, hj, rfl⟩ := Option.map_eq_some_iff.mp hx
  obtain ⟨hbl, hb2⟩ := List.getElem?_eq_some_iff.mp hj
  have hjj := usm j (List.mem_of_getElem? hj)
  simp only [tSeq, tFor_eq, tLC_eq, iRng1, iRng2, iList, iTup, iStr, tIfS, tRet, tRetN, tNext, tAsg, gName, tVar, tC, tOp, rI0, rI, tTest, tB, rEq, rNe, tCall, tCons, tNil, tCB, tLst, tTup, tAnd, tOr, tNot, tAndV, tOrV, tNotV, tIf, tDrop, tSl, tPart, tNoPart, tChain, tUn, rU, L2.start, cx_K, bk_K, cx_calm, bk_calm, lenV_str, and_assoc, Option.join, List.length_map, List.length_append, decide_eq_true_eq, Bool.false_eq_true, if_false, if_true, Bool.not_true, Bool.not_false, Bool.not_eq_true', decide_eq_false_iff_not, Bool.true_eq_false, List.length_cons, List.length_nil, List.map_cons, List.map_nil, List.replicate, List.cons_append, List.nil_append, List.append_nil, List.getElem?_cons_zero, List.getElem?_cons_succ, List.set_cons_zero, List.set_cons_succ, Nat.reduceSub, Nat.reduceAdd, Option.some.injEq, V.int.injEq, V.str.injEq, V.bl.injEq, V.ref.injEq, List.cons.injEq, and_true, true_and, exists_eq_left', exists_eq_left, exists_and_left, exists_eq_right, exists_const, tBM, tBM0, rAppend, rPop, rIxL, rIxT, rIxS, rSlL, rSlT, rSlS, rCat, rCatT, tKGet, cx_w, bk_w, tDGet, tDisp, tPairs, tDNewK, cx_P, sDPut, spTurned]
  refine ⟨small (by decide), fun p1 hp1 => ?_⟩
  have ti := tnN_lt hii.1
  have tj := tnN_lt hjj.1
  have c1 : ∀ X, Clo rows rules X → (∀ p ∈ S3, X p.1 p.2) → X i j := fun X c hs => c.chain i m j hii.1 hm2 hjj.1 (hs _ (E3.st.mem hii.2)) (hs _ (E3.st.mem hjj.2))
  obtain ⟨G1, S4, d4, E4, m4, i4⟩ := E3.step (i := i) (j := j) hnd1 hrg1 h100 hp1 ⟨⟨by omega, by show (i : Int) < _; omega⟩, by omega, by show (j : Int) < _; omega⟩ c1
  refine ⟨G1, d4, small (by decide), fun p2 hp2 => ?_⟩
  obtain ⟨G2, S5, d5, E5, m5, i5⟩ := E4.step (i := tn1 j) (j := tn1 i) hnd1 hrg1 h100 hp2 (by rw [tnN_eq, tnN_eq]; exact ⟨⟨by omega, by show ((tnN j : Nat) : Int) < _; omega⟩, by omega, by show ((tnN i : Nat) : Int) < _; omega⟩) (fun X c hs => c.turn i j hii.1 hjj.1 (hs _ m4))
  refine ⟨G2, d5, S5, E5, fun p hp => i5 _ (i4 _ (i3 _ hp)), fun j' hj' => ?_, (by first | exact rfl | exact ⟨_, rfl⟩ | exact ⟨_, _, rfl⟩ | exact ⟨_, _, _, rfl⟩ | exact ⟨_, _, _, _, rfl⟩ | exact ⟨_, _, _, _, _, rfl⟩)⟩
  rw [List.take_succ_eq_append_getElem hbl, hb2] at hj'
  rcases List.mem_append.mp hj' with hp | hp
  · have := m3 j' hp
    exact ⟨i5 _ (i4 _ this.1), i5 _ (i4 _ this.2)⟩
  · rw [List.mem_singleton.mp hp]; exact ⟨i5 _ m4, m5⟩
end
end C
set_option Elab.async false
set_option linter.all false
set_option maxRecDepth 100000
set_option maxHeartbeats 8000000
namespace C
open PySem L2
seal PE PT PW PA PS PSs PG PGs PI PPs PO PSet PIf
theorem Cl.hturn {rows : List Rw} {rules : List NRul} {L : List Ln} (h : Cl rows rules L.length L) {i j : Nat} (hh : hasP L i j = true) : hasP L (tn1 j) (tn1 i) = true := by
  obtain ⟨p, l, hl, h1, h2⟩ := hasP_iff.mp hh
  rw [tnN_eq, tnN_eq]
  exact h.turn p l i j (List.getElem?_eq_some_iff.mp hl).1 hl h1 h2
theorem Cl.hclash {rows : List Rw} {rules : List NRul} {L : List Ln} (h : Cl rows rules L.length L) {i n : Nat} (hh : hasP L i (tn1 i) = true) (hn : n < 2 * rows.length) : hasP L i n = true := by
  obtain ⟨p, l, hl, h1, h2⟩ := hasP_iff.mp hh
  rw [tnN_eq] at h2
  exact h.clash p l i (tnN i) (List.getElem?_eq_some_iff.mp hl).1 hl h1 h2 (tnN_eq i).symm n hn
theorem Cl.hchain {rows : List Rw} {rules : List NRul} {L : List Ln} (h : Cl rows rules L.length L) {i m j : Nat} (h1 : hasP L i m = true) (h2 : hasP L m j = true) : hasP L i j = true := by
  obtain ⟨p, l, hl, a1, a2⟩ := hasP_iff.mp h1
  obtain ⟨p', l', hl', b1, b2⟩ := hasP_iff.mp h2
  exact h.chain p p' l l' i m j (List.getElem?_eq_some_iff.mp hl).1 (List.getElem?_eq_some_iff.mp hl').1 hl hl' a1 a2 b1 b2
theorem Cl.hboth {rows : List Rw} {rules : List NRul} {L : List Ln} (h : Cl rows rules L.length L) {i n : Nat} {x y : Int} (h1 : hasP L i x = true) (h2 : hasP L i y = true) (hr : rows[n]? = some (.bo x y)) : hasP L i (2 * (n : Int)) = true := by
  obtain ⟨p, l, hl, a1, a2⟩ := hasP_iff.mp h1
  obtain ⟨p', l', hl', b1, b2⟩ := hasP_iff.mp h2
  rw [show 2 * (n : Int) = ((2 * n : Nat) : Int) by omega]
  exact h.both p p' l l' i n x y (List.getElem?_eq_some_iff.mp hl).1 (List.getElem?_eq_some_iff.mp hl').1 hl hl' a1 a2 b1 b2 hr
theorem Cl.hrule {rows : List Rw} {rules : List NRul} {L : List Ln} (h : Cl rows rules L.length L) {r : Nat} {q : NRul} (hr : rules[r]? = some q) (hi : InR rows q) (hp : ∀ p ∈ q.1, hasP L p.1 p.2 = true) : hasP L q.2.1 q.2.2 = true :=
  h.rule r q hr hi fun p hpq => by
    obtain ⟨a, l, hl, a1, a2⟩ := hasP_iff.mp (hp p hpq)
    exact ⟨a, l, (List.getElem?_eq_some_iff.mp hl).1, hl, a1, a2⟩
theorem closing_clo {rows : List Rw} {rules : List NRul} {L : List Ln} (p : Pl rows (2 * rows.length) rows.length L) (c : Cl rows rules L.length L) (hir : ∀ r ∈ rules, InR rows r) : Clo rows rules fun i j => hasP L i j = true :=
  ⟨p.same, p.low, p.high, fun k x y h => p.part k x y (List.getElem?_eq_some_iff.mp h).1 h, fun i j _ hj h => c.hclash h hj, fun i k x y _ hr h1 h2 => by
    have := c.hboth h1 h2 hr
    rwa [show 2 * (k : Int) = ((2 * k : Nat) : Int) by omega] at this, fun i m j _ _ _ h1 h2 => c.hchain h1 h2, fun i j _ _ h => c.hturn h, fun q hq hp => by
    obtain ⟨r, hr, e⟩ := List.getElem_of_mem hq
    exact c.hrule (r := r) (by rw [List.getElem?_eq_getElem hr, e]) (hir q hq) hp⟩
theorem dB_at {H : Hp} {b : Pr → Bool} : ∀ (S : List Pr), DAts H (S.map fun p => .bl (b p)) ((S.map fun p => (key2 p.1 p.2, V.bl (b p))).map (·.2))
  | [] => rfl
  | p :: S => ⟨_, _, rfl, rfl, dB_at S⟩
def Pass (rows : List Rw) (rules : List NRul) (S S' : List Pr) : Prop := ∃ S1 S2, Stx rows rules S S1 ∧ A1 rows (2 * rows.length) rows.length S S1 ∧ Stx rows rules S1 S2 ∧ (∀ r ∈ rules, (∀ p ∈ r.1, p ∈ S1) → r.2 ∈ S2) ∧ Stx rows rules S2 S' ∧ ∀ i m j : Nat, i < 2 * rows.length → m < 2 * rows.length → j < 2 * rows.length → ((i : Int), (m : Int)) ∈ S2 → ((m : Int), (j : Int)) ∈ S2 → ((i : Int), (j : Int)) ∈ S' ∧ (tn1 j, tn1 i) ∈ S'
theorem Stx.le {rows : List Rw} {rules : List NRul} {S S' : List Pr} (a : Stx rows rules S S') : S.length ≤ S'.length := by
  obtain ⟨t, e⟩ := a.pre
  rw [e, List.length_append]
  omega
theorem Pass.clo {rows : List Rw} {rules : List NRul} {S S' : List Pr} (h : Pass rows rules S S') (hl : S'.length ≤ S.length) : Clo rows rules fun i j => (i, j) ∈ S' := by
  obtain ⟨S1, S2, t1, a1, t2, r1, t3, c1⟩ := h
  have l1 := t1.le
  have l2 := t2.le
  have l3 := t3.le
  have e1 := t1.eq (by omega)
  have e2 := t2.eq (by omega)
  have e3 := t3.eq (by omega)
  subst e3
  subst e2
  subst e1
  exact ⟨a1.same, a1.low, a1.high, fun k x y h => a1.part k x y (List.getElem?_eq_some_iff.mp h).1 h, fun i j hi hj h => a1.clash i hi h j hj, fun i k x y hi hr h1 h2 => a1.both k x y (List.getElem?_eq_some_iff.mp hr).1 hr i hi h1 h2,
    fun i m j hi hm hj h1 h2 => (c1 i m j hi hm hj h1 h2).1, fun i j hi hj h => (c1 i i j hi hi hj (a1.same i hi) h).2, fun q hq hp => r1 q hq hp⟩
def dB (b : Pr → Bool) (S : List Pr) : List (List Key × V) := S.map fun p => (key2 p.1 p.2, V.bl (b p))
theorem dB_val {b : Pr → Bool} {i j : Int} : ∀ (S : List Pr), (i, j) ∈ S → valV (dB b S) (key2 i j) = some (.bl (b (i, j)))
  | p :: S, hm => by
    by_cases h : p.1 = i ∧ p.2 = j
    · show valV ((key2 p.1 p.2, V.bl (b p)) :: dB b S) (key2 i j) = _
      rw [show (i, j) = p from Prod.ext h.1.symm h.2.symm, h.1, h.2, valV_pos rfl]
    · have ne : (i, j) ≠ p := fun z => h ⟨by rw [← z], by rw [← z]⟩
      have e : valV (dB b (p :: S)) (key2 i j) = valV (dB b S) (key2 i j) := valV_neg (fun z => h (key2_inj z))
      rw [e]
      exact dB_val S (by rcases List.mem_cons.mp hm with z | z; exact absurd z ne; exact z)
theorem dB_put {b : Pr → Bool} {S : List Pr} {i j : Int} (h : (i, j) ∈ S) : putK (dB b S) (key2 i j) (.bl false) = dB (fun p => b p && !decide (p = (i, j))) S := by
  unfold putK
  rw [if_pos (by rw [valV_any, dB_val S h]; rfl)]
  unfold dB
  rw [List.map_map]
  refine List.map_congr_left fun p _ => ?_
  show (if key2 p.1 p.2 = key2 i j then (key2 p.1 p.2, V.bl false) else (key2 p.1 p.2, V.bl (b p))) = (key2 p.1 p.2, V.bl (b p && !decide (p = (i, j))))
  by_cases e : p = (i, j)
  · rw [if_pos (by rw [e]), decide_eq_true e]
    simp
  · rw [if_neg (fun z => e (Prod.ext (key2_inj z).1 (key2_inj z).2)), decide_eq_false e]
    simp
abbrev s_law : Stmt := top 24
theorem sc_law : FnScope ["script", "made", "rows", "rules", "top", "pairs", "many", "lines", "line"] ["script"] (defScope s_law) := ⟨rfl, rfl, rfl, by decide +kernel, rfl, by decide +kernel, by decide +kernel⟩
def spLaw (K : PySem.W.Frag) : Sp := fun vs H Q _ => ∃ (a : Addr) (ns : List Int), vs = [.ref a] ∧ SqL K H a (ns.map V.int) ∧ ns.length ≤ 63 ∧ ∀ H', Q (.bl true) H'
section
variable {P : Program} {w : World} {K : PySem.W.Frag} {mg : Str → Option Value} {base : Heap} {f : Addr} {fd : FuncData}
theorem ok_law (bi : Bi mg) (h_law_sheet_and_rules : Has P w K mg base 2 "_law_sheet_and_rules" ["script", "most", "many"] (spSR K)) (h_closing : Has P w K mg base 4 "closing" ["sheet", "rules"] spClo) (h_law_pass_alone : Has P w K mg base 2 "_law_pass_alone" ["rows", "top", "pairs"] spPA) (h_law_pass_rules : Has P w K mg base 1 "_law_pass_rules" ["rules", "pairs"] spPR) (h_law_pass_chains : Has P w K mg base 2 "_law_pass_chains" ["top", "pairs"] spPC)
    (F : Fun K "law" "law" s_law f fd) : FnOk P w K mg base CX0 65 f fd ["script"] (spLaw K) := by
  refine F.ok sc_law (fun vs H Q E h => ?_) (fun cdv A outer s H vs Q E hr h => ?_)
  · obtain ⟨a, ns, rfl, _⟩ := h
    rfl
  obtain ⟨a, ns, rfl, hS, hl, q⟩ := h
  refine ⟨_, (pss_cons (ps_set (i := 1) sc_law.nd rfl (Or.inl rfl) (pe_callH h_law_sheet_and_rules (hr.mono (by omega)) rfl (pa_cons (pv 0) (pa_cons pe_int (pa_cons pe_int pa_nil))))) (pss_cons (ps_set (i := 2) sc_law.nd rfl (Or.inl rfl) (pe_ix ix_tup (pv 1) pe_int (fun _ _ => rfl))) (pss_cons (ps_set (i := 3) sc_law.nd rfl (Or.inl rfl) (pe_ix ix_tup (pv 1) pe_int (fun _ _ => rfl))) (pss_cons (ps_set (i := 4) sc_law.nd rfl (Or.inl rfl) (pe_op op_mul pe_int (pe_callB call_len rfl bi.len bt_len (pa_cons (pv 2) pa_nil)))) (pss_cons (ps_set (i := 5) sc_law.nd rfl (Or.inl rfl) pe_dnewT) (pss_cons (ps_set (i := 6) sc_law.nd rfl (Or.inl rfl) (pe_un un_neg pe_int)) (pss_cons (ps_while PassesOwn.never (pt_cmpR op_lt (pv 6) (pe_callB call_lenT rfl bi.len bt_len (pa_cons (pv 5) pa_nil)) (nomark _)) (pss_cons (ps_set (i := 6) sc_law.nd rfl (Or.inl rfl) (pe_callB call_lenT rfl bi.len bt_len (pa_cons (pv 5) pa_nil))) (pss_cons (ps_expr (pe_callH h_law_pass_alone (hr.mono (by omega)) rfl (pa_cons (pv 2) (pa_cons (pv 4) (pa_cons (pv 5) pa_nil))))) (pss_cons (ps_expr (pe_callH h_law_pass_rules (hr.mono (by omega)) rfl (pa_cons (pv 3) (pa_cons (pv 5) pa_nil)))) (pss_one (ps_expr (pe_callH h_law_pass_chains (hr.mono (by omega)) rfl (pa_cons (pv 4) (pa_cons (pv 5) pa_nil))))))))) (pss_cons (ps_set (i := 7) sc_law.nd rfl (Or.inl rfl) (pe_callH h_closing (hr.mono (by omega)) rfl (pa_cons (pe_callTy call_list_of rfl bi.list bt_list (pa_cons (pv 2) pa_nil)) (pa_cons (pe_comp ["rule"] [] [] (pi_list (pv 3)) (fun _ _ _ _ nd => pg_name (i := 0) nd rfl (Or.inl rfl)) (fun _ _ _ _ => pif_nil) (fun _ _ _ _ => (pe_tup (pa_cons (pe_callTy (call_list_ofK K) rfl bi.list bt_list (pa_cons (pe_ix (ix_tupK K) (pv 0) pe_int (fun _ _ => rfl)) pa_nil)) (pa_cons (pe_ix (ix_tupK K) (pv 0) pe_int (fun _ _ => rfl)) pa_nil))))) pa_nil)))) (pss_cons (ps_if (PW.pt (pw_or (pt_not (pt_val (pe_callB (call_isi (T := "list")) rfl bi.isinstance bt_isinstance (pa_cons (pv 7) (pa_cons (pe_ty bi.list bt_list rfl) pa_nil))))) (pw_or1 (pt_cmpR op_ne (pe_callB call_len rfl bi.len bt_len (pa_cons (pv 7) pa_nil)) (pe_callB call_lenT rfl bi.len bt_len (pa_cons (pv 5) pa_nil)) (nomark _))))) (pss_one (ps_ret pe_bl)) pss_nil) (pss_cons (ps_for PassesOwn.never rfl (pi_list (pv 7)) (pg_name (i := 8) sc_law.nd rfl (Or.inl rfl)) (pss_cons (ps_if (pt_cmp (pc_dnotin (hu_of hr) (pe_tup (pa_cons (pe_ix ix_tup (pv 8) pe_int (fun _ _ => rfl)) (pa_cons (pe_ix ix_tup (pv 8) pe_int (fun _ _ => rfl)) pa_nil))) (pv 5)) (by with_unfolding_all rfl)) (pss_one (ps_ret pe_bl)) pss_nil) (pss_one (ps_dput (hu_of hr) (pv 5) (pe_tup (pa_cons (pe_ix ix_tup (pv 8) pe_int (fun _ _ => rfl)) (pa_cons (pe_ix ix_tup (pv 8) pe_int (fun _ _ => rfl)) pa_nil))) pe_bl rfl)))) (pss_one (ps_ret (pe_cmpR (op_notInG hr.units) pe_bl (pe_listVals rfl bi.list rfl (pv 5)) (by with_unfolding_all rfl)))))))))))))), ?_⟩
  refine seq_abs fun N hN => ?_
  simp only [tSeq, tFor_eq, tLC_eq, iRng1, iRng2, iList, iTup, iStr, tIfS, tRet, tRetN, tNext, tAsg, gName, tVar, tC, tOp, rI0, rI, tTest, tB, rEq, rNe, tCall, tCons, tNil, tCB, tLst, tTup, tAnd, tOr, tNot, tAndV, tOrV, tNotV, tIf, tDrop, tSl, tPart, tNoPart, tChain, tUn, rU, L2.start, cx_K, bk_K, cx_calm, bk_calm, lenV_str, and_assoc, Option.join, List.length_map, List.length_append, decide_eq_true_eq, Bool.false_eq_true, if_false, if_true, Bool.not_true, Bool.not_false, Bool.not_eq_true', decide_eq_false_iff_not, Bool.true_eq_false, List.length_cons, List.length_nil, List.map_cons, List.map_nil, List.replicate, List.cons_append, List.nil_append, List.append_nil, List.getElem?_cons_zero, List.getElem?_cons_succ, List.set_cons_zero, List.set_cons_succ, Nat.reduceSub, Nat.reduceAdd, Option.some.injEq, V.int.injEq, V.str.injEq, V.bl.injEq, V.ref.injEq, List.cons.injEq, and_true, true_and, exists_eq_left', exists_eq_left, exists_and_left, exists_eq_right, exists_const, tBM, tBM0, rAppend, rPop, rIxL, rIxT, rIxS, rSlL, rSlT, rSlS, rCat, rCatT, tKGet, cx_w, bk_w, tDGet, tDisp, tPairs, tDNewK, cx_P]
  refine ⟨a, _, _, _, rfl, hS, by omega, fun mp ra ru us ws rows rules H2 s2 kmp hra hrw hru hrl r1 r100 u100 p100 hin hir => hN _ _ ?_⟩
  have hul := mapLen hrw
  have hwl := mapLen hrl
  clear hN
  refine seq_abs fun N hN => ?_
  simp only [tSeq, tFor_eq, tLC_eq, iRng1, iRng2, iList, iTup, iStr, tIfS, tRet, tRetN, tNext, tAsg, gName, tVar, tC, tOp, rI0, rI, tTest, tB, rEq, rNe, tCall, tCons, tNil, tCB, tLst, tTup, tAnd, tOr, tNot, tAndV, tOrV, tNotV, tIf, tDrop, tSl, tPart, tNoPart, tChain, tUn, rU, L2.start, cx_K, bk_K, cx_calm, bk_calm, lenV_str, and_assoc, Option.join, List.length_map, List.length_append, decide_eq_true_eq, Bool.false_eq_true, if_false, if_true, Bool.not_true, Bool.not_false, Bool.not_eq_true', decide_eq_false_iff_not, Bool.true_eq_false, List.length_cons, List.length_nil, List.map_cons, List.map_nil, List.replicate, List.cons_append, List.nil_append, List.append_nil, List.getElem?_cons_zero, List.getElem?_cons_succ, List.set_cons_zero, List.set_cons_succ, Nat.reduceSub, Nat.reduceAdd, Option.some.injEq, V.int.injEq, V.str.injEq, V.bl.injEq, V.ref.injEq, List.cons.injEq, and_true, true_and, exists_eq_left', exists_eq_left, exists_and_left, exists_eq_right, exists_const, tBM, tBM0, rAppend, rPop, rIxL, rIxT, rIxS, rSlL, rSlT, rSlS, rCat, rCatT, tKGet, cx_w, bk_w, tDGet, tDisp, tPairs, tDNewK, cx_P]
  refine ⟨_, SqT.of kmp, _, at0, hN _ _ ?_⟩
  refine seq_abs fun N hN => ?_
  simp only [tSeq, tFor_eq, tLC_eq, iRng1, iRng2, iList, iTup, iStr, tIfS, tRet, tRetN, tNext, tAsg, gName, tVar, tC, tOp, rI0, rI, tTest, tB, rEq, rNe, tCall, tCons, tNil, tCB, tLst, tTup, tAnd, tOr, tNot, tAndV, tOrV, tNotV, tIf, tDrop, tSl, tPart, tNoPart, tChain, tUn, rU, L2.start, cx_K, bk_K, cx_calm, bk_calm, lenV_str, and_assoc, Option.join, List.length_map, List.length_append, decide_eq_true_eq, Bool.false_eq_true, if_false, if_true, Bool.not_true, Bool.not_false, Bool.not_eq_true', decide_eq_false_iff_not, Bool.true_eq_false, List.length_cons, List.length_nil, List.map_cons, List.map_nil, List.replicate, List.cons_append, List.nil_append, List.append_nil, List.getElem?_cons_zero, List.getElem?_cons_succ, List.set_cons_zero, List.set_cons_succ, Nat.reduceSub, Nat.reduceAdd, Option.some.injEq, V.int.injEq, V.str.injEq, V.bl.injEq, V.ref.injEq, List.cons.injEq, and_true, true_and, exists_eq_left', exists_eq_left, exists_and_left, exists_eq_right, exists_const, tBM, tBM0, rAppend, rPop, rIxL, rIxT, rIxS, rSlL, rSlT, rSlS, rCat, rCatT, tKGet, cx_w, bk_w, tDGet, tDisp, tPairs, tDNewK, cx_P]
  refine ⟨_, SqT.of kmp, _, at1, hN _ _ ?_⟩
  clear hN kmp
  refine seq_abs fun N hN => ?_
  simp only [tSeq, tFor_eq, tLC_eq, iRng1, iRng2, iList, iTup, iStr, tIfS, tRet, tRetN, tNext, tAsg, gName, tVar, tC, tOp, rI0, rI, tTest, tB, rEq, rNe, tCall, tCons, tNil, tCB, tLst, tTup, tAnd, tOr, tNot, tAndV, tOrV, tNotV, tIf, tDrop, tSl, tPart, tNoPart, tChain, tUn, rU, L2.start, cx_K, bk_K, cx_calm, bk_calm, lenV_str, and_assoc, Option.join, List.length_map, List.length_append, decide_eq_true_eq, Bool.false_eq_true, if_false, if_true, Bool.not_true, Bool.not_false, Bool.not_eq_true', decide_eq_false_iff_not, Bool.true_eq_false, List.length_cons, List.length_nil, List.map_cons, List.map_nil, List.replicate, List.cons_append, List.nil_append, List.append_nil, List.getElem?_cons_zero, List.getElem?_cons_succ, List.set_cons_zero, List.set_cons_succ, Nat.reduceSub, Nat.reduceAdd, Option.some.injEq, V.int.injEq, V.str.injEq, V.bl.injEq, V.ref.injEq, List.cons.injEq, and_true, true_and, exists_eq_left', exists_eq_left, exists_and_left, exists_eq_right, exists_const, tBM, tBM0, rAppend, rPop, rIxL, rIxT, rIxS, rSlL, rSlT, rSlS, rCat, rCatT, tKGet, cx_w, bk_w, tDGet, tDisp, tPairs, tDNewK, cx_P]
  refine ⟨us.length, .inl ⟨_, SqL.of hra, rfl⟩, .inl ⟨by decide, by decide⟩, hN _ _ ?_⟩
  clear hN
  rw [show 2 * (us.length : Int) = ((2 * rows.length : Nat) : Int) by omega]
  refine seq_abs fun N hN => ?_
  simp only [tSeq, tFor_eq, tLC_eq, iRng1, iRng2, iList, iTup, iStr, tIfS, tRet, tRetN, tNext, tAsg, gName, tVar, tC, tOp, rI0, rI, tTest, tB, rEq, rNe, tCall, tCons, tNil, tCB, tLst, tTup, tAnd, tOr, tNot, tAndV, tOrV, tNotV, tIf, tDrop, tSl, tPart, tNoPart, tChain, tUn, rU, L2.start, cx_K, bk_K, cx_calm, bk_calm, lenV_str, and_assoc, Option.join, List.length_map, List.length_append, decide_eq_true_eq, Bool.false_eq_true, if_false, if_true, Bool.not_true, Bool.not_false, Bool.not_eq_true', decide_eq_false_iff_not, Bool.true_eq_false, List.length_cons, List.length_nil, List.map_cons, List.map_nil, List.replicate, List.cons_append, List.nil_append, List.append_nil, List.getElem?_cons_zero, List.getElem?_cons_succ, List.set_cons_zero, List.set_cons_succ, Nat.reduceSub, Nat.reduceAdd, Option.some.injEq, V.int.injEq, V.str.injEq, V.bl.injEq, V.ref.injEq, List.cons.injEq, and_true, true_and, exists_eq_left', exists_eq_left, exists_and_left, exists_eq_right, exists_const, tBM, tBM0, rAppend, rPop, rIxL, rIxT, rIxS, rSlL, rSlT, rSlS, rCat, rCatT, tKGet, cx_w, bk_w, tDGet, tDisp, tPairs, tDNewK, cx_P, tDNewT]
  refine fun pd hpd => hN _ _ ?_
  clear hN
  have s10 := same_new hpd (.dT [])
  have kpd : upd H2 pd (.dT []) pd = some (.dT (dS [])) := upd_same
  generalize upd H2 pd (.dT []) = H9 at s10 kpd ⊢
  replace hra := s10 _ _ hra
  replace hru := s10 _ _ hru
  replace hrw := DAts.same s10 hrw
  replace hrl := DAts.same s10 hrl
  clear s10 hpd
  refine seq_abs fun N hN => ?_
  simp only [tSeq, tFor_eq, tLC_eq, iRng1, iRng2, iList, iTup, iStr, tIfS, tRet, tRetN, tNext, tAsg, gName, tVar, tC, tOp, rI0, rI, tTest, tB, rEq, rNe, tCall, tCons, tNil, tCB, tLst, tTup, tAnd, tOr, tNot, tAndV, tOrV, tNotV, tIf, tDrop, tSl, tPart, tNoPart, tChain, tUn, rU, L2.start, cx_K, bk_K, cx_calm, bk_calm, lenV_str, and_assoc, Option.join, List.length_map, List.length_append, decide_eq_true_eq, Bool.false_eq_true, if_false, if_true, Bool.not_true, Bool.not_false, Bool.not_eq_true', decide_eq_false_iff_not, Bool.true_eq_false, List.length_cons, List.length_nil, List.map_cons, List.map_nil, List.replicate, List.cons_append, List.nil_append, List.append_nil, List.getElem?_cons_zero, List.getElem?_cons_succ, List.set_cons_zero, List.set_cons_succ, Nat.reduceSub, Nat.reduceAdd, Option.some.injEq, V.int.injEq, V.str.injEq, V.bl.injEq, V.ref.injEq, List.cons.injEq, and_true, true_and, exists_eq_left', exists_eq_left, exists_and_left, exists_eq_right, exists_const, tBM, tBM0, rAppend, rPop, rIxL, rIxT, rIxS, rSlL, rSlT, rSlS, rCat, rCatT, tKGet, cx_w, bk_w, tDGet, tDisp, tPairs, tDNewK, cx_P]
  refine hN _ _ ?_
  clear hN
  have D0 : PD pd rows rules H9 [] H9 [] := ⟨⟨_, kpd⟩, fun _ _ _ h => h, kpd, Stx.refl _⟩
  refine seq_join (fun σ H' => ∃ (S : List Pr) (o : Option V), PD pd rows rules H9 [] H' S ∧ Clo rows rules (fun i j => (i, j) ∈ S) ∧ σ = [some (V.ref a), some (V.ref mp), some (V.ref ra), some (V.ref ru), some (V.int ((2 * rows.length : Nat) : Int)), some (V.ref pd), o, none, none]) (fun N hN => ?_) (fun σ H' h => ?_)
  · simp only [tSeq, tFor_eq, tLC_eq, iRng1, iRng2, iList, iTup, iStr, tIfS, tRet, tRetN, tNext, tAsg, gName, tVar, tC, tOp, rI0, rI, tTest, tB, rEq, rNe, tCall, tCons, tNil, tCB, tLst, tTup, tAnd, tOr, tNot, tAndV, tOrV, tNotV, tIf, tDrop, tSl, tPart, tNoPart, tChain, tUn, rU, L2.start, cx_K, bk_K, cx_calm, bk_calm, lenV_str, and_assoc, Option.join, List.length_map, List.length_append, decide_eq_true_eq, Bool.false_eq_true, if_false, if_true, Bool.not_true, Bool.not_false, Bool.not_eq_true', decide_eq_false_iff_not, Bool.true_eq_false, List.length_cons, List.length_nil, List.map_cons, List.map_nil, List.replicate, List.cons_append, List.nil_append, List.append_nil, List.getElem?_cons_zero, List.getElem?_cons_succ, List.set_cons_zero, List.set_cons_succ, Nat.reduceSub, Nat.reduceAdd, Option.some.injEq, V.int.injEq, V.str.injEq, V.bl.injEq, V.ref.injEq, List.cons.injEq, and_true, true_and, exists_eq_left', exists_eq_left, exists_and_left, exists_eq_right, exists_const, tBM, tBM0, rAppend, rPop, rIxL, rIxT, rIxS, rSlL, rSlT, rSlS, rCat, rCatT, tKGet, cx_w, bk_w, tDGet, tDisp, tPairs, tDNewK, cx_P, tWhile]
    refine ⟨fun m σ H' => ∃ (S : List Pr) (k : Int), m = 40001 - (k + 1).toNat ∧ PD pd rows rules H9 [] H' S ∧ (k = -1 ∨ ∃ S0 : List Pr, k = (S0.length : Int) ∧ Pass rows rules S0 S) ∧ σ = [some (V.ref a), some (V.ref mp), some (V.ref ra), some (V.ref ru), some (V.int ((2 * rows.length : Nat) : Int)), some (V.ref pd), some (V.int k), none, none], ⟨_, [], -1, rfl, D0, .inl rfl, rfl⟩, fun m σ H' h => ?_⟩
    obtain ⟨S, k, rfl, D1, hk, rfl⟩ := h
    have hnd := D1.st.nd List.nodup_nil
    have hrg := D1.st.rng (fun p z => by cases z)
    have hl1 := D1.len List.nodup_nil (fun p z => by cases z) r100
    simp only [tSeq, tFor_eq, tLC_eq, iRng1, iRng2, iList, iTup, iStr, tIfS, tRet, tRetN, tNext, tAsg, gName, tVar, tC, tOp, rI0, rI, tTest, tB, rEq, rNe, tCall, tCons, tNil, tCB, tLst, tTup, tAnd, tOr, tNot, tAndV, tOrV, tNotV, tIf, tDrop, tSl, tPart, tNoPart, tChain, tUn, rU, L2.start, cx_K, bk_K, cx_calm, bk_calm, lenV_str, and_assoc, Option.join, List.length_map, List.length_append, decide_eq_true_eq, Bool.false_eq_true, if_false, if_true, Bool.not_true, Bool.not_false, Bool.not_eq_true', decide_eq_false_iff_not, Bool.true_eq_false, List.length_cons, List.length_nil, List.map_cons, List.map_nil, List.replicate, List.cons_append, List.nil_append, List.append_nil, List.getElem?_cons_zero, List.getElem?_cons_succ, List.set_cons_zero, List.set_cons_succ, Nat.reduceSub, Nat.reduceAdd, Option.some.injEq, V.int.injEq, V.str.injEq, V.bl.injEq, V.ref.injEq, List.cons.injEq, and_true, true_and, exists_eq_left', exists_eq_left, exists_and_left, exists_eq_right, exists_const, tBM, tBM0, rAppend, rPop, rIxL, rIxT, rIxS, rSlL, rSlT, rSlS, rCat, rCatT, tKGet, cx_w, bk_w, tDGet, tDisp, tPairs, tDNewK, cx_P]
    have hdl : (dS S).length = S.length := List.length_map _
    refine ⟨_, D1.now, ?_⟩
    rw [hdl]
    by_cases hlt : k < (S.length : Int)
    case neg =>
      rw [if_neg hlt]
      rcases hk with rfl | ⟨S0, rfl, hps⟩
      · omega
      · exact hN _ _ ⟨S, _, D1, hps.clo (by omega), rfl⟩
    rw [if_pos hlt]
    refine ⟨fun σ' H'' => ∃ S' : List Pr, PD pd rows rules H9 [] H'' S' ∧ Pass rows rules S S' ∧ σ' = [some (V.ref a), some (V.ref mp), some (V.ref ra), some (V.ref ru), some (V.int ((2 * rows.length : Nat) : Int)), some (V.ref pd), some (V.int S.length), none, none], fun σ' H'' h => ?_, ?_⟩
    · obtain ⟨S', D2, hps, rfl⟩ := h
      refine ⟨_, ?_, S', _, rfl, D2, .inr ⟨S, rfl, hps⟩, rfl⟩
      have : (k + 1).toNat ≤ S.length := by omega
      omega
    refine ⟨_, D1.now, ?_⟩
    rw [hdl]
    refine ⟨ra, pd, us, rows, rules, S, rfl, D1.lst hra, TAtsD D1 hrw, r1, r100, hin, D1.now, hnd, hrg, fun S2 H2 D2 a2 => ?_⟩
    have T2 := D1.trans D2
    refine ⟨ru, pd, ws, rows, rules, S2, rfl, T2.lst hru, TAtsD T2 hrl, r100, p100, hir, D2.now, D2.st.nd hnd, D2.st.rng hrg, fun S3 H3 D3 a3 => ?_⟩
    have T3 := T2.trans D3
    refine ⟨pd, rows, rules, S3, rfl, r100, D3.now, D3.st.nd (D2.st.nd hnd), D3.st.rng (D2.st.rng hrg), fun S4 H4 D4 a4 => ?_⟩
    exact ⟨S4, T3.trans D4, ⟨S2, S3, D2.st, a2, D3.st, a3, D4.st, a4⟩, rfl⟩
  obtain ⟨S, oS, D1, cS, rfl⟩ := h
  have hnd := D1.st.nd List.nodup_nil
  have hrg := D1.st.rng (fun p z => by cases z)
  have kpd' := D1.now
  replace hra := D1.lst hra
  replace hru := D1.lst hru
  replace hrw := TAtsD D1 hrw
  replace hrl := TAtsD D1 hrl
  have sub : ∀ X, Clo rows rules X → ∀ p ∈ S, X p.1 p.2 := fun X c => D1.st.snd X c (fun p z => by cases z)
  clear D1 D0 kpd
  refine seq_abs fun N hN => ?_
  simp only [tSeq, tFor_eq, tLC_eq, iRng1, iRng2, iList, iTup, iStr, tIfS, tRet, tRetN, tNext, tAsg, gName, tVar, tC, tOp, rI0, rI, tTest, tB, rEq, rNe, tCall, tCons, tNil, tCB, tLst, tTup, tAnd, tOr, tNot, tAndV, tOrV, tNotV, tIf, tDrop, tSl, tPart, tNoPart, tChain, tUn, rU, L2.start, cx_K, bk_K, cx_calm, bk_calm, lenV_str, and_assoc, Option.join, List.length_map, List.length_append, decide_eq_true_eq, Bool.false_eq_true, if_false, if_true, Bool.not_true, Bool.not_false, Bool.not_eq_true', decide_eq_false_iff_not, Bool.true_eq_false, List.length_cons, List.length_nil, List.map_cons, List.map_nil, List.replicate, List.cons_append, List.nil_append, List.append_nil, List.getElem?_cons_zero, List.getElem?_cons_succ, List.set_cons_zero, List.set_cons_succ, Nat.reduceSub, Nat.reduceAdd, Option.some.injEq, V.int.injEq, V.str.injEq, V.bl.injEq, V.ref.injEq, List.cons.injEq, and_true, true_and, exists_eq_left', exists_eq_left, exists_and_left, exists_eq_right, exists_const, tBM, tBM0, rAppend, rPop, rIxL, rIxT, rIxS, rSlL, rSlT, rSlS, rCat, rCatT, tKGet, cx_w, bk_w, tDGet, tDisp, tPairs, tDNewK, cx_P]
  refine ⟨_, .inl (SqL.of hra), fun w1 v1 => ?_⟩
  have s1 := same_new v1 (.lst us)
  have kw1 : upd H' w1 (.lst us) w1 = some (.lst us) := upd_same
  generalize upd H' w1 (.lst us) = H10 at s1 kw1 ⊢
  refine ⟨⟨_, SqL.of (s1 _ _ hru)⟩, ?_⟩
  refine lc_list (xs := ws) (fun i ys σ H2 => Same H10 H2 ∧ DAts H2 ((rules.take i).map dNR) ys ∧ ∃ o, σ = [o]) ⟨Same.refl _, rfl, _, rfl⟩ (small (by omega)) (fun i ys σ H2 e => ?_) (fun i ys σ H2 e => SqL.of (e.1 _ _ (s1 _ _ hru))) (fun i x ys σ H2 C hx e hC => ?_) (fun ys σ H3 e w2 v2 => ?_)
  · have := DAts.length e.2.1
    rw [List.length_map, List.length_take] at this
    omega
  · obtain ⟨es, hys, o, rfl⟩ := e
    obtain ⟨r, hr1, hr2⟩ := mapGetV hrl hx
    obtain ⟨a9, l9, b9, pus, rfl, ka9, kl9, kp9, kb9⟩ := nrAt (DAt.same (s1.trans es) hr2)
    simp only [tSeq, tFor_eq, tLC_eq, iRng1, iRng2, iList, iTup, iStr, tIfS, tRet, tRetN, tNext, tAsg, gName, tVar, tC, tOp, rI0, rI, tTest, tB, rEq, rNe, tCall, tCons, tNil, tCB, tLst, tTup, tAnd, tOr, tNot, tAndV, tOrV, tNotV, tIf, tDrop, tSl, tPart, tNoPart, tChain, tUn, rU, L2.start, cx_K, bk_K, cx_calm, bk_calm, lenV_str, and_assoc, Option.join, List.length_map, List.length_append, decide_eq_true_eq, Bool.false_eq_true, if_false, if_true, Bool.not_true, Bool.not_false, Bool.not_eq_true', decide_eq_false_iff_not, Bool.true_eq_false, List.length_cons, List.length_nil, List.map_cons, List.map_nil, List.replicate, List.cons_append, List.nil_append, List.append_nil, List.getElem?_cons_zero, List.getElem?_cons_succ, List.set_cons_zero, List.set_cons_succ, Nat.reduceSub, Nat.reduceAdd, Option.some.injEq, V.int.injEq, V.str.injEq, V.bl.injEq, V.ref.injEq, List.cons.injEq, and_true, true_and, exists_eq_left', exists_eq_left, exists_and_left, exists_eq_right, exists_const, tBM, tBM0, rAppend, rPop, rIxL, rIxT, rIxS, rSlL, rSlT, rSlS, rCat, rCatT, tKGet, cx_w, bk_w, tDGet, tDisp, tPairs, tDNewK, cx_P]
    refine ⟨_, SqT.of ka9, _, at0, l9, rfl, _, .inl (SqL.of kl9), fun w3 v3 => ?_⟩
    have s3 := same_new v3 (.lst pus)
    refine ⟨_, SqT.of (s3 _ _ ka9), _, at1, small (by simp), fun w4 v4 => hC _ _ _ ?_⟩
    have s4 := same_new v4 (.tup [.ref w3, .ref b9])
    have s5 := s3.trans s4
    exact ⟨es.trans s5, mapSnoc hr1 (DAts.same s5 hys) ⟨w4, _, rfl, upd_same, _, _, rfl, ⟨w3, _, rfl, s4 _ _ upd_same, DAts.same s5 kp9⟩, _, _, rfl, ⟨b9, _, rfl, s5 _ _ kb9, _, _, rfl, rfl, _, _, rfl, rfl, rfl⟩, rfl⟩, _, rfl⟩
  obtain ⟨es, hys, o, rfl⟩ := e
  rw [hwl, List.take_of_length_le (Nat.le_refl _)] at hys
  have s2 := same_new v2 (.lst ys)
  have kw2 : upd H3 w2 (.lst ys) w2 = some (.lst ys) := upd_same
  replace hys := DAts.same s2 hys
  replace s1 := s1.trans (es.trans s2)
  replace kw1 := s2 _ _ (es _ _ kw1)
  generalize upd H3 w2 (.lst ys) = H5 at s2 kw2 hys s1 kw1 ⊢
  replace hra := s1 _ _ hra
  replace hru := s1 _ _ hru
  replace hrw := DAts.same s1 hrw
  replace hrl := DAts.same s1 hrl
  replace kpd' := s1 _ _ kpd'
  clear s2 es v2 v1 s1
  refine ⟨w1, w2, us, ys, rows, rules, rfl, kw1, hrw, kw2, hys, r100, hin, u100, p100, fun la lw ln H8 s6 hla hln hok hPl hCl => hN _ _ ?_⟩
  clear hN
  replace hra := s6 _ _ hra
  replace hru := s6 _ _ hru
  replace hrw := DAts.same s6 hrw
  replace hrl := DAts.same s6 hrl
  replace kpd' := s6 _ _ kpd'
  have hll := mapLen hln
  have hN2 : ln.length ≤ 40000 := by
    have h1 := hok.len
    have h2 : (2 * rows.length) * (2 * rows.length) ≤ 200 * 200 := Nat.mul_le_mul (by omega) (by omega)
    omega
  have sz : ∀ {n : Nat}, n ≤ 40000 → n < sizeLine := fun h => Nat.lt_of_le_of_lt (m := 100000) (by omega) (by decide)
  have cL := closing_clo hPl hCl hir
  have inL := sub _ cL
  have inS := lines_in cS hok
  have hLen : ln.length = S.length := by
    have a : ln.length ≤ S.length := by
      have := nodup_subG (l := ln.map fun l => (l.i, l.j)) (m := S) ?_ fun x hx => ?_
      · rwa [List.length_map] at this
      · refine List.pairwise_iff_getElem.mpr fun a b ha hb hab e => ?_
        rw [List.length_map] at ha hb
        rw [List.getElem_map, List.getElem_map] at e
        have := hok.dis a b _ _ (List.getElem?_eq_getElem ha) (List.getElem?_eq_getElem hb) (congrArg Prod.fst e) (congrArg Prod.snd e)
        omega
      · obtain ⟨l, hl, rfl⟩ := List.mem_map.mp hx
        obtain ⟨k, hk, e⟩ := List.getElem_of_mem hl
        exact inS k l (by rw [List.getElem?_eq_getElem hk, e])
    have b : S.length ≤ ln.length := by
      have := nodup_subG (l := S) (m := ln.map fun l => (l.i, l.j)) hnd fun x hx => ?_
      · rwa [List.length_map] at this
      · obtain ⟨p, l, hl, h1, h2⟩ := hasP_iff.mp (inL x hx)
        exact List.mem_map.mpr ⟨l, List.mem_of_getElem? hl, Prod.ext h1 h2⟩
    omega
  clear hPl hCl cL sub
  have hdl : (dS S).length = S.length := List.length_map _
  refine seq_abs fun N hN => ?_
  simp only [tSeq, tFor_eq, tLC_eq, iRng1, iRng2, iList, iTup, iStr, tIfS, tRet, tRetN, tNext, tAsg, gName, tVar, tC, tOp, rI0, rI, tTest, tB, rEq, rNe, tCall, tCons, tNil, tCB, tLst, tTup, tAnd, tOr, tNot, tAndV, tOrV, tNotV, tIf, tDrop, tSl, tPart, tNoPart, tChain, tUn, rU, L2.start, cx_K, bk_K, cx_calm, bk_calm, lenV_str, and_assoc, Option.join, List.length_map, List.length_append, decide_eq_true_eq, Bool.false_eq_true, if_false, if_true, Bool.not_true, Bool.not_false, Bool.not_eq_true', decide_eq_false_iff_not, Bool.true_eq_false, List.length_cons, List.length_nil, List.map_cons, List.map_nil, List.replicate, List.cons_append, List.nil_append, List.append_nil, List.getElem?_cons_zero, List.getElem?_cons_succ, List.set_cons_zero, List.set_cons_succ, Nat.reduceSub, Nat.reduceAdd, Option.some.injEq, V.int.injEq, V.str.injEq, V.bl.injEq, V.ref.injEq, List.cons.injEq, and_true, true_and, exists_eq_left', exists_eq_left, exists_and_left, exists_eq_right, exists_const, tBM, tBM0, rAppend, rPop, rIxL, rIxT, rIxS, rSlL, rSlT, rSlS, rCat, rCatT, tKGet, cx_w, bk_w, tDGet, tDisp, tPairs, tDNewK, cx_P]
  refine ⟨_, .lst hla, _, kit_same, ?_⟩
  rw [if_neg (by decide)]
  refine ⟨lw.length, .inl ⟨_, SqL.of hla, rfl⟩, _, kpd', rfl, ?_⟩
  rw [hdl, if_neg (by rw [hll, hLen]; simp)]
  refine hN _ _ ?_
  clear hN
  have sB : ∀ (b : Pr → Bool) {n : Nat}, n ≤ 40000 → n < sizeLine := fun _ _ h => sz h
  refine seq_join (fun σ H' => ∃ (b : Pr → Bool) (o : Option V), H' pd = some (.dT (dB b S)) ∧ (∀ p ∈ S, b p = false) ∧ σ = [some (V.ref a), some (V.ref mp), some (V.ref ra), some (V.ref ru), some (V.int ((2 * rows.length : Nat) : Int)), some (V.ref pd), oS, some (V.ref la), o]) (fun N hN => ?_) (fun σ H' h => ?_)
  · simp only [tSeq, tFor_eq, tLC_eq, iRng1, iRng2, iList, iTup, iStr, tIfS, tRet, tRetN, tNext, tAsg, gName, tVar, tC, tOp, rI0, rI, tTest, tB, rEq, rNe, tCall, tCons, tNil, tCB, tLst, tTup, tAnd, tOr, tNot, tAndV, tOrV, tNotV, tIf, tDrop, tSl, tPart, tNoPart, tChain, tUn, rU, L2.start, cx_K, bk_K, cx_calm, bk_calm, lenV_str, and_assoc, Option.join, List.length_map, List.length_append, decide_eq_true_eq, Bool.false_eq_true, if_false, if_true, Bool.not_true, Bool.not_false, Bool.not_eq_true', decide_eq_false_iff_not, Bool.true_eq_false, List.length_cons, List.length_nil, List.map_cons, List.map_nil, List.replicate, List.cons_append, List.nil_append, List.append_nil, List.getElem?_cons_zero, List.getElem?_cons_succ, List.set_cons_zero, List.set_cons_succ, Nat.reduceSub, Nat.reduceAdd, Option.some.injEq, V.int.injEq, V.str.injEq, V.bl.injEq, V.ref.injEq, List.cons.injEq, and_true, true_and, exists_eq_left', exists_eq_left, exists_and_left, exists_eq_right, exists_const, tBM, tBM0, rAppend, rPop, rIxL, rIxT, rIxS, rSlL, rSlT, rSlS, rCat, rCatT, tKGet, cx_w, bk_w, tDGet, tDisp, tPairs, tDNewK, cx_P]
    refine ⟨⟨_, SqL.of hla⟩, ?_⟩
    refine fw_list (xs := lw) (fun k σ H' => ∃ (b : Pr → Bool) (o : Option V), H' pd = some (.dT (dB b S)) ∧ (∀ c o, c ≠ pd → H8 c = some o → H' c = some o) ∧ (∀ l ∈ ln.take k, b (l.i, l.j) = false) ∧ σ = [some (V.ref a), some (V.ref mp), some (V.ref ra), some (V.ref ru), some (V.int ((2 * rows.length : Nat) : Int)), some (V.ref pd), oS, some (V.ref la), o]) ⟨fun _ => true, _, kpd', fun _ _ _ h => h, fun l hl => by simp at hl, rfl⟩ (fun k σ H' _ h => ?_) (fun k x σ H' hx h => ?_) (fun σ H' h => ?_)
    · obtain ⟨b, o, k1, k2, k3, rfl⟩ := h
      exact SqL.of (k2 _ _ (fun z => by rw [z, kpd'] at hla; cases hla) hla)
    · obtain ⟨b, o, k1, k2, k3, rfl⟩ := h
      obtain ⟨l, hlk, hld⟩ := mapGetV hln hx
      obtain ⟨xa, u, rfl, hxa, hu⟩ := lnAt hld
      replace hxa := k2 _ _ (fun z => by rw [z, kpd'] at hxa; cases hxa) hxa
      obtain ⟨hkl, hk2⟩ := List.getElem?_eq_some_iff.mp hlk
      have hin' := inS k l hlk
      simp only [tSeq, tFor_eq, tLC_eq, iRng1, iRng2, iList, iTup, iStr, tIfS, tRet, tRetN, tNext, tAsg, gName, tVar, tC, tOp, rI0, rI, tTest, tB, rEq, rNe, tCall, tCons, tNil, tCB, tLst, tTup, tAnd, tOr, tNot, tAndV, tOrV, tNotV, tIf, tDrop, tSl, tPart, tNoPart, tChain, tUn, rU, L2.start, cx_K, bk_K, cx_calm, bk_calm, lenV_str, and_assoc, Option.join, List.length_map, List.length_append, decide_eq_true_eq, Bool.false_eq_true, if_false, if_true, Bool.not_true, Bool.not_false, Bool.not_eq_true', decide_eq_false_iff_not, Bool.true_eq_false, List.length_cons, List.length_nil, List.map_cons, List.map_nil, List.replicate, List.cons_append, List.nil_append, List.append_nil, List.getElem?_cons_zero, List.getElem?_cons_succ, List.set_cons_zero, List.set_cons_succ, Nat.reduceSub, Nat.reduceAdd, Option.some.injEq, V.int.injEq, V.str.injEq, V.bl.injEq, V.ref.injEq, List.cons.injEq, and_true, true_and, exists_eq_left', exists_eq_left, exists_and_left, exists_eq_right, exists_const, tBM, tBM0, rAppend, rPop, rIxL, rIxT, rIxS, rSlL, rSlT, rSlS, rCat, rCatT, tKGet, cx_w, bk_w, tDGet, tDisp, tPairs, tDNewK, cx_P, sDPut, tDNotIn]
      refine ⟨_, SqT.of hxa, _, at0, _, SqT.of hxa, _, at1, small (by decide), fun p1 hp1 => ?_⟩
      have s13 := same_new hp1 (.tup [V.int l.i, V.int l.j])
      have kp1 : upd H' p1 (.tup [V.int l.i, V.int l.j]) p1 = some (.tup [V.int l.i, V.int l.j]) := upd_same
      generalize upd H' p1 (.tup [V.int l.i, V.int l.j]) = H13 at s13 kp1 ⊢
      replace k1 := s13 _ _ k1
      replace hxa := s13 _ _ hxa
      refine ⟨_, .inr ⟨_, key2 l.i l.j, p1, .inl k1, rfl, kp1, rfl⟩, ?_⟩
      rw [dB_val S hin', if_neg (by simp)]
      refine ⟨_, SqT.of hxa, _, at0, _, SqT.of hxa, _, at1, small (by decide), fun p2 hp2 => ?_⟩
      have s14 := same_new hp2 (.tup [V.int l.i, V.int l.j])
      have kp2 : upd H13 p2 (.tup [V.int l.i, V.int l.j]) p2 = some (.tup [V.int l.i, V.int l.j]) := upd_same
      generalize upd H13 p2 (.tup [V.int l.i, V.int l.j]) = H14 at s14 kp2 ⊢
      replace k1 := s14 _ _ k1
      refine ⟨_, .inr ⟨_, key2 l.i l.j, p2, k1, rfl, kp2, sz (by show (S.map _).length ≤ _; rw [List.length_map]; omega), rfl⟩, fun p => b p && !decide (p = (l.i, l.j)), ?_, fun c o hc ho => ?_, fun l' hl' => ?_, (by first | exact rfl | exact ⟨_, rfl⟩ | exact ⟨_, _, rfl⟩)⟩
      · rw [upd_same, dB_put hin']
      · rw [upd_ne hc]
        exact s14 _ _ (s13 _ _ (k2 c o hc ho))
      · rw [List.take_succ_eq_append_getElem hkl, hk2] at hl'
        rcases List.mem_append.mp hl' with hp | hp
        · show (b (l'.i, l'.j) && _) = false
          rw [k3 l' hp]; rfl
        · rw [List.mem_singleton.mp hp]
          show (b (l.i, l.j) && !decide ((l.i, l.j) = (l.i, l.j))) = false
          rw [decide_eq_true rfl]; simp
    · obtain ⟨b, o, k1, k2, k3, rfl⟩ := h
      rw [hll, List.take_of_length_le (Nat.le_refl _)] at k3
      refine hN _ _ ⟨b, _, k1, fun p hp => ?_, rfl⟩
      obtain ⟨k, l, hl, h1, h2⟩ := hasP_iff.mp (inL p hp)
      have := k3 l (List.mem_of_getElem? hl)
      rwa [h1, h2] at this
  obtain ⟨b, o, k1, k2, rfl⟩ := h
  simp only [tSeq, tFor_eq, tLC_eq, iRng1, iRng2, iList, iTup, iStr, tIfS, tRet, tRetN, tNext, tAsg, gName, tVar, tC, tOp, rI0, rI, tTest, tB, rEq, rNe, tCall, tCons, tNil, tCB, tLst, tTup, tAnd, tOr, tNot, tAndV, tOrV, tNotV, tIf, tDrop, tSl, tPart, tNoPart, tChain, tUn, rU, L2.start, cx_K, bk_K, cx_calm, bk_calm, lenV_str, and_assoc, Option.join, List.length_map, List.length_append, decide_eq_true_eq, Bool.false_eq_true, if_false, if_true, Bool.not_true, Bool.not_false, Bool.not_eq_true', decide_eq_false_iff_not, Bool.true_eq_false, List.length_cons, List.length_nil, List.map_cons, List.map_nil, List.replicate, List.cons_append, List.nil_append, List.append_nil, List.getElem?_cons_zero, List.getElem?_cons_succ, List.set_cons_zero, List.set_cons_succ, Nat.reduceSub, Nat.reduceAdd, Option.some.injEq, V.int.injEq, V.str.injEq, V.bl.injEq, V.ref.injEq, List.cons.injEq, and_true, true_and, exists_eq_left', exists_eq_left, exists_and_left, exists_eq_right, exists_const, tBM, tBM0, rAppend, rPop, rIxL, rIxT, rIxS, rSlL, rSlT, rSlS, rCat, rCatT, tKGet, cx_w, bk_w, tDGet, tDisp, tPairs, tDNewK, cx_P, tLV]
  refine ⟨_, k1, fun l hl => ?_⟩
  refine ⟨1, .bl true, S.map fun p => .bl (b p), rfl, .inl ⟨l, _, rfl, upd_same, dB_at S⟩, fun e he => ?_, by decide, ?_⟩
  · obtain ⟨p, _, rfl⟩ := List.mem_map.mp he
    trivial
  have e : ((S.map fun p => Dt.bl (b p)).any fun e => deq e (.bl true)) = false := by
    rw [List.any_eq_false]
    intro x hx
    obtain ⟨p, hp, rfl⟩ := List.mem_map.mp hx
    rw [k2 p hp]
    decide
  rw [e]
  exact q _
end
end C
set_option Elab.async false
set_option linter.all false
set_option maxRecDepth 100000
set_option maxHeartbeats 8000000
namespace C
open PySem L2
seal PE PT PW PA PS PSs PG PGs PI PPs PO PSet PIf
theorem all_mk {l : PySem.W.OpenLaw} {w : World} {K : PySem.W.Frag} {h : Heap} {mg : Str → Option Value} {fa : Addr} (X : K.In h) (G : h.Ns mainGlobals mg) (hfa : mg "law" = some (.ref fa))
    {C_Growth : Addr} (aC_Growth : PySem.W.nsIn K mainGlobals "Growth" = some (some (.ref C_Growth)))
    {f_Growth_init : Addr} {od_Growth_init an_Growth_init : Option Addr} {sl_Growth_init : Array (Option Value)} {oc_Growth_init kV_Growth_init dc_Growth_init pm_Growth_init cd_Growth_init ct_Growth_init : Value} (a_Growth_init : PySem.W.findIn K (.ref C_Growth) "__init__" = some (some (.ref f_Growth_init))) (i_Growth_init : PySem.W.isFn K (.ref f_Growth_init) = true) (l_Growth_init : K.lookup f_Growth_init = some ⟨oc_Growth_init, od_Growth_init, .func (PySem.W.fnOf "__init__" "Growth.__init__" (defArgs s_Growth_init) (defBody s_Growth_init) (defScope s_Growth_init) .none kV_Growth_init dc_Growth_init pm_Growth_init an_Growth_init cd_Growth_init ct_Growth_init), sl_Growth_init⟩) (c_Growth_init : PySem.W.codeIn K cd_Growth_init "Growth.__init__" = true) (k_Growth_init : PySem.W.keepIn K (.ref f_Growth_init) = true)
    {f_Growth_line_of : Addr} {od_Growth_line_of an_Growth_line_of : Option Addr} {sl_Growth_line_of : Array (Option Value)} {oc_Growth_line_of kV_Growth_line_of dc_Growth_line_of pm_Growth_line_of cd_Growth_line_of ct_Growth_line_of : Value} (a_Growth_line_of : PySem.W.findIn K (.ref C_Growth) "line_of" = some (some (.ref f_Growth_line_of))) (i_Growth_line_of : PySem.W.isFn K (.ref f_Growth_line_of) = true) (l_Growth_line_of : K.lookup f_Growth_line_of = some ⟨oc_Growth_line_of, od_Growth_line_of, .func (PySem.W.fnOf "line_of" "Growth.line_of" (defArgs s_Growth_line_of) (defBody s_Growth_line_of) (defScope s_Growth_line_of) .none kV_Growth_line_of dc_Growth_line_of pm_Growth_line_of an_Growth_line_of cd_Growth_line_of ct_Growth_line_of), sl_Growth_line_of⟩) (c_Growth_line_of : PySem.W.codeIn K cd_Growth_line_of "Growth.line_of" = true) (k_Growth_line_of : PySem.W.keepIn K (.ref f_Growth_line_of) = true)
    {f_Growth_has : Addr} {od_Growth_has an_Growth_has : Option Addr} {sl_Growth_has : Array (Option Value)} {oc_Growth_has kV_Growth_has dc_Growth_has pm_Growth_has cd_Growth_has ct_Growth_has : Value} (a_Growth_has : PySem.W.findIn K (.ref C_Growth) "has" = some (some (.ref f_Growth_has))) (i_Growth_has : PySem.W.isFn K (.ref f_Growth_has) = true) (l_Growth_has : K.lookup f_Growth_has = some ⟨oc_Growth_has, od_Growth_has, .func (PySem.W.fnOf "has" "Growth.has" (defArgs s_Growth_has) (defBody s_Growth_has) (defScope s_Growth_has) .none kV_Growth_has dc_Growth_has pm_Growth_has an_Growth_has cd_Growth_has ct_Growth_has), sl_Growth_has⟩) (c_Growth_has : PySem.W.codeIn K cd_Growth_has "Growth.has" = true) (k_Growth_has : PySem.W.keepIn K (.ref f_Growth_has) = true)
    {f_Growth_grow : Addr} {od_Growth_grow an_Growth_grow : Option Addr} {sl_Growth_grow : Array (Option Value)} {oc_Growth_grow kV_Growth_grow dc_Growth_grow pm_Growth_grow cd_Growth_grow ct_Growth_grow : Value} (a_Growth_grow : PySem.W.findIn K (.ref C_Growth) "grow" = some (some (.ref f_Growth_grow))) (i_Growth_grow : PySem.W.isFn K (.ref f_Growth_grow) = true) (l_Growth_grow : K.lookup f_Growth_grow = some ⟨oc_Growth_grow, od_Growth_grow, .func (PySem.W.fnOf "grow" "Growth.grow" (defArgs s_Growth_grow) (defBody s_Growth_grow) (defScope s_Growth_grow) .none kV_Growth_grow dc_Growth_grow pm_Growth_grow an_Growth_grow cd_Growth_grow ct_Growth_grow), sl_Growth_grow⟩) (c_Growth_grow : PySem.W.codeIn K cd_Growth_grow "Growth.grow" = true) (k_Growth_grow : PySem.W.keepIn K (.ref f_Growth_grow) = true)
    (pg_Growth : PySem.W.plainGet K C_Growth Str.empty = true) (hd_Growth : PySem.W.hasDictIn K C_Growth = true) (po_Growth : PySem.W.plainOver K C_Growth = true) (sa_Growth : PySem.W.findIn K (.ref C_Growth) "__setattr__" = some (some (.builtin "object.__setattr__"))) (mk_Growth : PySem.W.makesIn K C_Growth = true) (kc_Growth : PySem.W.keepIn K (.ref C_Growth) = true) (n_Growth_lines : PySem.W.findIn K (.ref C_Growth) "lines" = some none) (n_Growth_places : PySem.W.findIn K (.ref C_Growth) "places" = some none) (n_Growth_above : PySem.W.findIn K (.ref C_Growth) "above" = some none) (n_Growth_below : PySem.W.findIn K (.ref C_Growth) "below" = some none)
    {f_is_whole : Addr} {od_is_whole an_is_whole : Option Addr} {sl_is_whole : Array (Option Value)} {oc_is_whole kV_is_whole dc_is_whole pm_is_whole cd_is_whole ct_is_whole : Value} (a_is_whole : PySem.W.nsIn K mainGlobals "is_whole" = some (some (.ref f_is_whole))) (l_is_whole : K.lookup f_is_whole = some ⟨oc_is_whole, od_is_whole, .func (PySem.W.fnOf "is_whole" "is_whole" (defArgs s_is_whole) (defBody s_is_whole) (defScope s_is_whole) .none kV_is_whole dc_is_whole pm_is_whole an_is_whole cd_is_whole ct_is_whole), sl_is_whole⟩) (c_is_whole : PySem.W.codeIn K cd_is_whole "is_whole" = true) (k_is_whole : PySem.W.keepIn K (.ref f_is_whole) = true)
    {f_is_below : Addr} {od_is_below an_is_below : Option Addr} {sl_is_below : Array (Option Value)} {oc_is_below kV_is_below dc_is_below pm_is_below cd_is_below ct_is_below : Value} (a_is_below : PySem.W.nsIn K mainGlobals "is_below" = some (some (.ref f_is_below))) (l_is_below : K.lookup f_is_below = some ⟨oc_is_below, od_is_below, .func (PySem.W.fnOf "is_below" "is_below" (defArgs s_is_below) (defBody s_is_below) (defScope s_is_below) .none kV_is_below dc_is_below pm_is_below an_is_below cd_is_below ct_is_below), sl_is_below⟩) (c_is_below : PySem.W.codeIn K cd_is_below "is_below" = true) (k_is_below : PySem.W.keepIn K (.ref f_is_below) = true)
    {f_bits_of : Addr} {od_bits_of an_bits_of : Option Addr} {sl_bits_of : Array (Option Value)} {oc_bits_of kV_bits_of dc_bits_of pm_bits_of cd_bits_of ct_bits_of : Value} (a_bits_of : PySem.W.nsIn K mainGlobals "bits_of" = some (some (.ref f_bits_of))) (l_bits_of : K.lookup f_bits_of = some ⟨oc_bits_of, od_bits_of, .func (PySem.W.fnOf "bits_of" "bits_of" (defArgs s_bits_of) (defBody s_bits_of) (defScope s_bits_of) .none kV_bits_of dc_bits_of pm_bits_of an_bits_of cd_bits_of ct_bits_of), sl_bits_of⟩) (c_bits_of : PySem.W.codeIn K cd_bits_of "bits_of" = true) (k_bits_of : PySem.W.keepIn K (.ref f_bits_of) = true)
    {f_begin : Addr} {od_begin an_begin : Option Addr} {sl_begin : Array (Option Value)} {oc_begin kV_begin dc_begin pm_begin cd_begin ct_begin : Value} (a_begin : PySem.W.nsIn K mainGlobals "begin" = some (some (.ref f_begin))) (l_begin : K.lookup f_begin = some ⟨oc_begin, od_begin, .func (PySem.W.fnOf "begin" "begin" (defArgs s_begin) (defBody s_begin) (defScope s_begin) .none kV_begin dc_begin pm_begin an_begin cd_begin ct_begin), sl_begin⟩) (c_begin : PySem.W.codeIn K cd_begin "begin" = true) (k_begin : PySem.W.keepIn K (.ref f_begin) = true)
    {f_boths_by_part : Addr} {od_boths_by_part an_boths_by_part : Option Addr} {sl_boths_by_part : Array (Option Value)} {oc_boths_by_part kV_boths_by_part dc_boths_by_part pm_boths_by_part cd_boths_by_part ct_boths_by_part : Value} (a_boths_by_part : PySem.W.nsIn K mainGlobals "boths_by_part" = some (some (.ref f_boths_by_part))) (l_boths_by_part : K.lookup f_boths_by_part = some ⟨oc_boths_by_part, od_boths_by_part, .func (PySem.W.fnOf "boths_by_part" "boths_by_part" (defArgs s_boths_by_part) (defBody s_boths_by_part) (defScope s_boths_by_part) .none kV_boths_by_part dc_boths_by_part pm_boths_by_part an_boths_by_part cd_boths_by_part ct_boths_by_part), sl_boths_by_part⟩) (c_boths_by_part : PySem.W.codeIn K cd_boths_by_part "boths_by_part" = true) (k_boths_by_part : PySem.W.keepIn K (.ref f_boths_by_part) = true)
    {f_rules_by_premise : Addr} {od_rules_by_premise an_rules_by_premise : Option Addr} {sl_rules_by_premise : Array (Option Value)} {oc_rules_by_premise kV_rules_by_premise dc_rules_by_premise pm_rules_by_premise cd_rules_by_premise ct_rules_by_premise : Value} (a_rules_by_premise : PySem.W.nsIn K mainGlobals "rules_by_premise" = some (some (.ref f_rules_by_premise))) (l_rules_by_premise : K.lookup f_rules_by_premise = some ⟨oc_rules_by_premise, od_rules_by_premise, .func (PySem.W.fnOf "rules_by_premise" "rules_by_premise" (defArgs s_rules_by_premise) (defBody s_rules_by_premise) (defScope s_rules_by_premise) .none kV_rules_by_premise dc_rules_by_premise pm_rules_by_premise an_rules_by_premise cd_rules_by_premise ct_rules_by_premise), sl_rules_by_premise⟩) (c_rules_by_premise : PySem.W.codeIn K cd_rules_by_premise "rules_by_premise" = true) (k_rules_by_premise : PySem.W.keepIn K (.ref f_rules_by_premise) = true)
    {f_grow_by_turn : Addr} {od_grow_by_turn an_grow_by_turn : Option Addr} {sl_grow_by_turn : Array (Option Value)} {oc_grow_by_turn kV_grow_by_turn dc_grow_by_turn pm_grow_by_turn cd_grow_by_turn ct_grow_by_turn : Value} (a_grow_by_turn : PySem.W.nsIn K mainGlobals "grow_by_turn" = some (some (.ref f_grow_by_turn))) (l_grow_by_turn : K.lookup f_grow_by_turn = some ⟨oc_grow_by_turn, od_grow_by_turn, .func (PySem.W.fnOf "grow_by_turn" "grow_by_turn" (defArgs s_grow_by_turn) (defBody s_grow_by_turn) (defScope s_grow_by_turn) .none kV_grow_by_turn dc_grow_by_turn pm_grow_by_turn an_grow_by_turn cd_grow_by_turn ct_grow_by_turn), sl_grow_by_turn⟩) (c_grow_by_turn : PySem.W.codeIn K cd_grow_by_turn "grow_by_turn" = true) (k_grow_by_turn : PySem.W.keepIn K (.ref f_grow_by_turn) = true)
    {f_grow_by_chain : Addr} {od_grow_by_chain an_grow_by_chain : Option Addr} {sl_grow_by_chain : Array (Option Value)} {oc_grow_by_chain kV_grow_by_chain dc_grow_by_chain pm_grow_by_chain cd_grow_by_chain ct_grow_by_chain : Value} (a_grow_by_chain : PySem.W.nsIn K mainGlobals "grow_by_chain" = some (some (.ref f_grow_by_chain))) (l_grow_by_chain : K.lookup f_grow_by_chain = some ⟨oc_grow_by_chain, od_grow_by_chain, .func (PySem.W.fnOf "grow_by_chain" "grow_by_chain" (defArgs s_grow_by_chain) (defBody s_grow_by_chain) (defScope s_grow_by_chain) .none kV_grow_by_chain dc_grow_by_chain pm_grow_by_chain an_grow_by_chain cd_grow_by_chain ct_grow_by_chain), sl_grow_by_chain⟩) (c_grow_by_chain : PySem.W.codeIn K cd_grow_by_chain "grow_by_chain" = true) (k_grow_by_chain : PySem.W.keepIn K (.ref f_grow_by_chain) = true)
    {f_grow_by_both : Addr} {od_grow_by_both an_grow_by_both : Option Addr} {sl_grow_by_both : Array (Option Value)} {oc_grow_by_both kV_grow_by_both dc_grow_by_both pm_grow_by_both cd_grow_by_both ct_grow_by_both : Value} (a_grow_by_both : PySem.W.nsIn K mainGlobals "grow_by_both" = some (some (.ref f_grow_by_both))) (l_grow_by_both : K.lookup f_grow_by_both = some ⟨oc_grow_by_both, od_grow_by_both, .func (PySem.W.fnOf "grow_by_both" "grow_by_both" (defArgs s_grow_by_both) (defBody s_grow_by_both) (defScope s_grow_by_both) .none kV_grow_by_both dc_grow_by_both pm_grow_by_both an_grow_by_both cd_grow_by_both ct_grow_by_both), sl_grow_by_both⟩) (c_grow_by_both : PySem.W.codeIn K cd_grow_by_both "grow_by_both" = true) (k_grow_by_both : PySem.W.keepIn K (.ref f_grow_by_both) = true)
    {f_grow_by_clash : Addr} {od_grow_by_clash an_grow_by_clash : Option Addr} {sl_grow_by_clash : Array (Option Value)} {oc_grow_by_clash kV_grow_by_clash dc_grow_by_clash pm_grow_by_clash cd_grow_by_clash ct_grow_by_clash : Value} (a_grow_by_clash : PySem.W.nsIn K mainGlobals "grow_by_clash" = some (some (.ref f_grow_by_clash))) (l_grow_by_clash : K.lookup f_grow_by_clash = some ⟨oc_grow_by_clash, od_grow_by_clash, .func (PySem.W.fnOf "grow_by_clash" "grow_by_clash" (defArgs s_grow_by_clash) (defBody s_grow_by_clash) (defScope s_grow_by_clash) .none kV_grow_by_clash dc_grow_by_clash pm_grow_by_clash an_grow_by_clash cd_grow_by_clash ct_grow_by_clash), sl_grow_by_clash⟩) (c_grow_by_clash : PySem.W.codeIn K cd_grow_by_clash "grow_by_clash" = true) (k_grow_by_clash : PySem.W.keepIn K (.ref f_grow_by_clash) = true)
    {f_grow_by_rule : Addr} {od_grow_by_rule an_grow_by_rule : Option Addr} {sl_grow_by_rule : Array (Option Value)} {oc_grow_by_rule kV_grow_by_rule dc_grow_by_rule pm_grow_by_rule cd_grow_by_rule ct_grow_by_rule : Value} (a_grow_by_rule : PySem.W.nsIn K mainGlobals "grow_by_rule" = some (some (.ref f_grow_by_rule))) (l_grow_by_rule : K.lookup f_grow_by_rule = some ⟨oc_grow_by_rule, od_grow_by_rule, .func (PySem.W.fnOf "grow_by_rule" "grow_by_rule" (defArgs s_grow_by_rule) (defBody s_grow_by_rule) (defScope s_grow_by_rule) .none kV_grow_by_rule dc_grow_by_rule pm_grow_by_rule an_grow_by_rule cd_grow_by_rule ct_grow_by_rule), sl_grow_by_rule⟩) (c_grow_by_rule : PySem.W.codeIn K cd_grow_by_rule "grow_by_rule" = true) (k_grow_by_rule : PySem.W.keepIn K (.ref f_grow_by_rule) = true)
    {f_closing : Addr} {od_closing an_closing : Option Addr} {sl_closing : Array (Option Value)} {oc_closing kV_closing dc_closing pm_closing cd_closing ct_closing : Value} (a_closing : PySem.W.nsIn K mainGlobals "closing" = some (some (.ref f_closing))) (l_closing : K.lookup f_closing = some ⟨oc_closing, od_closing, .func (PySem.W.fnOf "closing" "closing" (defArgs s_closing) (defBody s_closing) (defScope s_closing) .none kV_closing dc_closing pm_closing an_closing cd_closing ct_closing), sl_closing⟩) (c_closing : PySem.W.codeIn K cd_closing "closing" = true) (k_closing : PySem.W.keepIn K (.ref f_closing) = true)
    {f_law_name_by : Addr} {od_law_name_by an_law_name_by : Option Addr} {sl_law_name_by : Array (Option Value)} {oc_law_name_by kV_law_name_by dc_law_name_by pm_law_name_by cd_law_name_by ct_law_name_by : Value} (a_law_name_by : PySem.W.nsIn K mainGlobals "_law_name_by" = some (some (.ref f_law_name_by))) (l_law_name_by : K.lookup f_law_name_by = some ⟨oc_law_name_by, od_law_name_by, .func (PySem.W.fnOf "_law_name_by" "_law_name_by" (defArgs s_law_name_by) (defBody s_law_name_by) (defScope s_law_name_by) .none kV_law_name_by dc_law_name_by pm_law_name_by an_law_name_by cd_law_name_by ct_law_name_by), sl_law_name_by⟩) (c_law_name_by : PySem.W.codeIn K cd_law_name_by "_law_name_by" = true) (k_law_name_by : PySem.W.keepIn K (.ref f_law_name_by) = true)
    {f_law_turned : Addr} {od_law_turned an_law_turned : Option Addr} {sl_law_turned : Array (Option Value)} {oc_law_turned kV_law_turned dc_law_turned pm_law_turned cd_law_turned ct_law_turned : Value} (a_law_turned : PySem.W.nsIn K mainGlobals "_law_turned" = some (some (.ref f_law_turned))) (l_law_turned : K.lookup f_law_turned = some ⟨oc_law_turned, od_law_turned, .func (PySem.W.fnOf "_law_turned" "_law_turned" (defArgs s_law_turned) (defBody s_law_turned) (defScope s_law_turned) .none kV_law_turned dc_law_turned pm_law_turned an_law_turned cd_law_turned ct_law_turned), sl_law_turned⟩) (c_law_turned : PySem.W.codeIn K cd_law_turned "_law_turned" = true) (k_law_turned : PySem.W.keepIn K (.ref f_law_turned) = true)
    {f_law_sheet_and_rules : Addr} {od_law_sheet_and_rules an_law_sheet_and_rules : Option Addr} {sl_law_sheet_and_rules : Array (Option Value)} {oc_law_sheet_and_rules kV_law_sheet_and_rules dc_law_sheet_and_rules pm_law_sheet_and_rules cd_law_sheet_and_rules ct_law_sheet_and_rules : Value} (a_law_sheet_and_rules : PySem.W.nsIn K mainGlobals "_law_sheet_and_rules" = some (some (.ref f_law_sheet_and_rules))) (l_law_sheet_and_rules : K.lookup f_law_sheet_and_rules = some ⟨oc_law_sheet_and_rules, od_law_sheet_and_rules, .func (PySem.W.fnOf "_law_sheet_and_rules" "_law_sheet_and_rules" (defArgs s_law_sheet_and_rules) (defBody s_law_sheet_and_rules) (defScope s_law_sheet_and_rules) .none kV_law_sheet_and_rules dc_law_sheet_and_rules pm_law_sheet_and_rules an_law_sheet_and_rules cd_law_sheet_and_rules ct_law_sheet_and_rules), sl_law_sheet_and_rules⟩) (c_law_sheet_and_rules : PySem.W.codeIn K cd_law_sheet_and_rules "_law_sheet_and_rules" = true) (k_law_sheet_and_rules : PySem.W.keepIn K (.ref f_law_sheet_and_rules) = true)
    {f_law_pass_alone : Addr} {od_law_pass_alone an_law_pass_alone : Option Addr} {sl_law_pass_alone : Array (Option Value)} {oc_law_pass_alone kV_law_pass_alone dc_law_pass_alone pm_law_pass_alone cd_law_pass_alone ct_law_pass_alone : Value} (a_law_pass_alone : PySem.W.nsIn K mainGlobals "_law_pass_alone" = some (some (.ref f_law_pass_alone))) (l_law_pass_alone : K.lookup f_law_pass_alone = some ⟨oc_law_pass_alone, od_law_pass_alone, .func (PySem.W.fnOf "_law_pass_alone" "_law_pass_alone" (defArgs s_law_pass_alone) (defBody s_law_pass_alone) (defScope s_law_pass_alone) .none kV_law_pass_alone dc_law_pass_alone pm_law_pass_alone an_law_pass_alone cd_law_pass_alone ct_law_pass_alone), sl_law_pass_alone⟩) (c_law_pass_alone : PySem.W.codeIn K cd_law_pass_alone "_law_pass_alone" = true) (k_law_pass_alone : PySem.W.keepIn K (.ref f_law_pass_alone) = true)
    {f_law_pass_chains : Addr} {od_law_pass_chains an_law_pass_chains : Option Addr} {sl_law_pass_chains : Array (Option Value)} {oc_law_pass_chains kV_law_pass_chains dc_law_pass_chains pm_law_pass_chains cd_law_pass_chains ct_law_pass_chains : Value} (a_law_pass_chains : PySem.W.nsIn K mainGlobals "_law_pass_chains" = some (some (.ref f_law_pass_chains))) (l_law_pass_chains : K.lookup f_law_pass_chains = some ⟨oc_law_pass_chains, od_law_pass_chains, .func (PySem.W.fnOf "_law_pass_chains" "_law_pass_chains" (defArgs s_law_pass_chains) (defBody s_law_pass_chains) (defScope s_law_pass_chains) .none kV_law_pass_chains dc_law_pass_chains pm_law_pass_chains an_law_pass_chains cd_law_pass_chains ct_law_pass_chains), sl_law_pass_chains⟩) (c_law_pass_chains : PySem.W.codeIn K cd_law_pass_chains "_law_pass_chains" = true) (k_law_pass_chains : PySem.W.keepIn K (.ref f_law_pass_chains) = true)
    {f_law_pass_rules : Addr} {od_law_pass_rules an_law_pass_rules : Option Addr} {sl_law_pass_rules : Array (Option Value)} {oc_law_pass_rules kV_law_pass_rules dc_law_pass_rules pm_law_pass_rules cd_law_pass_rules ct_law_pass_rules : Value} (a_law_pass_rules : PySem.W.nsIn K mainGlobals "_law_pass_rules" = some (some (.ref f_law_pass_rules))) (l_law_pass_rules : K.lookup f_law_pass_rules = some ⟨oc_law_pass_rules, od_law_pass_rules, .func (PySem.W.fnOf "_law_pass_rules" "_law_pass_rules" (defArgs s_law_pass_rules) (defBody s_law_pass_rules) (defScope s_law_pass_rules) .none kV_law_pass_rules dc_law_pass_rules pm_law_pass_rules an_law_pass_rules cd_law_pass_rules ct_law_pass_rules), sl_law_pass_rules⟩) (c_law_pass_rules : PySem.W.codeIn K cd_law_pass_rules "_law_pass_rules" = true) (k_law_pass_rules : PySem.W.keepIn K (.ref f_law_pass_rules) = true)
    {f_law : Addr} {od_law an_law : Option Addr} {sl_law : Array (Option Value)} {oc_law kV_law dc_law pm_law cd_law ct_law : Value} (a_law : PySem.W.nsIn K mainGlobals "law" = some (some (.ref f_law))) (l_law : K.lookup f_law = some ⟨oc_law, od_law, .func (PySem.W.fnOf "law" "law" (defArgs s_law) (defBody s_law) (defScope s_law) .none kV_law dc_law pm_law an_law cd_law ct_law), sl_law⟩) (c_law : PySem.W.codeIn K cd_law "law" = true) (k_law : PySem.W.keepIn K (.ref f_law) = true)
     (z_enumerate : PySem.W.nsIn K mainGlobals "enumerate" = some none)
    (z_all : PySem.W.nsIn K mainGlobals "all" = some none)
    (z_bool : PySem.W.nsIn K mainGlobals "bool" = some none)
    (z_dict : PySem.W.nsIn K mainGlobals "dict" = some none)
    (z_int : PySem.W.nsIn K mainGlobals "int" = some none)
    (z_isinstance : PySem.W.nsIn K mainGlobals "isinstance" = some none)
    (z_len : PySem.W.nsIn K mainGlobals "len" = some none)
    (z_list : PySem.W.nsIn K mainGlobals "list" = some none)
    (z_max : PySem.W.nsIn K mainGlobals "max" = some none)
    (z_range : PySem.W.nsIn K mainGlobals "range" = some none)
    (z_set : PySem.W.nsIn K mainGlobals "set" = some none)
    (z_sorted : PySem.W.nsIn K mainGlobals "sorted" = some none)
    (z_str : PySem.W.nsIn K mainGlobals "str" = some none)
    (z_sum : PySem.W.nsIn K mainGlobals "sum" = some none)
    (z_tuple : PySem.W.nsIn K mainGlobals "tuple" = some none) :
    ∃ fd : FuncData, (∀ (s : Shared) (v : Value), BindsTo s fd ⟨[v], []⟩ [("script", v)]) ∧ ∀ base : Heap, K.In base → base.Ns mainGlobals mg → FnOk l.prog w K mg base CX0 65 fa fd ["script"] (spLaw K) := by
  have e := hfa.symm.trans (PySem.W.mg_of X G a_law)
  cases e
  have cl_Growth : Cls K C_Growth := ⟨pg_Growth, hd_Growth, po_Growth, sa_Growth⟩
  have mC_Growth := PySem.W.mg_of X G aC_Growth
  have F_Growth_init := fun_mk (st := s_Growth_init) l_Growth_init c_Growth_init k_Growth_init
  have b_Growth_init := F_Growth_init.binds (ps := ["self", "many"]) fun _ _ _ _ _ _ us hl => match us, hl with | [_, _], _ => rfl
  have t_Growth_init : Meth K C_Growth "__init__" f_Growth_init := ⟨a_Growth_init, i_Growth_init, k_Growth_init⟩
  have F_Growth_line_of := fun_mk (st := s_Growth_line_of) l_Growth_line_of c_Growth_line_of k_Growth_line_of
  have b_Growth_line_of := F_Growth_line_of.binds (ps := ["self", "i", "j"]) fun _ _ _ _ _ _ us hl => match us, hl with | [_, _, _], _ => rfl
  have t_Growth_line_of : Meth K C_Growth "line_of" f_Growth_line_of := ⟨a_Growth_line_of, i_Growth_line_of, k_Growth_line_of⟩
  have F_Growth_has := fun_mk (st := s_Growth_has) l_Growth_has c_Growth_has k_Growth_has
  have b_Growth_has := F_Growth_has.binds (ps := ["self", "i", "j"]) fun _ _ _ _ _ _ us hl => match us, hl with | [_, _, _], _ => rfl
  have t_Growth_has : Meth K C_Growth "has" f_Growth_has := ⟨a_Growth_has, i_Growth_has, k_Growth_has⟩
  have F_Growth_grow := fun_mk (st := s_Growth_grow) l_Growth_grow c_Growth_grow k_Growth_grow
  have b_Growth_grow := F_Growth_grow.binds (ps := ["self", "i", "j", "why"]) fun _ _ _ _ _ _ us hl => match us, hl with | [_, _, _, _], _ => rfl
  have t_Growth_grow : Meth K C_Growth "grow" f_Growth_grow := ⟨a_Growth_grow, i_Growth_grow, k_Growth_grow⟩
  have F_is_whole := fun_mk (st := s_is_whole) l_is_whole c_is_whole k_is_whole
  have b_is_whole := F_is_whole.binds (ps := ["n"]) fun _ _ _ _ _ _ us hl => match us, hl with | [_], _ => rfl
  have m_is_whole := PySem.W.mg_of X G a_is_whole
  have F_is_below := fun_mk (st := s_is_below) l_is_below c_is_below k_is_below
  have b_is_below := F_is_below.binds (ps := ["n", "bound"]) fun _ _ _ _ _ _ us hl => match us, hl with | [_, _], _ => rfl
  have m_is_below := PySem.W.mg_of X G a_is_below
  have F_bits_of := fun_mk (st := s_bits_of) l_bits_of c_bits_of k_bits_of
  have b_bits_of := F_bits_of.binds (ps := ["mask"]) fun _ _ _ _ _ _ us hl => match us, hl with | [_], _ => rfl
  have m_bits_of := PySem.W.mg_of X G a_bits_of
  have F_begin := fun_mk (st := s_begin) l_begin c_begin k_begin
  have b_begin := F_begin.binds (ps := ["growth", "sheet"]) fun _ _ _ _ _ _ us hl => match us, hl with | [_, _], _ => rfl
  have m_begin := PySem.W.mg_of X G a_begin
  have F_boths_by_part := fun_mk (st := s_boths_by_part) l_boths_by_part c_boths_by_part k_boths_by_part
  have b_boths_by_part := F_boths_by_part.binds (ps := ["sheet"]) fun _ _ _ _ _ _ us hl => match us, hl with | [_], _ => rfl
  have m_boths_by_part := PySem.W.mg_of X G a_boths_by_part
  have F_rules_by_premise := fun_mk (st := s_rules_by_premise) l_rules_by_premise c_rules_by_premise k_rules_by_premise
  have b_rules_by_premise := F_rules_by_premise.binds (ps := ["rules"]) fun _ _ _ _ _ _ us hl => match us, hl with | [_], _ => rfl
  have m_rules_by_premise := PySem.W.mg_of X G a_rules_by_premise
  have F_grow_by_turn := fun_mk (st := s_grow_by_turn) l_grow_by_turn c_grow_by_turn k_grow_by_turn
  have b_grow_by_turn := F_grow_by_turn.binds (ps := ["growth", "i", "j"]) fun _ _ _ _ _ _ us hl => match us, hl with | [_, _, _], _ => rfl
  have m_grow_by_turn := PySem.W.mg_of X G a_grow_by_turn
  have F_grow_by_chain := fun_mk (st := s_grow_by_chain) l_grow_by_chain c_grow_by_chain k_grow_by_chain
  have b_grow_by_chain := F_grow_by_chain.binds (ps := ["growth", "i", "j"]) fun _ _ _ _ _ _ us hl => match us, hl with | [_, _, _], _ => rfl
  have m_grow_by_chain := PySem.W.mg_of X G a_grow_by_chain
  have F_grow_by_both := fun_mk (st := s_grow_by_both) l_grow_by_both c_grow_by_both k_grow_by_both
  have b_grow_by_both := F_grow_by_both.binds (ps := ["growth", "i", "boths"]) fun _ _ _ _ _ _ us hl => match us, hl with | [_, _, _], _ => rfl
  have m_grow_by_both := PySem.W.mg_of X G a_grow_by_both
  have F_grow_by_clash := fun_mk (st := s_grow_by_clash) l_grow_by_clash c_grow_by_clash k_grow_by_clash
  have b_grow_by_clash := F_grow_by_clash.binds (ps := ["growth", "i", "j"]) fun _ _ _ _ _ _ us hl => match us, hl with | [_, _, _], _ => rfl
  have m_grow_by_clash := PySem.W.mg_of X G a_grow_by_clash
  have F_grow_by_rule := fun_mk (st := s_grow_by_rule) l_grow_by_rule c_grow_by_rule k_grow_by_rule
  have b_grow_by_rule := F_grow_by_rule.binds (ps := ["growth", "rules", "r"]) fun _ _ _ _ _ _ us hl => match us, hl with | [_, _, _], _ => rfl
  have m_grow_by_rule := PySem.W.mg_of X G a_grow_by_rule
  have F_closing := fun_mk (st := s_closing) l_closing c_closing k_closing
  have b_closing := F_closing.binds (ps := ["sheet", "rules"]) fun _ _ _ _ _ _ us hl => match us, hl with | [_, _], _ => rfl
  have m_closing := PySem.W.mg_of X G a_closing
  have F_law_name_by := fun_mk (st := s_law_name_by) l_law_name_by c_law_name_by k_law_name_by
  have b_law_name_by := F_law_name_by.binds (ps := ["cell", "size"]) fun _ _ _ _ _ _ us hl => match us, hl with | [_, _], _ => rfl
  have m_law_name_by := PySem.W.mg_of X G a_law_name_by
  have F_law_turned := fun_mk (st := s_law_turned) l_law_turned c_law_turned k_law_turned
  have b_law_turned := F_law_turned.binds (ps := ["n"]) fun _ _ _ _ _ _ us hl => match us, hl with | [_], _ => rfl
  have m_law_turned := PySem.W.mg_of X G a_law_turned
  have F_law_sheet_and_rules := fun_mk (st := s_law_sheet_and_rules) l_law_sheet_and_rules c_law_sheet_and_rules k_law_sheet_and_rules
  have b_law_sheet_and_rules := F_law_sheet_and_rules.binds (ps := ["script", "most", "many"]) fun _ _ _ _ _ _ us hl => match us, hl with | [_, _, _], _ => rfl
  have m_law_sheet_and_rules := PySem.W.mg_of X G a_law_sheet_and_rules
  have F_law_pass_alone := fun_mk (st := s_law_pass_alone) l_law_pass_alone c_law_pass_alone k_law_pass_alone
  have b_law_pass_alone := F_law_pass_alone.binds (ps := ["rows", "top", "pairs"]) fun _ _ _ _ _ _ us hl => match us, hl with | [_, _, _], _ => rfl
  have m_law_pass_alone := PySem.W.mg_of X G a_law_pass_alone
  have F_law_pass_chains := fun_mk (st := s_law_pass_chains) l_law_pass_chains c_law_pass_chains k_law_pass_chains
  have b_law_pass_chains := F_law_pass_chains.binds (ps := ["top", "pairs"]) fun _ _ _ _ _ _ us hl => match us, hl with | [_, _], _ => rfl
  have m_law_pass_chains := PySem.W.mg_of X G a_law_pass_chains
  have F_law_pass_rules := fun_mk (st := s_law_pass_rules) l_law_pass_rules c_law_pass_rules k_law_pass_rules
  have b_law_pass_rules := F_law_pass_rules.binds (ps := ["rules", "pairs"]) fun _ _ _ _ _ _ us hl => match us, hl with | [_, _], _ => rfl
  have m_law_pass_rules := PySem.W.mg_of X G a_law_pass_rules
  have F_law := fun_mk (st := s_law) l_law c_law k_law
  have b_law := F_law.binds (ps := ["script"]) fun _ _ _ _ _ _ us hl => match us, hl with | [_], _ => rfl
  have m_law := PySem.W.mg_of X G a_law
  have bi : Bi mg := ⟨PySem.W.mg_none_of X G z_len, PySem.W.mg_none_of X G z_range, PySem.W.mg_none_of X G z_isinstance, PySem.W.mg_none_of X G z_max, PySem.W.mg_none_of X G z_sum, PySem.W.mg_none_of X G z_all, PySem.W.mg_none_of X G z_tuple, PySem.W.mg_none_of X G z_list, PySem.W.mg_none_of X G z_sorted, PySem.W.mg_none_of X G z_set, PySem.W.mg_none_of X G z_int, PySem.W.mg_none_of X G z_bool, PySem.W.mg_none_of X G z_str, PySem.W.mg_none_of X G z_dict⟩
  refine ⟨PySem.W.fnOf "law" "law" (defArgs s_law) (defBody s_law) (defScope s_law) .none kV_law dc_law pm_law an_law cd_law ct_law, fun s v => .of_eq rfl, fun base _ _ => ?_⟩
  have be : mg "enumerate" = none := PySem.W.mg_none_of X G z_enumerate
  have T : GrC K C_Growth := ⟨cl_Growth, n_Growth_lines, n_Growth_places, n_Growth_above, n_Growth_below⟩
  have h0 := has_of F_is_whole (ok_is_whole (P := l.prog) (w := w) (base := base) bi F_is_whole) b_is_whole m_is_whole
  have h1 := has_of F_is_below (ok_is_below bi h0 F_is_below) b_is_below m_is_below
  have h2 := has_of F_bits_of (ok_bits_of (P := l.prog) (w := w) (base := base) bi F_bits_of) b_bits_of m_bits_of
  have g0 : HasI l.prog w K mg base 1 C_Growth "Growth" ["self", "many"] (spGI C_Growth) := ⟨_, _, ok_ginit T F_Growth_init, b_Growth_init, ⟨mk_Growth, a_Growth_init, i_Growth_init, kc_Growth⟩, mC_Growth⟩
  have g1 : HasM l.prog w K mg base 1 C_Growth "line_of" ["self", "i", "j"] (spLo C_Growth) := ⟨_, _, ok_line_of T F_Growth_line_of, b_Growth_line_of, t_Growth_line_of⟩
  have g2 : HasM l.prog w K mg base 1 C_Growth "has" ["self", "i", "j"] (spHs C_Growth) := ⟨_, _, ok_has T F_Growth_has, b_Growth_has, t_Growth_has⟩
  have g3 : HasM l.prog w K mg base 2 C_Growth "grow" ["self", "i", "j", "why"] (spGw C_Growth) := ⟨_, _, ok_grow T bi g2 F_Growth_grow, b_Growth_grow, t_Growth_grow⟩
  have c1 := has_of F_begin (ok_begin T bi be g3 F_begin) b_begin m_begin
  have c2 := has_of F_boths_by_part (ok_boths (P := l.prog) (w := w) (base := base) bi be F_boths_by_part) b_boths_by_part m_boths_by_part
  have c3 := has_of F_rules_by_premise (ok_rules_by_premise (P := l.prog) (w := w) (base := base) bi be F_rules_by_premise) b_rules_by_premise m_rules_by_premise
  have c4 := has_of F_grow_by_turn (ok_turn T g1 g3 F_grow_by_turn) b_grow_by_turn m_grow_by_turn
  have c5 := has_of F_grow_by_chain (ok_chain T bi h2 g1 g3 F_grow_by_chain) b_grow_by_chain m_grow_by_chain
  have c6 := has_of F_grow_by_both (ok_both T g1 g2 g3 F_grow_by_both) b_grow_by_both m_grow_by_both
  have c7 := has_of F_grow_by_clash (ok_clash T bi g1 g3 F_grow_by_clash) b_grow_by_clash m_grow_by_clash
  have c8 := has_of F_grow_by_rule (ok_rule T bi h1 g1 g2 g3 F_grow_by_rule) b_grow_by_rule m_grow_by_rule
  have c9 := has_of F_closing (ok_closing T bi g0 c2 c3 c1 c4 c5 c6 c7 c8 F_closing) b_closing m_closing
  have h10 := has_of F_law_name_by (ok_name (P := l.prog) (w := w) (base := base) bi F_law_name_by) b_law_name_by m_law_name_by
  have h11 := has_of F_law_turned (ok_turned (P := l.prog) (w := w) (base := base) bi F_law_turned) b_law_turned m_law_turned
  have h12 := has_of F_law_sheet_and_rules (ok_sheet_and_rules bi h10 F_law_sheet_and_rules) b_law_sheet_and_rules m_law_sheet_and_rules
  have h13 := has_of F_law_pass_alone (ok_pass_alone bi h11 F_law_pass_alone) b_law_pass_alone m_law_pass_alone
  have h14 := has_of F_law_pass_rules (ok_pass_rules (P := l.prog) (w := w) (base := base) bi F_law_pass_rules) b_law_pass_rules m_law_pass_rules
  have h15 := has_of F_law_pass_chains (ok_pass_chains bi h11 F_law_pass_chains) b_law_pass_chains m_law_pass_chains
  exact ok_law bi h12 c9 h13 h14 h15 F_law
theorem walk {l : PySem.W.OpenLaw} {q : Program} {loose : List Str} {XP : (Str → Option Value) → Heap → Prop} {YP : World → Heap → Prop} {d : DefRec} {K : Params → PySem.W.Frag} (hn : l.most = some 63) (hdf : d.params.defaults = [])
    (hY : ∀ (w : World) (h : Heap), YP w h → (K w.params).In h)
    (F : ∀ (w : World) (mg : Str → Option Value) (fa : Addr) (h : Heap), (K w.params).In h → h.Ns mainGlobals mg → mg d.name = some (.ref fa) →
      ∃ fd : FuncData, (∀ (s : Shared) (u : Value), BindsTo s fd ⟨[u], []⟩ [("script", u)]) ∧ ∀ base : Heap, (K w.params).In base → base.Ns mainGlobals mg → FnOk l.prog w (K w.params) mg base CX0 65 fa fd ["script"] (spLaw (K w.params))) :
    PySem.W.WalkO q loose XP YP l.row.toRowW d [] (fun f vs => PySem.call f vs) :=
  L2.walk_of (n := 63) (k := 65) (x := "script") (CX := fun _ => CX0) (sp := fun w => spLaw (K w.params)) hn (by decide) hdf ⟨rfl, by decide, by decide⟩ hY F (fun _ _ a ns hl _ hS => ⟨a, ns, rfl, hS, hl, fun _ => rfl⟩) fun _ _ _ _ _ z => z
end C
set_option Elab.async false
set_option linter.all false
set_option maxRecDepth 100000
set_option maxHeartbeats 8000000
open PySem PySem.W PyProof.Rows
set_option maxRecDepth 100000 in
set_option maxHeartbeats 0 in
theorem PySem.Challenge.cw_clashbook_k17_closing_by_passes_holds : PySem.Challenge.rw_clashbook_k17_closing_by_passes.Holds := by
  w_on; o_law; k_head; (case hw => w_witness2)
  k_fill
  refine C.walk (l := PySem.Challenge.rw_clashbook_k17_closing_by_passes) rfl rfl (fun w h Y => PySem.W.kIn_of Y) ?F
  case F =>
    intro w mg fa h KX G hmg
    refine' C.all_mk KX G hmg ?aC_Growth ?a_Growth_init ?i_Growth_init ?l_Growth_init ?c_Growth_init ?k_Growth_init ?a_Growth_line_of ?i_Growth_line_of ?l_Growth_line_of ?c_Growth_line_of ?k_Growth_line_of ?a_Growth_has ?i_Growth_has ?l_Growth_has ?c_Growth_has ?k_Growth_has ?a_Growth_grow ?i_Growth_grow ?l_Growth_grow ?c_Growth_grow ?k_Growth_grow ?pg_Growth ?hd_Growth ?po_Growth ?sa_Growth ?mk_Growth ?kc_Growth ?n_Growth_lines ?n_Growth_places ?n_Growth_above ?n_Growth_below ?a_is_whole ?l_is_whole ?c_is_whole ?k_is_whole ?a_is_below ?l_is_below ?c_is_below ?k_is_below ?a_bits_of ?l_bits_of ?c_bits_of ?k_bits_of ?a_begin ?l_begin ?c_begin ?k_begin ?a_boths_by_part ?l_boths_by_part ?c_boths_by_part ?k_boths_by_part ?a_rules_by_premise ?l_rules_by_premise ?c_rules_by_premise ?k_rules_by_premise ?a_grow_by_turn ?l_grow_by_turn ?c_grow_by_turn ?k_grow_by_turn ?a_grow_by_chain ?l_grow_by_chain ?c_grow_by_chain ?k_grow_by_chain ?a_grow_by_both ?l_grow_by_both ?c_grow_by_both ?k_grow_by_both ?a_grow_by_clash ?l_grow_by_clash ?c_grow_by_clash ?k_grow_by_clash ?a_grow_by_rule ?l_grow_by_rule ?c_grow_by_rule ?k_grow_by_rule ?a_closing ?l_closing ?c_closing ?k_closing ?a_law_name_by ?l_law_name_by ?c_law_name_by ?k_law_name_by ?a_law_turned ?l_law_turned ?c_law_turned ?k_law_turned ?a_law_sheet_and_rules ?l_law_sheet_and_rules ?c_law_sheet_and_rules ?k_law_sheet_and_rules ?a_law_pass_alone ?l_law_pass_alone ?c_law_pass_alone ?k_law_pass_alone ?a_law_pass_chains ?l_law_pass_chains ?c_law_pass_chains ?k_law_pass_chains ?a_law_pass_rules ?l_law_pass_rules ?c_law_pass_rules ?k_law_pass_rules ?a_law ?l_law ?c_law ?k_law ?z_enumerate ?z_all ?z_bool ?z_dict ?z_int ?z_isinstance ?z_len ?z_list ?z_max ?z_range ?z_set ?z_sorted ?z_str ?z_sum ?z_tuple
    (case aC_Growth => k_is); (case a_Growth_init => k_is); (case i_Growth_init => k_is); (case l_Growth_init => k_is)
    (case c_Growth_init => k_is); (case k_Growth_init => k_is); (case a_Growth_line_of => k_is); (case i_Growth_line_of => k_is)
    (case l_Growth_line_of => k_is); (case c_Growth_line_of => k_is); (case k_Growth_line_of => k_is); (case a_Growth_has => k_is)
    (case i_Growth_has => k_is); (case l_Growth_has => k_is); (case c_Growth_has => k_is); (case k_Growth_has => k_is)
    (case a_Growth_grow => k_is); (case i_Growth_grow => k_is); (case l_Growth_grow => k_is); (case c_Growth_grow => k_is)
    (case k_Growth_grow => k_is); (case pg_Growth => k_is); (case hd_Growth => k_is); (case po_Growth => k_is)
    (case sa_Growth => k_is); (case mk_Growth => k_is); (case kc_Growth => k_is); (case n_Growth_lines => k_is)
    (case n_Growth_places => k_is); (case n_Growth_above => k_is); (case n_Growth_below => k_is); (case a_is_whole => k_is)
    (case l_is_whole => k_is); (case c_is_whole => k_is); (case k_is_whole => k_is); (case a_is_below => k_is)
    (case l_is_below => k_is); (case c_is_below => k_is); (case k_is_below => k_is); (case a_bits_of => k_is)
    (case l_bits_of => k_is); (case c_bits_of => k_is); (case k_bits_of => k_is); (case a_begin => k_is)
    (case l_begin => k_is); (case c_begin => k_is); (case k_begin => k_is); (case a_boths_by_part => k_is)
    (case l_boths_by_part => k_is); (case c_boths_by_part => k_is); (case k_boths_by_part => k_is); (case a_rules_by_premise => k_is)
    (case l_rules_by_premise => k_is); (case c_rules_by_premise => k_is); (case k_rules_by_premise => k_is); (case a_grow_by_turn => k_is)
    (case l_grow_by_turn => k_is); (case c_grow_by_turn => k_is); (case k_grow_by_turn => k_is); (case a_grow_by_chain => k_is)
    (case l_grow_by_chain => k_is); (case c_grow_by_chain => k_is); (case k_grow_by_chain => k_is); (case a_grow_by_both => k_is)
    (case l_grow_by_both => k_is); (case c_grow_by_both => k_is); (case k_grow_by_both => k_is); (case a_grow_by_clash => k_is)
    (case l_grow_by_clash => k_is); (case c_grow_by_clash => k_is); (case k_grow_by_clash => k_is); (case a_grow_by_rule => k_is)
    (case l_grow_by_rule => k_is); (case c_grow_by_rule => k_is); (case k_grow_by_rule => k_is); (case a_closing => k_is)
    (case l_closing => k_is); (case c_closing => k_is); (case k_closing => k_is); (case a_law_name_by => k_is)
    (case l_law_name_by => k_is); (case c_law_name_by => k_is); (case k_law_name_by => k_is); (case a_law_turned => k_is)
    (case l_law_turned => k_is); (case c_law_turned => k_is); (case k_law_turned => k_is); (case a_law_sheet_and_rules => k_is)
    (case l_law_sheet_and_rules => k_is); (case c_law_sheet_and_rules => k_is); (case k_law_sheet_and_rules => k_is); (case a_law_pass_alone => k_is)
    (case l_law_pass_alone => k_is); (case c_law_pass_alone => k_is); (case k_law_pass_alone => k_is); (case a_law_pass_chains => k_is)
    (case l_law_pass_chains => k_is); (case c_law_pass_chains => k_is); (case k_law_pass_chains => k_is); (case a_law_pass_rules => k_is)
    (case l_law_pass_rules => k_is); (case c_law_pass_rules => k_is); (case k_law_pass_rules => k_is); (case a_law => k_is)
    (case l_law => k_is); (case c_law => k_is); (case k_law => k_is); (case z_enumerate => k_is)
    (case z_all => k_is); (case z_bool => k_is); (case z_dict => k_is); (case z_int => k_is)
    (case z_isinstance => k_is); (case z_len => k_is); (case z_list => k_is); (case z_max => k_is)
    (case z_range => k_is); (case z_set => k_is); (case z_sorted => k_is); (case z_str => k_is)
    (case z_sum => k_is); (case z_tuple => k_is)
#print axioms PySem.Challenge.cw_clashbook_k17_closing_by_passes_holds
